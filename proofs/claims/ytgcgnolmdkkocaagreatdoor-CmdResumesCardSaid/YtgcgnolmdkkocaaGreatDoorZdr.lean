/- CmdResumes: whatever the operations and the commands, the law answers true; all reads as before; the listed tables are tied to the program's text. Conditions: those of the form alone. -/
import Derived.Test.YtgcgnolmdkkocaaGreatDoorTie
import Derived.Test.YtgcgnolmdkkocaaGreatDoorCards
import Derived.SevenTiedAt
import Derived.Test.YtgcgnolmdkkocaaGreatDoorM30
set_option maxRecDepth 1000000
open Go.Proofs.Tryz
namespace Go.Proofs.YtgcgnolmdkkocaaGreatDoor
open Go.ChangeShapes Go.WideShapes Go.ChangeAt Go.WideMaps Go.WideElems Go.RowKit Go.Joins Go.Deep
open Go.ChangeMaps (open_string shut_string)
theorem cmdResumes_lifted (os : Os) (started : os.Started) (H : Type) (enc : TypeId × Value -> H) :
  ReturnsInHanded {} Tryz.checked os 9 .any (λw args => (Rows.cmdResumesSpec.pre enc prog Tryz.f9 [] false w args /\ laidMetH prog Rows.cmdResumesRow.laid w) /\ sizedMet enc prog Tryz.f9 (OpenSpec.ofChange Rows.cmdResumesSpec) false w args)
   (Rows.cmdResumesSpec.post enc prog Tryz.f9 false true false false) := by
 refine returnsInHanded_of_change_and (C := Tryz.checked) (X := λw _ => laidMetH prog Rows.cmdResumesRow.laid w) (λ_ _ _ hh h => h.of_heap hh) own started (by kernel_rfl) func9
  (ChangeSpec.witness_shaped (enc := enc) (C := Tryz.checked) (os := os) (X := λw _ => laidMetH prog Rows.cmdResumesRow.laid w) false (World.laidAll prog os Rows.cmdResumesRow.laid) #[.slice none 0 0, .slice none 0 0, .int .i64 0] 8 (World.laidAll_os _ _ _)
   (World.shaped_of_ZipB (by kernel_rfl) (by kernel_rfl)) (by kernel_rfl) (by kernel_rfl) (by kernel_rfl)
   (by rw [MakeChecks.laidMetH_plain _ _ _ (by kernel_rfl)]; exact laidMet_laidAll _ (by kernel_rfl) (by kernel_rfl))) ?_
 intro W base args ds gs before hval0 hW _ hsz0 hL _
 have hsz : (DataW.weightsEach prog (Tryz.f9.params.toList ++ Rows.cmdResumesSpec.plain.varTypes prog) (ds ++ gs)).all (· <= reachBytes) = true := hsz0
 clear hsz0
 have hval : ∀ (j : Nat) t v, Tryz.f9.params[j]? = some t -> args[j]? = some v -> Value.okWide prog W .any base t v := hval0
 have hW' := hW
 obtain ⟨p, q, hA0, hV, rfl, hfz, hnd⟩ := hW
 have hA : DataW.TrodAll enc prog W 0 (λ_ => true) true Tryz.f9.params.toList args.toList ds p := hA0
 rw [Tryz.params9] at hA hval hsz
 obtain ⟨v0, v1, v2, d0, d1, d2, p0, p1, p2, rfl, rfl, rfl, h0, h1, h2⟩ := trodAll_three hA
 obtain ⟨rfl, rfl⟩ := trodVars_none hV
 rw [MakeChecks.laidMetH_plain _ _ _ (by kernel_rfl)] at hL
 have hDg := of_laid hL (by kernel_rfl) (by kernel_rfl) (by kernel_rfl) (by kernel_rfl)
 have hTn := tn_of hL.tail.tail (by kernel_rfl) (by kernel_rfl)
 have h0k := h0
 obtain ⟨a0, n0, c0, rfl⟩ := okWide_slice underlying92 (hval 0 92 v0 rfl rfl)
 obtain ⟨fuel0, hf0⟩ := h0
 obtain ⟨a', n', c', l0, he, hO0, hn0⟩ := ops_open (show DataW.trod enc prog W 0 (λ_ => true) true fuel0 92 [.slice a0 n0 c0] = some (d0, p0) from hf0) (λx hx => of_decide_eq_true (List.all_eq_true.1 hsz _ (DataW.weights_mem_each (j := 0) rfl rfl x hx)))
 injection he with e1 e2 e3
 subst e1 e2 e3
 have h1k := h1
 obtain ⟨a1, n1, c1, rfl⟩ := okWide_slice underlying93 (hval 1 93 v1 rfl rfl)
 obtain ⟨fuel1, hf1⟩ := h1
 obtain ⟨a', n', c', l1, he, hO1, hn1⟩ := cmds_open (show DataW.trod enc prog W 0 (λ_ => true) true fuel1 93 [.slice a1 n1 c1] = some (d1, p1) from hf1) (λx hx => of_decide_eq_true (List.all_eq_true.1 hsz _ (DataW.weights_mem_each (j := 1) rfl rfl x hx)))
 injection he with e1 e2 e3
 subst e1 e2 e3
 obtain ⟨z2, rfl, rfl, rfl, hz2⟩ := open_int underlying3 (hval 2 3 v2 rfl rfl) h2
 clear hA0 hval0
 simp only [List.append_nil] at hW'
 refine (cmdResumes_any a0 n0 c0 l0 a1 n1 c1 l1 z2 W hO0 hO1 hn0 hn1 hDg hTn).mono ?_
 rintro e W2 ⟨rfl, hn⟩
 have hlt0 : ∀ x ∈ p0, x.block < W.heap.size := λx hx => by simpa using hW'.lt x (by simp [hx])
 have hlt1 : ∀ x ∈ p1, x.block < W.heap.size := λx hx => by simpa using hW'.lt x (by simp [hx])
 refine ⟨_, rfl, _, _, _, [], p0 ++ p1, [], hW', trodAll_mk1 (shut_bool underlying4 _), ?_, rfl, hn.frame _, λh => by cases h⟩
 have := trodAll_mk3 (Below.trod laidOut (by kernel_rfl) (of_decide_eq_true (by kernel_rfl)) h0k hn hlt0) (Below.trod laidOut (by kernel_rfl) (of_decide_eq_true (by kernel_rfl)) h1k hn hlt1) (shut_int (enc := enc) underlying3 hz2)
 simp only [List.append_nil] at this
 exact this
theorem cmdResumes_place : (Rows.cmdResumesRow.inPlace == prog.inPlace 9) = true := by kernel_rfl
theorem cmdResumes_follow : (Rows.cmdResumesRow.unfollowed == prog.unfollowed 9) = true := by kernel_rfl
theorem cmdResumes_recurs : (Rows.cmdResumesRow.recurses == prog.recurses 9) = true := by kernel_rfl
theorem cmdResumes_vars : (Rows.cmdResumesRow.named == prog.varsNamed 9) = true := by kernel_rfl
theorem cmdResumes_goes : false = Rows.cmdResumesRow.goesBy Tryz.pinned.checked.prog := by kernel_rfl
theorem cmdResumes_closed : joinedFacts Tryz.pinned.checked.prog 9 Tryz.f9 Rows.cmdResumesSpec Rows.cmdResumesRow = true := by
 show joinedFacts prog 9 Tryz.f9 Rows.cmdResumesSpec Rows.cmdResumesRow = true
 unfold joinedFacts
 rw [cmdResumes_place, cmdResumes_follow, cmdResumes_recurs, cmdResumes_vars]
 kernel_rfl
theorem cmdResumes_named : Tryz.pinned.checked.prog.funcNamed Rows.cmdResumesRow.func = some 9 := by kernel_rfl
theorem cmdResumes_inst : Tryz.f9.isInstance Tryz.pinned.checked.prog Rows.cmdResumesRow.origin Rows.cmdResumesRow.targs := of_decide_eq_true (by kernel_rfl)
theorem cmdResumes_wrap : Tryz.f9.isWrapper Tryz.pinned.checked.prog Rows.cmdResumesRow.wrapper Rows.cmdResumesRow.mainSum := by
 unfold Func.isWrapper
 first | (rw [if_pos (by decide +kernel)]; kernel_rfl) | (rw [if_neg (by decide +kernel)]; exact ⟨rfl, rfl⟩)
theorem cmdResumes_holds : Rows.CmdResumesSaid :=
 OpenClaim.holds_of_wide 9 Tryz.f9 rfl rfl rfl rfl rfl rfl rfl ⟨rfl, rfl, rfl, rfl, rfl⟩ rfl rfl rfl rfl rfl cmdResumes_named func9 cmdResumes_closed cmdResumes_inst cmdResumes_wrap
  (λos started H enc _ => cmdResumes_lifted os started H enc)
theorem cmdResumes_card : Rows.CmdResumesCardSaid :=
 Claim7.holds_tied_plain_at .later [] [.data, .data, .data] true Rows.cmdResumesCard.stood.harness true
  cmdResumes_holds (λ_ h => by cases h) (by kernel_rfl) (λ_ h => by cases h) cmdResumes_row_tie rfl ⟨rfl, rfl⟩ (by kernel_rfl) rfl
  (λf fn hf hfn => by
   obtain rfl : f = 9 := Option.some.inj ((show prog.funcNamed Rows.cmdResumesRow.func = some 9 by kernel_rfl).symm.trans hf) |>.symm
   obtain rfl : fn = Tryz.f9 := (Option.some.inj (func9.symm.trans hfn)).symm
   exact ⟨by kernel_rfl, λj t ht => by
    rw [Tryz.params9] at ht
    have hm : t ∈ [92, 93, 3] := by simpa using Array.mem_of_getElem? ht
    have hall : ([92, 93, 3].all λu => !Tryz.prog.wantsStandIn u) = true := by kernel_rfl
    exact (show prog.wantsStandIn t = false by simpa using List.all_eq_true.1 hall t hm)⟩)
  cmdResumes_goes
#print axioms cmdResumes_card
end Go.Proofs.YtgcgnolmdkkocaaGreatDoor
