/- CmdParents: What is cloned is the parent's, whatever was done on the stage ahead: the file gets just those bytes. Conditions: those of the form alone. -/
import Derived.Test.YthbajmlmjjfgpaaGreatDoorTie
import Derived.Test.YthbajmlmjjfgpaaGreatDoorCards
import Derived.SevenTiedAt
import Derived.Test.YthbajmlmjjfgpaaGreatDoorQ00
set_option maxRecDepth 1000000
open Go.Proofs.Tryz
namespace Go.Proofs.YthbajmlmjjfgpaaGreatDoor
open Go.ChangeShapes Go.WideShapes Go.ChangeAt Go.WideMaps Go.WideElems Go.RowKit Go.Joins Go.Deep
open Go.ChangeMaps (open_string shut_string)
theorem cmdParents_lifted (os : Os) (started : os.Started) (H : Type) (enc : TypeId × Value -> H) :
  ReturnsInHanded {} Tryz.checked os 6 .any (λw args => (Rows.cmdParentsSpec.pre enc prog Tryz.f6 [] false w args /\ laidMetH prog Rows.cmdParentsRow.laid w) /\ sizedMet enc prog Tryz.f6 (OpenSpec.ofChange Rows.cmdParentsSpec) false w args)
   (Rows.cmdParentsSpec.post enc prog Tryz.f6 false true false false) := by
 refine returnsInHanded_of_change_and (C := Tryz.checked) (X := λw _ => laidMetH prog Rows.cmdParentsRow.laid w) (λ_ _ _ hh h => h.of_heap hh) own started (by kernel_rfl) func6
  (ChangeSpec.witness_shaped (enc := enc) (C := Tryz.checked) (os := os) (X := λw _ => laidMetH prog Rows.cmdParentsRow.laid w) false (World.laidAll prog os Rows.cmdParentsRow.laid) #[.slice none 0 0, .slice none 0 0, .agg #[.int .i64 0, .int .i64 0, .int .i64 0, .int .i64 0, .int .i64 0, .int .i64 0, .string ⟨#[]⟩, .string ⟨#[]⟩]] 8 (World.laidAll_os _ _ _)
   (World.shaped_of_ZipB (by kernel_rfl) (by kernel_rfl)) (by kernel_rfl) (by kernel_rfl) (by kernel_rfl)
   (by rw [MakeChecks.laidMetH_plain _ _ _ (by kernel_rfl)]; exact laidMet_laidAll _ (by kernel_rfl) (by kernel_rfl))) ?_
 intro W base args ds gs before hval0 hW _ hsz0 hL _
 have hsz : (DataW.weightsEach prog (Tryz.f6.params.toList ++ Rows.cmdParentsSpec.plain.varTypes prog) (ds ++ gs)).all (· <= reachBytes) = true := hsz0
 clear hsz0
 have hval : ∀ (j : Nat) t v, Tryz.f6.params[j]? = some t -> args[j]? = some v -> Value.okWide prog W .any base t v := hval0
 have hW' := hW
 obtain ⟨p, q, hA0, hV, rfl, hfz, hnd⟩ := hW
 have hA : DataW.TrodAll enc prog W 0 (λ_ => true) true Tryz.f6.params.toList args.toList ds p := hA0
 rw [Tryz.params6] at hA hval hsz
 obtain ⟨v0, v1, v2, d0, d1, d2, p0, p1, p2, rfl, rfl, rfl, h0, h1, h2⟩ := trodAll_three hA
 obtain ⟨rfl, rfl⟩ := trodVars_none hV
 rw [MakeChecks.laidMetH_plain _ _ _ (by kernel_rfl)] at hL
 have hDg := of_laid hL (by kernel_rfl) (by kernel_rfl) (by kernel_rfl) (by kernel_rfl)
 have hTn := tn_of hL.tail.tail (by kernel_rfl) (by kernel_rfl)
 have h0k := h0
 obtain ⟨a0, n0, c0, rfl⟩ := okWide_slice underlying38 (hval 0 38 v0 rfl rfl)
 obtain ⟨fuel0, hf0⟩ := h0
 obtain ⟨a', n', c', l0, he, hO0, hn0⟩ := ops_open (show DataW.trod enc prog W 0 (λ_ => true) true fuel0 38 [.slice a0 n0 c0] = some (d0, p0) from hf0) (λx hx => of_decide_eq_true (List.all_eq_true.1 hsz _ (DataW.weights_mem_each (j := 0) rfl rfl x hx)))
 injection he with e1 e2 e3
 subst e1 e2 e3
 have h1k := h1
 obtain ⟨a1, n1, c1, rfl⟩ := okWide_slice underlying39 (hval 1 39 v1 rfl rfl)
 obtain ⟨fuel1, hf1⟩ := h1
 obtain ⟨a', n', c', l1, he, hO1, hn1⟩ := cmds_open (show DataW.trod enc prog W 0 (λ_ => true) true fuel1 39 [.slice a1 n1 c1] = some (d1, p1) from hf1) (λx hx => of_decide_eq_true (List.all_eq_true.1 hsz _ (DataW.weights_mem_each (j := 1) rfl rfl x hx)))
 injection he with e1 e2 e3
 subst e1 e2 e3
 have h2k := h2
 obtain ⟨⟨x20, x21, x22, x23, x24, x25, x26, x27⟩, rfl, hq2⟩ := cmd_open hsz (j := 2) rfl rfl (hval 2 23 v2 rfl rfl) h2
 clear hA0 hval0
 simp only [List.append_nil] at hW'
 refine (cmdParents_any a0 n0 c0 l0 a1 n1 c1 l1 x20 x21 x22 x23 x24 x25 x26 x27 W hO0 hO1 hn0 hn1 hq2 hDg hTn).mono ?_
 rintro e W2 ⟨rfl, hn⟩
 have hlt0 : ∀ x ∈ p0, x.block < W.heap.size := λx hx => by simpa using hW'.lt x (by simp [hx])
 have hlt1 : ∀ x ∈ p1, x.block < W.heap.size := λx hx => by simpa using hW'.lt x (by simp [hx])
 have hlt2 : ∀ x ∈ p2, x.block < W.heap.size := λx hx => by simpa using hW'.lt x (by simp [hx])
 refine ⟨_, rfl, _, _, _, [], p0 ++ p1 ++ p2, [], hW', trodAll_mk1 (shut_bool underlying4 _), ?_, rfl, hn.frame _, λh => by cases h⟩
 have := trodAll_mk3 (Below.trod laidOut (by kernel_rfl) (of_decide_eq_true (by kernel_rfl)) h0k hn hlt0) (Below.trod laidOut (by kernel_rfl) (of_decide_eq_true (by kernel_rfl)) h1k hn hlt1) (Below.trod laidOut (by kernel_rfl) (of_decide_eq_true (by kernel_rfl)) h2k hn hlt2)
 first | (simp only [List.append_nil] at this; exact this) | (rw [<- List.append_assoc] at this; exact this) | exact this
theorem cmdParents_place : (Rows.cmdParentsRow.inPlace == prog.inPlace 6) = true := by kernel_rfl
theorem cmdParents_follow : (Rows.cmdParentsRow.unfollowed == prog.unfollowed 6) = true := by kernel_rfl
theorem cmdParents_recurs : (Rows.cmdParentsRow.recurses == prog.recurses 6) = true := by kernel_rfl
theorem cmdParents_vars : (Rows.cmdParentsRow.named == prog.varsNamed 6) = true := by kernel_rfl
theorem cmdParents_goes : false = Rows.cmdParentsRow.goesBy Tryz.pinned.checked.prog := by kernel_rfl
theorem cmdParents_closed : joinedFacts Tryz.pinned.checked.prog 6 Tryz.f6 Rows.cmdParentsSpec Rows.cmdParentsRow = true := by
 show joinedFacts prog 6 Tryz.f6 Rows.cmdParentsSpec Rows.cmdParentsRow = true
 unfold joinedFacts
 rw [cmdParents_place, cmdParents_follow, cmdParents_recurs, cmdParents_vars]
 kernel_rfl
theorem cmdParents_named : Tryz.pinned.checked.prog.funcNamed Rows.cmdParentsRow.func = some 6 := by kernel_rfl
theorem cmdParents_inst : Tryz.f6.isInstance Tryz.pinned.checked.prog Rows.cmdParentsRow.origin Rows.cmdParentsRow.targs := of_decide_eq_true (by kernel_rfl)
theorem cmdParents_wrap : Tryz.f6.isWrapper Tryz.pinned.checked.prog Rows.cmdParentsRow.wrapper Rows.cmdParentsRow.mainSum := by
 unfold Func.isWrapper
 first | (rw [if_pos (by decide +kernel)]; kernel_rfl) | (rw [if_neg (by decide +kernel)]; exact ⟨rfl, rfl⟩)
theorem cmdParents_holds : Rows.CmdParentsSaid :=
 OpenClaim.holds_of_wide 6 Tryz.f6 rfl rfl rfl rfl rfl rfl rfl ⟨rfl, rfl, rfl, rfl, rfl⟩ rfl rfl rfl rfl rfl cmdParents_named func6 cmdParents_closed cmdParents_inst cmdParents_wrap
  (λos started H enc _ => cmdParents_lifted os started H enc)
theorem cmdParents_card : Rows.CmdParentsCardSaid :=
 Claim7.holds_tied_plain_at .later [] [.data, .data, .data] true Rows.cmdParentsCard.stood.harness false
  cmdParents_holds (λ_ h => by cases h) (by kernel_rfl) (λ_ h => by cases h) cmdParents_row_tie rfl ⟨rfl, rfl⟩ (by kernel_rfl) rfl
  (λf fn hf hfn => by
   obtain rfl : f = 6 := Option.some.inj ((show prog.funcNamed Rows.cmdParentsRow.func = some 6 by kernel_rfl).symm.trans hf) |>.symm
   obtain rfl : fn = Tryz.f6 := (Option.some.inj (func6.symm.trans hfn)).symm
   exact ⟨by kernel_rfl, λj t ht => by
    rw [Tryz.params6] at ht
    have hm : t ∈ [38, 39, 23] := by simpa using Array.mem_of_getElem? ht
    have hall : ([38, 39, 23].all λu => !Tryz.prog.wantsStandIn u) = true := by kernel_rfl
    exact (show prog.wantsStandIn t = false by simpa using List.all_eq_true.1 hall t hm)⟩)
  cmdParents_goes
#print axioms cmdParents_card
end Go.Proofs.YthbajmlmjjfgpaaGreatDoor
