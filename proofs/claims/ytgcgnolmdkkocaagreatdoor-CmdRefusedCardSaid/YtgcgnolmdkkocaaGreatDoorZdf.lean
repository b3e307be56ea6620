/- CmdRefused: whatever the operations and the commands, the law answers true; all reads as before; the listed tables are tied to the program's text. Conditions: those of the form alone Conditions: those of the form alone. -/
import Derived.Test.YtgcgnolmdkkocaaGreatDoorE01
import Derived.Test.YtgcgnolmdkkocaaGreatDoorTie
import Derived.Test.YtgcgnolmdkkocaaGreatDoorCards
import Derived.SevenTiedAt
namespace Go.Proofs.YtgcgnolmdkkocaaGreatDoor
open Go.ChangeShapes Go.WideShapes Go.ChangeAt Go.WideMaps Go.WideElems Go.RowKit Go.Joins Go.Deep
open Go.ChangeMaps (open_string shut_string)
set_option maxRecDepth 100000 in
theorem cmdRefused_lifted (os : Os) (started : os.Started) (H : Type) (enc : TypeId × Value → H) :
    ReturnsInHanded {} Tryz.checked os 7 .any (fun w args => (Rows.cmdRefusedSpec.pre enc Tryz.prog Tryz.f7 [] false w args ∧ laidMetH Tryz.prog Rows.cmdRefusedRow.laid w) ∧ sizedMet enc Tryz.prog Tryz.f7 (OpenSpec.ofChange Rows.cmdRefusedSpec) false w args)
      (Rows.cmdRefusedSpec.post enc Tryz.prog Tryz.f7 false true false false) := by
  refine returnsInHanded_of_change_and (C := Tryz.checked) (X := fun w _ => laidMetH Tryz.prog Rows.cmdRefusedRow.laid w) (fun _ _ _ hh h => h.of_heap hh) own started (by kernel_rfl) Tryz.func7
    (ChangeSpec.witness_shaped (enc := enc) (C := Tryz.checked) (os := os) (X := fun w _ => laidMetH Tryz.prog Rows.cmdRefusedRow.laid w) false (World.laidAll Tryz.prog os Rows.cmdRefusedRow.laid) #[.slice none 0 0, .slice none 0 0] 8 (World.laidAll_os _ _ _)
      (World.shaped_of_ZipB (by kernel_rfl) (by kernel_rfl)) (by kernel_rfl) (by kernel_rfl) (by kernel_rfl)
      (by rw [MakeChecks.laidMetH_plain _ _ _ (by kernel_rfl)]; exact laidMet_laidAll _ (by kernel_rfl) (by kernel_rfl))) ?_
  intro W base args ds gs before hval0 hW _ hsz0 hL _
  have hsz : (DataW.weightsEach Tryz.prog (Tryz.f7.params.toList ++ Rows.cmdRefusedSpec.plain.varTypes Tryz.prog) (ds ++ gs)).all (· ≤ reachBytes) = true := hsz0
  clear hsz0
  have hval : ∀ (j : Nat) t v, Tryz.f7.params[j]? = some t → args[j]? = some v → Value.okWide Tryz.prog W .any base t v := hval0
  have hW' := hW
  obtain ⟨p, q, hA0, hV, rfl, hfz, hnd⟩ := hW
  have hA : DataW.TrodAll enc Tryz.prog W 0 (fun _ => true) true Tryz.f7.params.toList args.toList ds p := hA0
  rw [Tryz.params7] at hA hval hsz
  obtain ⟨v0, v1, d0, d1, p0, p1, rfl, rfl, rfl, h0, h1⟩ := trodAll_two hA
  obtain ⟨rfl, rfl⟩ := trodVars_none hV
  rw [MakeChecks.laidMetH_plain _ _ _ (by kernel_rfl)] at hL
  have hDg := of_laid hL (by kernel_rfl) (by kernel_rfl) (by kernel_rfl) (by kernel_rfl)
  have hTn := tn_of hL.tail.tail (by kernel_rfl) (by kernel_rfl)
  have h0k := h0
  obtain ⟨a0, n0, c0, rfl⟩ := okWide_slice Tryz.underlying92 (hval 0 92 v0 rfl rfl)
  obtain ⟨fuel0, hf0⟩ := h0
  obtain ⟨a', n', c', l0, he, hO0, hn0⟩ := ops_open (show DataW.trod enc Tryz.prog W 0 (fun _ => true) true fuel0 92 [.slice a0 n0 c0] = some (d0, p0) from hf0) (fun x hx => of_decide_eq_true (List.all_eq_true.1 hsz _ (DataW.weights_mem_each (j := 0) rfl rfl x hx)))
  injection he with e1 e2 e3
  subst e1 e2 e3
  have h1k := h1
  obtain ⟨a1, n1, c1, rfl⟩ := okWide_slice Tryz.underlying93 (hval 1 93 v1 rfl rfl)
  obtain ⟨fuel1, hf1⟩ := h1
  obtain ⟨a', n', c', l1, he, hO1, hn1⟩ := cmds_open (show DataW.trod enc Tryz.prog W 0 (fun _ => true) true fuel1 93 [.slice a1 n1 c1] = some (d1, p1) from hf1) (fun x hx => of_decide_eq_true (List.all_eq_true.1 hsz _ (DataW.weights_mem_each (j := 1) rfl rfl x hx)))
  injection he with e1 e2 e3
  subst e1 e2 e3
  clear hA0 hval0
  simp only [List.append_nil] at hW'
  refine (cmdRefused_any a0 n0 c0 l0 a1 n1 c1 l1 W hO0 hO1 hn0 hn1 hDg hTn).mono ?_
  rintro e W2 ⟨rfl, hn⟩
  have hlt0 : ∀ x ∈ p0, x.block < W.heap.size := fun x hx => by simpa using hW'.lt x (by simp [hx])
  have hlt1 : ∀ x ∈ p1, x.block < W.heap.size := fun x hx => by simpa using hW'.lt x (by simp [hx])
  refine ⟨_, rfl, _, _, _, [], p0 ++ p1, [], hW', trodAll_mk1 (shut_bool Tryz.underlying4 _), ?_, rfl, hn.frame _, fun h => by cases h⟩
  have := trodAll_mk2 (Below.trod laidOut (by kernel_rfl) (of_decide_eq_true (by kernel_rfl)) h0k hn hlt0) (Below.trod laidOut (by kernel_rfl) (of_decide_eq_true (by kernel_rfl)) h1k hn hlt1)
  exact this
theorem cmdRefused_place : (Rows.cmdRefusedRow.inPlace == Tryz.prog.inPlace 7) = true := by kernel_rfl
theorem cmdRefused_follow : (Rows.cmdRefusedRow.unfollowed == Tryz.prog.unfollowed 7) = true := by kernel_rfl
theorem cmdRefused_recurs : (Rows.cmdRefusedRow.recurses == Tryz.prog.recurses 7) = true := by kernel_rfl
theorem cmdRefused_vars : (Rows.cmdRefusedRow.named == Tryz.prog.varsNamed 7) = true := by kernel_rfl
theorem cmdRefused_goes : false = Rows.cmdRefusedRow.goesBy Tryz.pinned.checked.prog := by kernel_rfl
theorem cmdRefused_closed : joinedFacts Tryz.pinned.checked.prog 7 Tryz.f7 Rows.cmdRefusedSpec Rows.cmdRefusedRow = true := by
  show joinedFacts Tryz.prog 7 Tryz.f7 Rows.cmdRefusedSpec Rows.cmdRefusedRow = true
  unfold joinedFacts
  rw [cmdRefused_place, cmdRefused_follow, cmdRefused_recurs, cmdRefused_vars]
  kernel_rfl
theorem cmdRefused_named : Tryz.pinned.checked.prog.funcNamed Rows.cmdRefusedRow.func = some 7 := by kernel_rfl
theorem cmdRefused_inst : Tryz.f7.isInstance Tryz.pinned.checked.prog Rows.cmdRefusedRow.origin Rows.cmdRefusedRow.targs := of_decide_eq_true (by kernel_rfl)
theorem cmdRefused_wrap : Tryz.f7.isWrapper Tryz.pinned.checked.prog Rows.cmdRefusedRow.wrapper Rows.cmdRefusedRow.mainSum := by
  unfold Func.isWrapper
  first | (rw [if_pos (by decide +kernel)]; kernel_rfl) | (rw [if_neg (by decide +kernel)]; exact ⟨rfl, rfl⟩)
theorem cmdRefused_holds : Rows.CmdRefusedSaid :=
  OpenClaim.holds_of_wide 7 Tryz.f7 rfl rfl rfl rfl rfl rfl rfl ⟨rfl, rfl, rfl, rfl, rfl⟩ rfl rfl rfl rfl rfl cmdRefused_named Tryz.func7 cmdRefused_closed cmdRefused_inst cmdRefused_wrap
    (fun os started H enc _ => cmdRefused_lifted os started H enc)
theorem cmdRefused_card : Rows.CmdRefusedCardSaid :=
  Claim7.holds_tied_plain_at .later [] [.data, .data, .data] true Rows.cmdRefusedCard.stood.harness true
    cmdRefused_holds (fun _ h => by cases h) (by kernel_rfl) (fun _ h => by cases h) cmdRefused_row_tie rfl ⟨rfl, rfl⟩ (by kernel_rfl) rfl
    (fun f fn hf hfn => by
      obtain rfl : f = 7 := Option.some.inj ((show Tryz.prog.funcNamed Rows.cmdRefusedRow.func = some 7 by kernel_rfl).symm.trans hf) |>.symm
      obtain rfl : fn = Tryz.f7 := (Option.some.inj (Tryz.func7.symm.trans hfn)).symm
      exact ⟨by kernel_rfl, fun j t ht => by
        rw [Tryz.params7] at ht
        have hm : t ∈ [92, 93] := by simpa using Array.mem_of_getElem? ht
        have hall : ([92, 93].all fun u => !Tryz.prog.wantsStandIn u) = true := by kernel_rfl
        exact (show Tryz.prog.wantsStandIn t = false by simpa using List.all_eq_true.1 hall t hm)⟩)
    cmdRefused_goes
#print axioms cmdRefused_card
end Go.Proofs.YtgcgnolmdkkocaaGreatDoor
