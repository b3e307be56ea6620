/- BlockLasts: whatever the two rows of calls and the bits that are kept, the law answers true; all read as before. Conditions: those of the form alone. -/
import Derived.Test.YtdgbfkedgedogaaRows
import Derived.Test.YtdgbfkedgedogaaLasts
import Derived.Test.YtdgbfkedgedogaaShape
namespace Go.Proofs.Ytdgbfkedgedogaa
open Go.ChangeShapes Go.WideShapes Go.ChangeAt Go.RowKit
open Go.ChangeMaps (open_string shut_string)

set_option maxRecDepth 100000 in
theorem blockLasts_lifted (os : Os) (started : os.Started) (H : Type) (enc : TypeId × Value → H) :
    ReturnsInHanded {} Try.checked os 4 .any (Rows.blockLastsSpec.pre6 enc Try.prog Try.f4 Rows.blockLastsRow.domain false) (Rows.blockLastsSpec.post enc Try.prog Try.f4 false true false false) := by
  refine returnsInHanded_of_change_sized (C := Try.checked) own started (by kernel_rfl) Try.func4
    (ChangeSpec.witness6 (enc := enc) (C := Try.checked) false ⟨#[], #[.slice none 0 0, .slice none 0 0, .int .u64 0], []⟩ 8 (by kernel_rfl) (by kernel_rfl) (by kernel_rfl) (by kernel_rfl)) ?_
  intro W base args ds gs before hval0 hW _ hsz0 _
  have hsz : (DataW.weightsEach Try.prog (Try.f4.params.toList ++ Rows.blockLastsSpec.plain.varTypes Try.prog) (ds ++ gs)).all (· ≤ reachBytes) = true := hsz0
  clear hsz0
  have hval : ∀ (j : Nat) t v, Try.f4.params[j]? = some t → args[j]? = some v → Value.okWide Try.prog W .any base t v := hval0
  have hW' := hW
  obtain ⟨p, q, hA0, hV, rfl, hfz, hnd⟩ := hW
  have hA : DataW.TrodAll enc Try.prog W 0 (fun _ => true) true Try.f4.params.toList args.toList ds p := hA0
  rw [Try.params4] at hA hval hsz
  obtain ⟨v0, v1, v2, d0, d1, d2, p0, p1, p2, rfl, rfl, rfl, h0, h1, h2⟩ := trodAll_three hA
  obtain ⟨rfl, rfl⟩ := trodVars_none hV
  have h0k := h0
  have h1k := h1
  obtain ⟨a0, len, cap, rfl⟩ := okWide_slice Try.underlying22 (hval 0 22 v0 rfl rfl)
  obtain ⟨a1, len1, cap1, rfl⟩ := okWide_slice Try.underlying22 (hval 1 22 v1 rfl rfl)
  obtain ⟨fuel, hf⟩ := h0
  obtain ⟨fuel1, hf1⟩ := h1
  obtain ⟨k, rfl, rfl, rfl, wk⟩ := open_int Try.underlying31 (hval 2 31 v2 rfl rfl) h2
  obtain ⟨K, rfl⟩ := word64 wk
  clear hA0 hval0
  simp only [List.append_nil] at hW'
  have fin : ∀ W2, Below W.heap.size W W2 → Rows.blockLastsSpec.post enc Try.prog Try.f4 false true false false W #[.slice a0 len cap, .slice a1 len1 cap1, .int .u64 (u64 K)] (.bool true) W2 := by
    intro W2 hn
    have hlt : ∀ x ∈ p0 ++ p1, x.block < W.heap.size := fun x hx => by simpa using hW'.lt x (by simpa using hx)
    refine ⟨_, _, _, [], p0 ++ p1, [], hW', ?_, ?_, rfl, hn.frame _, fun h => by cases h⟩
    · exact trodAll_mk1 (shut_bool Try.underlying4 _)
    · have := trodAll_mk3 (Below.trod laidOut (by kernel_rfl) (of_decide_eq_true (by kernel_rfl)) h0k hn (fun x hx => hlt x (List.mem_append_left _ hx))) (Below.trod laidOut (by kernel_rfl) (of_decide_eq_true (by kernel_rfl)) h1k hn (fun x hx => hlt x (List.mem_append_right _ hx))) (shut_int Try.underlying31 wk)
      simp only [List.append_nil] at this
      exact this
  have o0 : ∃ l, Deeds a0 len l W ∧ len ≤ 140737488355328 := by
    rcases open_deeds hf with ⟨hcs, hx⟩ | ⟨a, len', cap', l, D1, D2, hcs, hlc, hx, hD, hS⟩
    · have hq : Value.slice a0 len cap = .slice none 0 0 := by simpa [Value.cells] using hcs
      injection hq with e1 e2 e3
      subst e1 e2 e3
      exact ⟨[], ⟨rfl, fun i hi => by omega, fun x hx => by cases hx⟩, by decide⟩
    · have hq : Value.slice a0 len cap = .slice (some a) len' cap' := by simpa [Value.cells] using hcs
      injection hq with e1 e2 e3
      subst e1 e2 e3
      dsimp only at hx
      subst hx
      exact ⟨l, hS, deeds_count hsz (j := 0) rfl rfl hD⟩
  have o1 : ∃ l, Deeds a1 len1 l W ∧ len1 ≤ 140737488355328 := by
    rcases open_deeds hf1 with ⟨hcs, hx⟩ | ⟨a, len', cap', l, D1, D2, hcs, hlc, hx, hD, hS⟩
    · have hq : Value.slice a1 len1 cap1 = .slice none 0 0 := by simpa [Value.cells] using hcs
      injection hq with e1 e2 e3
      subst e1 e2 e3
      exact ⟨[], ⟨rfl, fun i hi => by omega, fun x hx => by cases hx⟩, by decide⟩
    · have hq : Value.slice a1 len1 cap1 = .slice (some a) len' cap' := by simpa [Value.cells] using hcs
      injection hq with e1 e2 e3
      subst e1 e2 e3
      dsimp only at hx
      subst hx
      exact ⟨l, hS, deeds_count hsz (j := 1) rfl rfl hD⟩
  obtain ⟨l, hS, hl⟩ := o0
  obtain ⟨l1, hS1, hl1⟩ := o1
  refine (lasts_any a0 len cap l a1 len1 cap1 l1 K W hS hS1 hl hl1).mono ?_
  rintro e W2 ⟨rfl, hn⟩
  exact ⟨_, rfl, fin W2 hn⟩

theorem blockLasts_holds : Rows.BlockLastsSaid :=
  OpenClaim.holds_of_wide 4 Try.f4 rfl rfl rfl rfl rfl rfl rfl ⟨rfl, rfl, rfl, rfl, rfl⟩ rfl rfl rfl rfl rfl (by kernel_rfl) Try.func4 (by kernel_rfl)
    (of_decide_eq_true (by kernel_rfl)) (by unfold Func.isWrapper; first | (rw [if_pos (by decide +kernel)]; kernel_rfl) | (rw [if_neg (by decide +kernel)]; exact ⟨rfl, rfl⟩))
    (fun os started H enc _ => blockLasts_lifted os started H enc)
#print axioms blockLasts_holds
end Go.Proofs.Ytdgbfkedgedogaa
