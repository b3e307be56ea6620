/- BlockApart: whatever the row of calls, the place and the data, the law answers true; all read as before. Conditions: those of the form alone. -/
import Derived.Test.YtdgbfkedgedogaaRows
import Derived.Test.YtdgbfkedgedogaaApart
import Derived.Test.YtdgbfkedgedogaaShape
namespace Go.Proofs.Ytdgbfkedgedogaa
open Go.ChangeShapes Go.WideShapes Go.ChangeAt Go.RowKit
open Go.ChangeMaps (open_string shut_string)

set_option maxRecDepth 100000 in
theorem blockApart_lifted (os : Os) (started : os.Started) (H : Type) (enc : TypeId × Value → H) :
    ReturnsInHanded {} Try.checked os 5 .any (Rows.blockApartSpec.pre6 enc Try.prog Try.f5 Rows.blockApartRow.domain false) (Rows.blockApartSpec.post enc Try.prog Try.f5 false true false false) := by
  refine returnsInHanded_of_change_sized (C := Try.checked) own started (by kernel_rfl) Try.func5
    (ChangeSpec.witness6 (enc := enc) (C := Try.checked) false ⟨#[], #[.slice none 0 0, .int .i64 0, .string ⟨#[]⟩], []⟩ 8 (by kernel_rfl) (by kernel_rfl) (by kernel_rfl) (by kernel_rfl)) ?_
  intro W base args ds gs before hval0 hW _ hsz0 _
  have hsz : (DataW.weightsEach Try.prog (Try.f5.params.toList ++ Rows.blockApartSpec.plain.varTypes Try.prog) (ds ++ gs)).all (· ≤ reachBytes) = true := hsz0
  clear hsz0
  have hval : ∀ (j : Nat) t v, Try.f5.params[j]? = some t → args[j]? = some v → Value.okWide Try.prog W .any base t v := hval0
  have hW' := hW
  obtain ⟨p, q, hA0, hV, rfl, hfz, hnd⟩ := hW
  have hA : DataW.TrodAll enc Try.prog W 0 (fun _ => true) true Try.f5.params.toList args.toList ds p := hA0
  rw [Try.params5] at hA hval hsz
  obtain ⟨v0, v1, v2, d0, d1, d2, p0, p1, p2, rfl, rfl, rfl, h0, h1, h2⟩ := trodAll_three hA
  obtain ⟨rfl, rfl⟩ := trodVars_none hV
  have h0k := h0
  obtain ⟨a0, len, cap, rfl⟩ := okWide_slice Try.underlying22 (hval 0 22 v0 rfl rfl)
  obtain ⟨fuel, hf⟩ := h0
  obtain ⟨at_, rfl, rfl, rfl, wa⟩ := open_int Try.underlying3 (hval 1 3 v1 rfl rfl) h1
  obtain ⟨d, rfl, rfl, rfl, wd⟩ := open_string Try.underlying9 (hval 2 9 v2 rfl rfl) h2
  clear hA0 hval0
  simp only [List.append_nil] at hW'
  have fin : ∀ W2, Below W.heap.size W W2 → Rows.blockApartSpec.post enc Try.prog Try.f5 false true false false W #[.slice a0 len cap, .int .i64 at_, .string d] (.bool true) W2 := by
    intro W2 hn
    have hlt : ∀ x ∈ p0, x.block < W.heap.size := fun x hx => by simpa using hW'.lt x (by simpa using hx)
    refine ⟨_, _, _, [], p0, [], hW', ?_, ?_, rfl, hn.frame _, fun h => by cases h⟩
    · exact trodAll_mk1 (shut_bool Try.underlying4 _)
    · have := trodAll_mk3 (Below.trod laidOut (by kernel_rfl) (of_decide_eq_true (by kernel_rfl)) h0k hn hlt) (shut_int Try.underlying3 wa) (shut_string Try.underlying9 wd)
      simp only [List.append_nil] at this
      exact this
  have go : ∀ l, Deeds a0 len l W → len ≤ 140737488355328 → Calls Try.prog 5 #[.slice a0 len cap, .int .i64 at_, .string d] W fun e W' => ∃ v, e = .returned v ∧ Rows.blockApartSpec.post enc Try.prog Try.f5 false true false false W #[.slice a0 len cap, .int .i64 at_, .string d] v W' := by
    intro l hS hl
    refine (apart_any a0 len cap l at_ d W hS hl wa wd).mono ?_
    rintro e W2 ⟨rfl, hn⟩
    exact ⟨_, rfl, fin W2 hn⟩
  rcases open_deeds hf with ⟨hcs, hx⟩ | ⟨a, len', cap', l, D1, D2, hcs, hlc, hx, hD, hS⟩
  · have hq : Value.slice a0 len cap = .slice none 0 0 := by simpa [Value.cells] using hcs
    injection hq with e1 e2 e3
    subst e1 e2 e3
    exact go [] ⟨rfl, fun i hi => by omega, fun x hx => by cases hx⟩ (by decide)
  · have hq : Value.slice a0 len cap = .slice (some a) len' cap' := by simpa [Value.cells] using hcs
    injection hq with e1 e2 e3
    subst e1 e2 e3
    dsimp only at hx
    subst hx
    exact go l hS (deeds_count hsz (j := 0) rfl rfl hD)

theorem blockApart_holds : Rows.BlockApartSaid :=
  OpenClaim.holds_of_wide 5 Try.f5 rfl rfl rfl rfl rfl rfl rfl ⟨rfl, rfl, rfl, rfl, rfl⟩ rfl rfl rfl rfl rfl (by kernel_rfl) Try.func5 (by kernel_rfl)
    (of_decide_eq_true (by kernel_rfl)) (by unfold Func.isWrapper; first | (rw [if_pos (by decide +kernel)]; kernel_rfl) | (rw [if_neg (by decide +kernel)]; exact ⟨rfl, rfl⟩))
    (fun os started H enc _ => blockApart_lifted os started H enc)
#print axioms blockApart_holds
end Go.Proofs.Ytdgbfkedgedogaa
