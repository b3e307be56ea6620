/- BlockPlays: whatever the size and the row of calls, the law answers true; all read as before. Conditions: those of the form alone. -/
import Derived.Test.YtdgbfkedgedogaaRows
import Derived.Test.YtdgbfkedgedogaaPlays
import Derived.Test.YtdgbfkedgedogaaShape
namespace Go.Proofs.Ytdgbfkedgedogaa
open Go.ChangeShapes Go.WideShapes Go.ChangeAt Go.RowKit
open Go.ChangeMaps (open_string shut_string)

set_option maxRecDepth 100000 in
theorem blockPlays_lifted (os : Os) (started : os.Started) (H : Type) (enc : TypeId × Value → H) :
    ReturnsInHanded {} Try.checked os 3 .any (Rows.blockPlaysSpec.pre6 enc Try.prog Try.f3 Rows.blockPlaysRow.domain false) (Rows.blockPlaysSpec.post enc Try.prog Try.f3 false true false false) := by
  refine returnsInHanded_of_change_sized (C := Try.checked) own started (by kernel_rfl) Try.func3
    (ChangeSpec.witness6 (enc := enc) (C := Try.checked) false ⟨#[], #[.int .i64 0, .slice none 0 0], []⟩ 8 (by kernel_rfl) (by kernel_rfl) (by kernel_rfl) (by kernel_rfl)) ?_
  intro W base args ds gs before hval0 hW _ hsz0 _
  have hsz : (DataW.weightsEach Try.prog (Try.f3.params.toList ++ Rows.blockPlaysSpec.plain.varTypes Try.prog) (ds ++ gs)).all (· ≤ reachBytes) = true := hsz0
  clear hsz0
  have hval : ∀ (j : Nat) t v, Try.f3.params[j]? = some t → args[j]? = some v → Value.okWide Try.prog W .any base t v := hval0
  have hW' := hW
  obtain ⟨p, q, hA0, hV, rfl, hfz, hnd⟩ := hW
  have hA : DataW.TrodAll enc Try.prog W 0 (fun _ => true) true Try.f3.params.toList args.toList ds p := hA0
  rw [Try.params3] at hA hval hsz
  obtain ⟨v0, v1, d0, d1, p0, p1, rfl, rfl, rfl, h0, h1⟩ := trodAll_two hA
  obtain ⟨rfl, rfl⟩ := trodVars_none hV
  have h1k := h1
  obtain ⟨n0, rfl, rfl, rfl, wn⟩ := open_int Try.underlying3 (hval 0 3 v0 rfl rfl) h0
  obtain ⟨a0, len, cap, rfl⟩ := okWide_slice Try.underlying22 (hval 1 22 v1 rfl rfl)
  obtain ⟨fuel, hf⟩ := h1
  clear hA0 hval0
  simp only [List.append_nil] at hW'
  have fin : ∀ W2, Below W.heap.size W W2 → Rows.blockPlaysSpec.post enc Try.prog Try.f3 false true false false W #[.int .i64 n0, .slice a0 len cap] (.bool true) W2 := by
    intro W2 hn
    have hlt : ∀ x ∈ p1, x.block < W.heap.size := fun x hx => by simpa using hW'.lt x (by simpa using hx)
    refine ⟨_, _, _, [], [] ++ p1, [], hW', ?_, ?_, rfl, hn.frame _, fun h => by cases h⟩
    · exact trodAll_mk1 (shut_bool Try.underlying4 _)
    · exact trodAll_mk2 (shut_int Try.underlying3 wn) (Below.trod laidOut (by kernel_rfl) (of_decide_eq_true (by kernel_rfl)) h1k hn hlt)
  have go : ∀ l, Deeds a0 len l W → len ≤ 140737488355328 → Calls Try.prog 3 #[.int .i64 n0, .slice a0 len cap] W fun e W' => ∃ v, e = .returned v ∧ Rows.blockPlaysSpec.post enc Try.prog Try.f3 false true false false W #[.int .i64 n0, .slice a0 len cap] v W' := by
    intro l hS hl
    refine (plays_any n0 a0 len cap l W hS hl wn).mono ?_
    rintro e W2 ⟨rfl, hn⟩
    exact ⟨_, rfl, fin W2 hn⟩
  rcases open_deeds hf with ⟨hcs, hx⟩ | ⟨a, len', cap', l, D1, D2, hcs, hlc, hx, hD, hS⟩
  · have hq : Value.slice a0 len cap = .slice none 0 0 := by simpa [Value.cells] using hcs
    injection hq with e1 e2 e3
    subst e1 e2 e3
    exact go [] ⟨rfl, fun i hi => by omega, fun x hx => by cases hx⟩ (by decide)
  · have hq : Value.slice a0 len cap = .slice (some a) len' cap' := by simpa [Value.cells] using hcs
    injection hq with e1 e2 e3
    subst e1 e2 e3
    dsimp only at hx
    subst hx
    exact go l hS (deeds_count hsz (j := 1) rfl rfl hD)

theorem blockPlays_holds : Rows.BlockPlaysSaid :=
  OpenClaim.holds_of_wide 3 Try.f3 rfl rfl rfl rfl rfl rfl rfl ⟨rfl, rfl, rfl, rfl, rfl⟩ rfl rfl rfl rfl rfl (by kernel_rfl) Try.func3 (by kernel_rfl)
    (of_decide_eq_true (by kernel_rfl)) (by unfold Func.isWrapper; first | (rw [if_pos (by decide +kernel)]; kernel_rfl) | (rw [if_neg (by decide +kernel)]; exact ⟨rfl, rfl⟩))
    (fun os started H enc _ => blockPlays_lifted os started H enc)
#print axioms blockPlays_holds
end Go.Proofs.Ytdgbfkedgedogaa
