/- BlockCounts: whatever the cut and the row of flushes and writes, the law answers true; all read as before. Conditions: those of the form alone. -/
import Derived.Test.YtdgbfkedgedogaaRows
import Derived.Test.YtdgbfkedgedogaaShape
namespace Go.Proofs.Ytdgbfkedgedogaa
open Go.ChangeShapes Go.WideShapes Go.ChangeAt Go.RowKit Go.Joins Go.Deep

set_option maxRecDepth 100000 in
theorem blockCounts_lifted (os : Os) (started : os.Started) (H : Type) (enc : TypeId × Value → H) :
    ReturnsInHanded {} Try.checked os 6 .any (Rows.blockCountsSpec.pre6 enc Try.prog Try.f6 Rows.blockCountsRow.domain false) (Rows.blockCountsSpec.post enc Try.prog Try.f6 false true false false) := by
  refine returnsInHanded_of_change_sized (C := Try.checked) own started (by kernel_rfl) Try.func6
    (ChangeSpec.witness6 (enc := enc) (C := Try.checked) false ⟨#[], #[.agg #[.int .i64 0, .int .u64 0], .slice none 0 0], []⟩ 8 (by kernel_rfl) (by kernel_rfl) (by kernel_rfl) (by kernel_rfl)) ?_
  intro W base args ds gs before hval0 hW _ hsz0 _
  have hsz : (DataW.weightsEach Try.prog (Try.f6.params.toList ++ Rows.blockCountsSpec.plain.varTypes Try.prog) (ds ++ gs)).all (· ≤ reachBytes) = true := hsz0
  clear hsz0
  have hval : ∀ (j : Nat) t v, Try.f6.params[j]? = some t → args[j]? = some v → Value.okWide Try.prog W .any base t v := hval0
  have hW' := hW
  obtain ⟨p, q, hA0, hV, rfl, hfz, hnd⟩ := hW
  have hA : DataW.TrodAll enc Try.prog W 0 (fun _ => true) true Try.f6.params.toList args.toList ds p := hA0
  rw [Try.params6] at hA hval hsz
  obtain ⟨v0, v1, d0, d1, p0, p1, rfl, rfl, rfl, h0, h1⟩ := trodAll_two hA
  obtain ⟨rfl, rfl⟩ := trodVars_none hV
  have h0k := h0
  have h1k := h1
  obtain ⟨x0, x1, y0, y1, n, rfl, -, -, t0, t1⟩ := open_agg2 Try.underlying33 (by kernel_rfl) (by kernel_rfl) (hval 0 33 v0 rfl rfl) h0
  obtain ⟨c, e0, _, wc⟩ := DataW.trod_int Try.underlying3 t0
  obtain ⟨k, e1, _, wk⟩ := DataW.trod_int Try.underlying31 t1
  injection e0 with e0 _
  injection e1 with e1 _
  subst e0 e1
  obtain ⟨kk, rfl⟩ := word64 wk
  obtain ⟨hc0, hc1⟩ := bounds_i64 wc
  obtain ⟨a0, len, cap, rfl⟩ := okWide_slice Try.underlying58 (hval 1 58 v1 rfl rfl)
  obtain ⟨fuel, hf⟩ := h1
  clear hA0 hval0
  simp only [List.append_nil] at hW'
  have fin : ∀ W2, Below W.heap.size W W2 → Rows.blockCountsSpec.post enc Try.prog Try.f6 false true false false W #[.agg #[.int .i64 c, .int .u64 (u64 kk)], .slice a0 len cap] (.bool true) W2 := by
    intro W2 hn
    have hlt : ∀ x ∈ p0 ++ p1, x.block < W.heap.size := fun x hx => by simpa using hW'.lt x (by simpa using hx)
    refine ⟨_, _, _, [], p0 ++ p1, [], hW', ?_, ?_, rfl, hn.frame _, fun h => by cases h⟩
    · exact trodAll_mk1 (shut_bool Try.underlying4 _)
    · exact trodAll_mk2 (Below.trod laidOut (by kernel_rfl) (of_decide_eq_true (by kernel_rfl)) h0k hn (fun x hx => hlt x (List.mem_append_left _ hx))) (Below.trod laidOut (by kernel_rfl) (of_decide_eq_true (by kernel_rfl)) h1k hn (fun x hx => hlt x (List.mem_append_right _ hx)))
  have go : ∀ l, Bools a0 len l W → len ≤ 140737488355328 → Calls Try.prog 6 #[.agg #[.int .i64 c, .int .u64 (u64 kk)], .slice a0 len cap] W fun e W' => ∃ v, e = .returned v ∧ Rows.blockCountsSpec.post enc Try.prog Try.f6 false true false false W #[.agg #[.int .i64 c, .int .u64 (u64 kk)], .slice a0 len cap] v W' := by
    intro l hS hl
    refine (counts_any c kk a0 len cap l W hc0 hc1 hS hl).mono ?_
    rintro e W2 ⟨rfl, hn⟩
    exact ⟨_, rfl, fin W2 hn⟩
  rcases open_bools Try.underlying58 Try.underlying4 (by kernel_rfl) hf with ⟨hcs, hx⟩ | ⟨a, len', cap', B, hcs, _, hl, hm, hx, hcell⟩
  · have hq : Value.slice a0 len cap = .slice none 0 0 := by simpa [Value.cells] using hcs
    injection hq with e1 e2 e3
    subst e1 e2 e3
    exact go [] ⟨rfl, fun i hi => by omega⟩ (by decide)
  · have hq : Value.slice a0 len cap = .slice (some a) len' cap' := by simpa [Value.cells] using hcs
    injection hq with e1 e2 e3
    subst e1 e2 e3
    simp only [Prod.mk.injEq] at hx
    obtain ⟨rfl, _⟩ := hx
    have hb := sized_slice hsz (j := 1) (t := 58) rfl rfl Try.underlying58
    rw [show Try.prog.bytesOf 4 = 1 by kernel_rfl] at hb
    refine go _ (bools_at (fun i hi => hcell i (by omega))) ?_
    simp at hb
    have : reachBytes ≤ 140737488355328 := by decide
    omega

theorem blockCounts_holds : Rows.BlockCountsSaid :=
  OpenClaim.holds_of_wide 6 Try.f6 rfl rfl rfl rfl rfl rfl rfl ⟨rfl, rfl, rfl, rfl, rfl⟩ rfl rfl rfl rfl rfl (by kernel_rfl) Try.func6 (by kernel_rfl)
    (of_decide_eq_true (by kernel_rfl)) (by unfold Func.isWrapper; first | (rw [if_pos (by decide +kernel)]; kernel_rfl) | (rw [if_neg (by decide +kernel)]; exact ⟨rfl, rfl⟩))
    (fun os started H enc _ => blockCounts_lifted os started H enc)
#print axioms blockCounts_holds
end Go.Proofs.Ytdgbfkedgedogaa
