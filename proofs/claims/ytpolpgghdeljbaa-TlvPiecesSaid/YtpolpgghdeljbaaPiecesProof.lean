/- TlvPieces: whatever the pieces, the law answers true; they read as before. Conditions: those of the form alone. -/
import Derived.Test.YtpolpgghdeljbaaRows
import Derived.Test.YtpolpgghdeljbaaPieces
import Derived.Test.YtpolpgghdeljbaaTexts
namespace Go.Proofs.Ytpolpgghdeljbaa
open Go.ChangeShapes Go.WideShapes Go.ChangeAt Go.RowKit
open Go.ChangeMaps (open_string shut_string)

set_option maxRecDepth 100000 in
theorem tlvPieces_lifted (os : Os) (started : os.Started) (H : Type) (enc : TypeId × Value → H) :
    ReturnsInHanded {} Try.checked os 3 .any (Rows.tlvPiecesSpec.pre6 enc Try.prog Try.f3 Rows.tlvPiecesRow.domain false) (Rows.tlvPiecesSpec.post enc Try.prog Try.f3 false true false false) := by
  refine returnsInHanded_of_change_sized (C := Try.checked) own started (by kernel_rfl) Try.func3
    (ChangeSpec.witness6 (enc := enc) (C := Try.checked) false ⟨#[], #[.slice none 0 0], []⟩ 8 (by kernel_rfl) (by kernel_rfl) (by kernel_rfl) (by kernel_rfl)) ?_
  intro W base args ds gs before hval0 hW _ hsz0 _
  have hsz : (DataW.weightsEach Try.prog (Try.f3.params.toList ++ Rows.tlvPiecesSpec.plain.varTypes Try.prog) (ds ++ gs)).all (· ≤ reachBytes) = true := hsz0
  clear hsz0
  have hval : ∀ (j : Nat) t v, Try.f3.params[j]? = some t → args[j]? = some v → Value.okWide Try.prog W .any base t v := hval0
  have hW' := hW
  obtain ⟨p, q, hA0, hV, rfl, hfz, hnd⟩ := hW
  have hA : DataW.TrodAll enc Try.prog W 0 (fun _ => true) true Try.f3.params.toList args.toList ds p := hA0
  rw [Try.params3] at hA hval hsz
  obtain ⟨v0, d0, rfl, rfl, h0⟩ := trodAll_one hA
  obtain ⟨rfl, rfl⟩ := trodVars_none hV
  have h0k := h0
  obtain ⟨a0, len, cap, rfl⟩ := okWide_slice Try.underlying22 (hval 0 22 v0 rfl rfl)
  obtain ⟨fuel, hf⟩ := h0
  clear hA0 hval0
  simp only [List.append_nil] at hW'
  have fin : ∀ W2, Below W.heap.size W W2 → Rows.tlvPiecesSpec.post enc Try.prog Try.f3 false true false false W #[.slice a0 len cap] (.bool true) W2 := by
    intro W2 hn
    have hlt : ∀ x ∈ p, x.block < W.heap.size := fun x hx => by simpa using hW'.lt x (by simpa using hx)
    refine ⟨_, _, _, [], p, [], hW', ?_, ?_, rfl, hn.frame _, fun h => by cases h⟩
    · exact trodAll_mk1 (shut_bool Try.underlying4 _)
    · exact trodAll_mk1 (Below.trod laidOut (by kernel_rfl) (of_decide_eq_true (by kernel_rfl)) h0k hn hlt)
  have go : ∀ ss, Strs a0 len ss W → (∀ i, i < len → (ss.getD i ByteArray.empty).size ≤ 140737488355328) → len ≤ 140737488355328 → Calls Try.prog 3 #[.slice a0 len cap] W fun e W' => ∃ v, e = .returned v ∧ Rows.tlvPiecesSpec.post enc Try.prog Try.f3 false true false false W #[.slice a0 len cap] v W' := by
    intro ss hS hr hl
    refine (pieces_any a0 len cap ss W hS hr hl).mono ?_
    rintro e W2 ⟨rfl, hn⟩
    exact ⟨_, rfl, fin W2 hn⟩
  rcases open_strings Try.underlying22 Try.underlying9 (by kernel_rfl) hf with ⟨hcs, hx⟩ | ⟨a, len', cap', ss, hcs, _, hl, hm, hz, hx, hcell, hws⟩
  · have hq : Value.slice a0 len cap = .slice none 0 0 := by simpa [Value.cells] using hcs
    injection hq with e1 e2 e3
    subst e1 e2 e3
    exact go [] ⟨rfl, fun i hi => by omega⟩ (fun i hi => by omega) (by omega)
  · have hq : Value.slice a0 len cap = .slice (some a) len' cap' := by simpa [Value.cells] using hcs
    injection hq with e1 e2 e3
    subst e1 e2 e3
    have hll : len ≤ ss.length := by rw [hz]; split <;> omega
    simp only [Prod.mk.injEq] at hx
    obtain ⟨rfl, _⟩ := hx
    have hb := sized_slice hsz (j := 0) (t := 22) rfl rfl Try.underlying22
    rw [show Try.prog.bytesOf 9 = 16 by kernel_rfl] at hb
    refine go (ss.take len) (texts_at hcell len hll) (fun i hi => ?_) ?_
    · have hmem : DataW.lit (.string ((ss.take len).getD i ByteArray.empty).data.toList) ∈ strs (H := H) (ss.take len) := by
        have h2 : i < (ss.take len).length := by simp; omega
        refine List.mem_map.2 ⟨(ss.take len)[i], List.getElem_mem h2, ?_⟩
        simp [List.getD, List.getElem?_eq_getElem h2]
      exact within (sized_text hsz (j := 0) (t := 22) rfl rfl Try.underlying22 hmem)
    · have : reachBytes ≤ 140737488355328 := by decide
      simp [strs] at hb
      omega

theorem tlvPieces_holds : Rows.TlvPiecesSaid :=
  OpenClaim.holds_of_wide 3 Try.f3 rfl rfl rfl rfl rfl rfl rfl ⟨rfl, rfl, rfl, rfl, rfl⟩ rfl rfl rfl rfl rfl (by kernel_rfl) Try.func3 (by kernel_rfl)
    (of_decide_eq_true (by kernel_rfl)) (by unfold Func.isWrapper; first | (rw [if_pos (by decide +kernel)]; kernel_rfl) | (rw [if_neg (by decide +kernel)]; exact ⟨rfl, rfl⟩))
    (fun os started H enc _ => tlvPieces_lifted os started H enc)
#print axioms tlvPieces_holds
end Go.Proofs.Ytpolpgghdeljbaa
