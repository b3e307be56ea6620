/- GridLongest: whatever the two rows of texts and the two rows of bytes, the law answers true; all read as before. Conditions: those of the form alone. -/
import Derived.Test.YtfemanblkmcglaaRows
import Derived.Test.YtfemanblkmcglaaLongest
import Derived.Test.YtfemanblkmcglaaShape
import Derived.ChangeSlices
namespace Go.Proofs.Ytfemanblkmcglaa
open Go.ChangeShapes Go.WideShapes Go.ChangeAt Go.RowKit

/-- A row of bytes that came in. -/
theorem bytes_open {H : Type} {enc : TypeId × Value → H} {w : World} {base : Nat} {sp : Nat → Bool} {held : Bool} {ts : List TypeId} {ds : List (DataW H)} {j : Nat} {a : Option Addr} {len cap : Nat} {d : DataW H} {ps : List MemPlace}
    (hsz : (DataW.weightsEach Try.prog ts ds).all (· ≤ reachBytes) = true) (ht : ts[j]? = some 37) (hd : ds[j]? = some d) (h : DataW.Trod enc Try.prog w base sp held 37 (.slice a len cap) d ps) : ∃ ns, Bts a len ns w ∧ len ≤ 140737488355328 := by
  obtain ⟨fuel, hf⟩ := h
  rcases open_ints Try.underlying37 Try.underlying5 (by kernel_rfl) hf with ⟨hcs, hx⟩ | ⟨a', len', cap', zs, hcs, _, hl, hm, hz, hx, hcell, hws⟩
  · have hq : Value.slice a len cap = .slice none 0 0 := by simpa [Value.cells] using hcs
    injection hq with e1 e2 e3
    subst e1 e2 e3
    exact ⟨[], ⟨rfl, (fun i hi => by omega), (fun i => by simp)⟩, by omega⟩
  · have hq : Value.slice a len cap = .slice (some a') len' cap' := by simpa [Value.cells] using hcs
    injection hq with e1 e2 e3
    subst e1 e2 e3
    have hll : len ≤ zs.length := by rw [hz]; split <;> omega
    simp only [Prod.mk.injEq] at hx
    obtain ⟨rfl, _⟩ := hx
    have hb := sized_slice hsz (j := j) (t := 37) ht hd Try.underlying37
    rw [show Try.prog.bytesOf 5 = 1 by kernel_rfl] at hb
    have hr : reachBytes ≤ 140737488355328 := by decide
    have hbd : ∀ i, 0 ≤ zs.getD i 0 ∧ zs.getD i 0 < 256 := by
      intro i
      rcases Nat.lt_or_ge i zs.length with h1 | h1
      · rw [getD_at h1]
        have h2 := bounds_u8 (hws _ (List.getElem_mem h1))
        omega
      · rw [List.getD, List.getElem?_eq_none h1]; decide
    have hgd : ∀ i, i < len → ((zs.take len).map Int.toNat).getD i 0 = (zs.getD i 0).toNat := by
      intro i hi
      rw [getD_at (by simp; omega), getD_at (by omega)]
      simp
    refine ⟨(zs.take len).map Int.toNat, ⟨by simp; omega, fun i hi => ?_, fun i => ?_⟩, ?_⟩
    · obtain ⟨b, off, spot⟩ := a'
      have hspot : spot = none := by simpa [Addr.add] using World.cell?_spot (hcell 0 (by omega))
      subst hspot
      refine ⟨b, off, rfl, ?_⟩
      rw [← Go.WideShapes.add_plain, hcell i (by omega), hgd i hi, Int.toNat_of_nonneg (hbd i).1]
    · rcases Nat.lt_or_ge i len with h1 | h1
      · rw [hgd i h1]; have := hbd i; omega
      · rw [List.getD, List.getElem?_eq_none (by simp; omega)]; decide
    · simp [lits] at hb
      omega

set_option maxRecDepth 100000 in
theorem gridLongest_lifted (os : Os) (started : os.Started) (H : Type) (enc : TypeId × Value → H) :
    ReturnsInHanded {} Try.checked os 5 .any (Rows.gridLongestSpec.pre6 enc Try.prog Try.f5 Rows.gridLongestRow.domain false) (Rows.gridLongestSpec.post enc Try.prog Try.f5 false true false false) := by
  refine returnsInHanded_of_change_sized (C := Try.checked) own started (by kernel_rfl) Try.func5
    (ChangeSpec.witness6 (enc := enc) (C := Try.checked) false ⟨#[], #[.slice none 0 0, .slice none 0 0, .slice none 0 0, .slice none 0 0], []⟩ 8 (by kernel_rfl) (by kernel_rfl) (by kernel_rfl) (by kernel_rfl)) ?_
  intro W base args ds gs before hval0 hW _ hsz0 _
  have hsz : (DataW.weightsEach Try.prog (Try.f5.params.toList ++ Rows.gridLongestSpec.plain.varTypes Try.prog) (ds ++ gs)).all (· ≤ reachBytes) = true := hsz0
  clear hsz0
  have hval : ∀ (j : Nat) t v, Try.f5.params[j]? = some t → args[j]? = some v → Value.okWide Try.prog W .any base t v := hval0
  have hW' := hW
  obtain ⟨p, q, hA0, hV, rfl, hfz, hnd⟩ := hW
  have hA : DataW.TrodAll enc Try.prog W 0 (fun _ => true) true Try.f5.params.toList args.toList ds p := hA0
  rw [Try.params5] at hA hval hsz
  obtain ⟨v0, v1, v2, v3, d0, d1, d2, d3, p0, p1, p2, p3, rfl, rfl, rfl, h0, h1, h2, h3⟩ := trodAll_four hA
  obtain ⟨rfl, rfl⟩ := trodVars_none hV
  obtain ⟨a0, len, cap, rfl⟩ := okWide_slice Try.underlying22 (hval 0 22 v0 rfl rfl)
  obtain ⟨a1, len1, cap1, rfl⟩ := okWide_slice Try.underlying37 (hval 1 37 v1 rfl rfl)
  obtain ⟨a2, len2, cap2, rfl⟩ := okWide_slice Try.underlying37 (hval 2 37 v2 rfl rfl)
  obtain ⟨a3, len3, cap3, rfl⟩ := okWide_slice Try.underlying22 (hval 3 22 v3 rfl rfl)
  clear hA0 hval0
  simp only [List.append_nil] at hW'
  obtain ⟨sa, A⟩ := texts_open hsz (j := 0) rfl rfl h0
  obtain ⟨na, A1, l1⟩ := bytes_open hsz (j := 1) rfl rfl h1
  obtain ⟨nb, A2, l2⟩ := bytes_open hsz (j := 2) rfl rfl h2
  obtain ⟨sm, M⟩ := texts_open hsz (j := 3) rfl rfl h3
  refine (longest_any a0 a1 a2 a3 len cap len1 cap1 len2 cap2 len3 cap3 sa sm na nb W A.at_ M.at_ A1 A2 A.small M.small A.short M.short l1 l2).mono ?_
  rintro e W2 ⟨rfl, hn⟩
  have hlt : ∀ x ∈ p0 ++ (p1 ++ (p2 ++ p3)), x.block < W.heap.size := fun x hx => by simpa using hW'.lt x (by simpa using hx)
  refine ⟨_, rfl, _, _, _, [], p0 ++ (p1 ++ (p2 ++ p3)), [], hW', ?_, ?_, rfl, hn.frame _, fun h => by cases h⟩
  · exact trodAll_mk1 (shut_bool Try.underlying4 _)
  · exact trodAll_mk4 (Below.trod laidOut (by kernel_rfl) (of_decide_eq_true (by kernel_rfl)) h0 hn (fun x hx => hlt x (by simp [hx]))) (Below.trod laidOut (by kernel_rfl) (of_decide_eq_true (by kernel_rfl)) h1 hn (fun x hx => hlt x (by simp [hx])))
      (Below.trod laidOut (by kernel_rfl) (of_decide_eq_true (by kernel_rfl)) h2 hn (fun x hx => hlt x (by simp [hx]))) (Below.trod laidOut (by kernel_rfl) (of_decide_eq_true (by kernel_rfl)) h3 hn (fun x hx => hlt x (by simp [hx])))

theorem gridLongest_holds : Rows.GridLongestSaid :=
  OpenClaim.holds_of_wide 5 Try.f5 rfl rfl rfl rfl rfl rfl rfl ⟨rfl, rfl, rfl, rfl, rfl⟩ rfl rfl rfl rfl rfl (by kernel_rfl) Try.func5 (by kernel_rfl)
    (of_decide_eq_true (by kernel_rfl)) (by unfold Func.isWrapper; first | (rw [if_pos (by decide +kernel)]; kernel_rfl) | (rw [if_neg (by decide +kernel)]; exact ⟨rfl, rfl⟩))
    (fun os started H enc _ => gridLongest_lifted os started H enc)
#print axioms gridLongest_holds
end Go.Proofs.Ytfemanblkmcglaa
