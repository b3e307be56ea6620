/- TlvBack: whatever the Kinds, the texts, the cut, the place and the bits to turn, the law answers true; all read as before. Conditions: those of the form alone. -/
import Derived.Test.YtpolpgghdeljbaaRows
import Derived.Test.YtpolpgghdeljbaaBack
import Derived.Test.YtpolpgghdeljbaaTexts
namespace Go.Proofs.Ytpolpgghdeljbaa
open Go.ChangeShapes Go.WideShapes Go.ChangeAt Go.RowKit
open Go.ChangeMaps (open_string shut_string)

section
variable {H : Type} {enc : TypeId × Value → H} {P : Program} {w : World} {base : Nat} {spare : Nat → Bool} {held : Bool}
theorem trodAll_five {t0 t1 t2 t3 t4 : TypeId} {args : Array Value} {ds : List (DataW H)} {ps : List MemPlace} (h : DataW.TrodAll enc P w base spare held [t0, t1, t2, t3, t4] args.toList ds ps) :
    ∃ v0 v1 v2 v3 v4 d0 d1 d2 d3 d4 p0 p1 p2 p3 p4, args = #[v0, v1, v2, v3, v4] ∧ ds = [d0, d1, d2, d3, d4] ∧ ps = p0 ++ p1 ++ p2 ++ p3 ++ p4 ∧ DataW.Trod enc P w base spare held t0 v0 d0 p0 ∧ DataW.Trod enc P w base spare held t1 v1 d1 p1 ∧ DataW.Trod enc P w base spare held t2 v2 d2 p2 ∧ DataW.Trod enc P w base spare held t3 v3 d3 p3 ∧ DataW.Trod enc P w base spare held t4 v4 d4 p4 := by
  obtain ⟨v, vs, d, ds', p, q, hargs, rfl, rfl, hd, hrest⟩ := trodAll_cons h
  obtain ⟨v', vs', d', ds'', p', q', rfl, rfl, rfl, hd', hrest'⟩ := trodAll_cons hrest
  obtain ⟨v'', vs'', d'', ds''', p'', q'', rfl, rfl, rfl, hd'', hrest''⟩ := trodAll_cons hrest'
  obtain ⟨v3, vs3, d3, ds3, p3, q3, rfl, rfl, rfl, hd3, hrest3⟩ := trodAll_cons hrest''
  obtain ⟨v4, vs4, d4, ds4, p4, q4, rfl, rfl, rfl, hd4, hrest4⟩ := trodAll_cons hrest3
  obtain ⟨rfl, rfl, rfl⟩ := trodAll_nil hrest4
  exact ⟨v, v', v'', v3, v4, d, d', d'', d3, d4, p, p', p'', p3, p4, by cases args; simp_all, rfl, by simp, hd, hd', hd'', hd3, hd4⟩
theorem trodAll_mk5 {t0 t1 t2 t3 t4 : TypeId} {v0 v1 v2 v3 v4 : Value} {d0 d1 d2 d3 d4 : DataW H} {p0 p1 p2 p3 p4 : List MemPlace} (h0 : DataW.Trod enc P w base spare held t0 v0 d0 p0) (h1 : DataW.Trod enc P w base spare held t1 v1 d1 p1)
    (h2 : DataW.Trod enc P w base spare held t2 v2 d2 p2) (h3 : DataW.Trod enc P w base spare held t3 v3 d3 p3) (h4 : DataW.Trod enc P w base spare held t4 v4 d4 p4) : DataW.TrodAll enc P w base spare held [t0, t1, t2, t3, t4] [v0, v1, v2, v3, v4] [d0, d1, d2, d3, d4] (p0 ++ (p1 ++ (p2 ++ (p3 ++ p4)))) := ⟨p0, p1 ++ (p2 ++ (p3 ++ p4)), h0, trodAll_mk4 h1 h2 h3 h4, rfl⟩
end
theorem byte_in {n : Int} (h0 : 0 ≤ n) (h1 : n < 256) : Value.int .u8 n = bv (UInt8.ofNat n.toNat) := by
  unfold bv
  rw [UInt8.toNat_ofNat']
  congr 1
  omega

set_option maxRecDepth 100000 in
theorem tlvBack_lifted (os : Os) (started : os.Started) (H : Type) (enc : TypeId × Value → H) :
    ReturnsInHanded {} Try.checked os 4 .any (Rows.tlvBackSpec.pre6 enc Try.prog Try.f4 Rows.tlvBackRow.domain false) (Rows.tlvBackSpec.post enc Try.prog Try.f4 false true false false) := by
  refine returnsInHanded_of_change_sized (C := Try.checked) own started (by kernel_rfl) Try.func4
    (ChangeSpec.witness6 (enc := enc) (C := Try.checked) false ⟨#[], #[.slice none 0 0, .slice none 0 0, .int .i64 0, .int .i64 0, .int .u8 0], []⟩ 8 (by kernel_rfl) (by kernel_rfl) (by kernel_rfl) (by kernel_rfl)) ?_
  intro W base args ds gs before hval0 hW _ hsz0 _
  have hsz : (DataW.weightsEach Try.prog (Try.f4.params.toList ++ Rows.tlvBackSpec.plain.varTypes Try.prog) (ds ++ gs)).all (· ≤ reachBytes) = true := hsz0
  clear hsz0
  have hval : ∀ (j : Nat) t v, Try.f4.params[j]? = some t → args[j]? = some v → Value.okWide Try.prog W .any base t v := hval0
  have hW' := hW
  obtain ⟨p, q, hA0, hV, rfl, hfz, hnd⟩ := hW
  have hA : DataW.TrodAll enc Try.prog W 0 (fun _ => true) true Try.f4.params.toList args.toList ds p := hA0
  rw [Try.params4] at hA hval hsz
  obtain ⟨v0, v1, v2, v3, v4, d0, d1, d2, d3, d4, p0, p1, p2, p3, p4, rfl, rfl, rfl, h0, h1, h2, h3, h4⟩ := trodAll_five hA
  obtain ⟨rfl, rfl⟩ := trodVars_none hV
  have h0k := h0
  have h1k := h1
  obtain ⟨ka, kl, kc, rfl⟩ := okWide_slice Try.underlying35 (hval 0 35 v0 rfl rfl)
  obtain ⟨ta, tl, tc, rfl⟩ := okWide_slice Try.underlying22 (hval 1 22 v1 rfl rfl)
  obtain ⟨fuel, hf⟩ := h0
  obtain ⟨fuel1, hf1⟩ := h1
  obtain ⟨ct, rfl, rfl, rfl, wc⟩ := open_int Try.underlying3 (hval 2 3 v2 rfl rfl) h2
  obtain ⟨at_, rfl, rfl, rfl, wa⟩ := open_int Try.underlying3 (hval 3 3 v3 rfl rfl) h3
  obtain ⟨t0, rfl, rfl, rfl, wt⟩ := open_int Try.underlying5 (hval 4 5 v4 rfl rfl) h4
  have hbt := bounds_u8 wt
  clear hA0 hval0
  simp only [List.append_nil] at hW'
  have fin : ∀ W2, Below W.heap.size W W2 → Rows.tlvBackSpec.post enc Try.prog Try.f4 false true false false W #[.slice ka kl kc, .slice ta tl tc, .int .i64 ct, .int .i64 at_, .int .u8 t0] (.bool true) W2 := by
    intro W2 hn
    have hlt : ∀ x ∈ p0 ++ p1, x.block < W.heap.size := fun x hx => by simpa using hW'.lt x (by simpa using hx)
    refine ⟨_, _, _, [], p0 ++ (p1 ++ ([] ++ ([] ++ []))), [], hW', ?_, ?_, rfl, hn.frame _, fun h => by cases h⟩
    · exact trodAll_mk1 (shut_bool Try.underlying4 _)
    · exact trodAll_mk5 (Below.trod laidOut (by kernel_rfl) (of_decide_eq_true (by kernel_rfl)) h0k hn (fun x hx => hlt x (List.mem_append_left _ hx))) (Below.trod laidOut (by kernel_rfl) (of_decide_eq_true (by kernel_rfl)) h1k hn (fun x hx => hlt x (List.mem_append_right _ hx))) (shut_int Try.underlying3 wc) (shut_int Try.underlying3 wa) (shut_int Try.underlying5 wt)
  have go : ∀ (K : Nat → UInt8) ss, (∀ i, i < kl → ∃ b off, ka = some ⟨b, off, none⟩ ∧ W.cell? ⟨b, off + i, none⟩ = some (bv (K i))) → Strs ta tl ss W → (∀ i, i < tl → (ss.getD i ByteArray.empty).size ≤ 140737488355328) → tl ≤ 140737488355328 → kl ≤ 140737488355328 → Calls Try.prog 4 #[.slice ka kl kc, .slice ta tl tc, .int .i64 ct, .int .i64 at_, .int .u8 t0] W fun e W' => ∃ v, e = .returned v ∧ Rows.tlvBackSpec.post enc Try.prog Try.f4 false true false false W #[.slice ka kl kc, .slice ta tl tc, .int .i64 ct, .int .i64 at_, .int .u8 t0] v W' := by
    intro K ss hK hS hr htl hkl
    have := back_any ka kl kc K ta tl tc ss ct at_ (UInt8.ofNat t0.toNat) W hK hS hr htl hkl
    rw [← byte_in (by omega) (by omega)] at this
    refine this.mono ?_
    rintro e W2 ⟨rfl, hn⟩
    exact ⟨_, rfl, fin W2 hn⟩
  have goK : ∀ ss, Strs ta tl ss W → (∀ i, i < tl → (ss.getD i ByteArray.empty).size ≤ 140737488355328) → tl ≤ 140737488355328 → Calls Try.prog 4 #[.slice ka kl kc, .slice ta tl tc, .int .i64 ct, .int .i64 at_, .int .u8 t0] W fun e W' => ∃ v, e = .returned v ∧ Rows.tlvBackSpec.post enc Try.prog Try.f4 false true false false W #[.slice ka kl kc, .slice ta tl tc, .int .i64 ct, .int .i64 at_, .int .u8 t0] v W' := by
    intro ss hS hr htl
    rcases open_ints Try.underlying35 Try.underlying5 (by kernel_rfl) hf with ⟨hcs, hx⟩ | ⟨a, len', cap', zs, hcs, _, hl, hm, hz, hx, hcell, hwz⟩
    · have hq : Value.slice ka kl kc = .slice none 0 0 := by simpa [Value.cells] using hcs
      injection hq with e1 e2 e3
      subst e1 e2 e3
      exact go (fun _ => 0) ss (fun i hi => by omega) hS hr htl (by omega)
    · have hq : Value.slice ka kl kc = .slice (some a) len' cap' := by simpa [Value.cells] using hcs
      injection hq with e1 e2 e3
      subst e1 e2 e3
      have hll : kl ≤ zs.length := by rw [hz]; split <;> omega
      simp only [Prod.mk.injEq] at hx
      obtain ⟨rfl, _⟩ := hx
      have hb := sized_slice hsz (j := 0) (t := 35) rfl rfl Try.underlying35
      rw [show Try.prog.bytesOf 5 = 1 by kernel_rfl] at hb
      refine go (fun i => UInt8.ofNat (zs.getD i 0).toNat) ss (fun i hi => ?_) hS hr htl ?_
      · obtain ⟨b, off, spot⟩ := a
        have hspot : spot = none := by simpa [Addr.add] using World.cell?_spot (hcell 0 (by omega))
        subst hspot
        refine ⟨b, off, rfl, ?_⟩
        have hr8 := range_u8 hwz i
        rw [← List.getD_eq_getElem?_getD] at hr8
        rw [← byte_in (by omega) (by omega), ← Go.WideShapes.add_plain]
        exact hcell i (by omega)
      · have : reachBytes ≤ 140737488355328 := by decide
        simp [lits] at hb
        omega
  rcases open_strings Try.underlying22 Try.underlying9 (by kernel_rfl) hf1 with ⟨hcs, hx⟩ | ⟨a, len', cap', ss, hcs, _, hl, hm, hz, hx, hcell, hws⟩
  · have hq : Value.slice ta tl tc = .slice none 0 0 := by simpa [Value.cells] using hcs
    injection hq with e1 e2 e3
    subst e1 e2 e3
    exact goK [] ⟨rfl, fun i hi => by omega⟩ (fun i hi => by omega) (by omega)
  · have hq : Value.slice ta tl tc = .slice (some a) len' cap' := by simpa [Value.cells] using hcs
    injection hq with e1 e2 e3
    subst e1 e2 e3
    have hll : tl ≤ ss.length := by rw [hz]; split <;> omega
    simp only [Prod.mk.injEq] at hx
    obtain ⟨rfl, _⟩ := hx
    have hb := sized_slice hsz (j := 1) (t := 22) rfl rfl Try.underlying22
    rw [show Try.prog.bytesOf 9 = 16 by kernel_rfl] at hb
    refine goK (ss.take tl) (texts_at hcell tl hll) (fun i hi => ?_) ?_
    · have hmem : DataW.lit (.string ((ss.take tl).getD i ByteArray.empty).data.toList) ∈ strs (H := H) (ss.take tl) := by
        have h2 : i < (ss.take tl).length := by simp; omega
        refine List.mem_map.2 ⟨(ss.take tl)[i], List.getElem_mem h2, ?_⟩
        simp [List.getD, List.getElem?_eq_getElem h2]
      exact within (sized_text hsz (j := 1) (t := 22) rfl rfl Try.underlying22 hmem)
    · have : reachBytes ≤ 140737488355328 := by decide
      simp [strs] at hb
      omega

theorem tlvBack_holds : Rows.TlvBackSaid :=
  OpenClaim.holds_of_wide 4 Try.f4 rfl rfl rfl rfl rfl rfl rfl ⟨rfl, rfl, rfl, rfl, rfl⟩ rfl rfl rfl rfl rfl (by kernel_rfl) Try.func4 (by kernel_rfl)
    (of_decide_eq_true (by kernel_rfl)) (by unfold Func.isWrapper; first | (rw [if_pos (by decide +kernel)]; kernel_rfl) | (rw [if_neg (by decide +kernel)]; exact ⟨rfl, rfl⟩))
    (fun os started H enc _ => tlvBack_lifted os started H enc)
#print axioms tlvBack_holds
end Go.Proofs.Ytpolpgghdeljbaa
