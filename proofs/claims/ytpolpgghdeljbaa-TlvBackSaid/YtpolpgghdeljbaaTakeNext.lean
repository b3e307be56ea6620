/- tlv.takeNext. -/
import Derived.Test.YtpolpgghdeljbaaReader
namespace Go.Proofs.Ytpolpgghdeljbaa
open Go.RowKit Crc
variable {w : World} {r : Nat} {v : Value} {s : Tlv.S}

set_option maxRecDepth 100000 in
set_option maxHeartbeats 4000000 in
theorem takeNext_any (y : ByteArray) (D : Rd w r v s) (hy : y.size ≤ 140737488355328) :
    Calls Try.prog 18 #[ptr r, .string y] w fun e w' => e = .returned (.tuple #[rv (Tlv.takeNext s.2.1 y.data.toList).1, .int .i64 (Tlv.takeNext s.2.1 y.data.toList).2.1, .int .i64 (Tlv.takeNext s.2.1 y.data.toList).2.2]) ∧ Below w.heap.size w w' := by
  have HT := Lib.hid (fun W => take_any y W hy)
  generalize hq : Tlv.takeNext s.2.1 y.data.toList = q
  unfold Tlv.takeNext at hq
  generalize Tlv.take y.data.toList = t at HT hq
  have hrl := D.lt (k := r) (.inl rfl)
  have hcells := heap_alloc_new w (.cells zc 38)
  have hs0 : w.heap.size < (w.alloc (.cells zc 38)).heap.size := by simp
  have hB := (Below.refl w.heap.size w).alloc (Nat.le_refl _) (.cells zc 38)
  have c2 := D.c2
  have HQ := Lib.hid hq
  clear hq hy D
  go_enter Try.func18, Try.ntmps18
  go_wp2_with fail
  generalize w.alloc (.cells zc 38) = w0 at hB hcells hs0 ⊢
  refine (HT.out _).mono ?_
  rintro e w1 ⟨rfl, hw1⟩
  have hc1 := (hw1.block _ hs0).trans hcells
  have hB1 := hB.trans (hw1.mono hB.size)
  have hs1 := Nat.lt_of_lt_of_le hs0 hw1.size
  clear hB hcells hs0 hw1 HT
  dsimp only
  have hc2 := (Below.heap_alloc w1 (.cells (rc t.1) 38) w.heap.size hs1).trans hc1
  have hB2 := hB1.alloc hB1.size (.cells (rc t.1) 38)
  have hx0 : (w1.alloc (.cells (rc t.1) 38)).cell? ⟨w1.heap.size, 0, none⟩ = some (.int .i64 t.1.1) := by simp
  have hx1 : (w1.alloc (.cells (rc t.1) 38)).cell? ⟨w1.heap.size, 1, none⟩ = some (.int .i64 t.1.2.1) := by simp
  have hx2 : (w1.alloc (.cells (rc t.1) 38)).cell? ⟨w1.heap.size, 2, none⟩ = some (.string (lstr t.1.2.2)) := by simp
  have hr2 := (hB2.cell (p := ⟨r, 2, none⟩) hrl).trans c2
  have hsl : w.heap.size < (w1.alloc (.cells (rc t.1) 38)).heap.size := by simp; omega
  clear hc1 hB1 c2
  by_cases h1 : t.2.2 = 1
  · have e : q = (Tlv.z, 0, 18) := by rw [← HQ.out, if_pos (.inl h1)]
    subst e
    clear HQ
    go_wp2_with fail
    generalize w1.alloc (.cells (rc t.1) 38) = w2 at hc2 hB2 hx0 hx1 hx2 hr2 hsl ⊢
    go_quiet (fail)
    have hc3 : (w2.drewN nq).heap[w.heap.size]? = some (.cells zc 38 (0, 0)) := hc2
    have hB3 := below_drewN hB2 nq
    clear hc2 hB2 hx0 hx1 hx2 hr2
    generalize w2.drewN nq = w3 at hc3 hB3 ⊢
    go_wp2_with (refine store38 rfl (.tmp 4) (.tmp 31) rfl w.heap.size _ _ (by rfl) (by rfl) hc3 rfl rfl (one3 _ _ _ rfl rfl rfl) ?_; intro w5 hc5 hk5 hs5 hb5)
    refine bodyPost_ret_by (results_rec3 rfl _ _ w.heap.size _ _ _ rfl hc5) rfl ⟨rfl, hb5 _ _ (Nat.le_refl _) hB3⟩
  · by_cases h0 : t.2.2 = 0
    · obtain ⟨⟨xk, xs, xp⟩, n, er⟩ := t
      dsimp only at h0 hx0 hx1 hx2 hc2 hB2 hr2 hsl HQ ⊢
      subst h0
      by_cases hn : xs = s.2.1
      · have e : q = ((xk, xs, xp), n, 0) := by rw [← HQ.out, if_neg (by simp [hn])]
        subst e
        clear HQ h1
        subst hn
        go_wp2_with fail
        generalize w1.alloc (.cells (rc (xk, s.2.1, xp)) 38) = w2 at hc2 hB2 hx0 hx1 hx2 hr2 hsl ⊢
        go_quiet (fail)
        have hc3 : (w2.drewN nq).heap[w.heap.size]? = some (.cells zc 38 (0, 0)) := hc2
        have hB3 := below_drewN hB2 nq
        have hy0 : (w2.drewN nq).cell? ⟨w1.heap.size, 0, none⟩ = some (.int .i64 xk) := hx0
        have hy1 : (w2.drewN nq).cell? ⟨w1.heap.size, 1, none⟩ = some (.int .i64 s.2.1) := hx1
        have hy2 : (w2.drewN nq).cell? ⟨w1.heap.size, 2, none⟩ = some (.string (lstr xp)) := hx2
        clear hc2 hB2 hx0 hx1 hx2 hr2
        generalize w2.drewN nq = w3 at hc3 hB3 hy0 hy1 hy2 ⊢
        go_wp2_with (refine store38 rfl (.tmp 4) (.tmp 32) rfl w.heap.size _ _ (by rfl) (by rfl) hc3 rfl rfl (one3 _ _ _ rfl rfl rfl) ?_; intro w5 hc5 hk5 hs5 hb5)
        refine bodyPost_ret_by (results_rec3 rfl _ _ w.heap.size _ _ _ rfl hc5) rfl ⟨rfl, hb5 _ _ (Nat.le_refl _) hB3⟩
      · have e : q = (Tlv.z, 0, 18) := by rw [← HQ.out, if_pos (.inr ⟨rfl, hn⟩)]
        subst e
        clear HQ h1
        go_wp2_with fail
        generalize w1.alloc (.cells (rc (xk, xs, xp)) 38) = w2 at hc2 hB2 hx0 hx1 hx2 hr2 hsl ⊢
        go_quiet (fail)
        have hc3 : (w2.drewN nq).heap[w.heap.size]? = some (.cells zc 38 (0, 0)) := hc2
        have hB3 := below_drewN hB2 nq
        clear hc2 hB2 hx0 hx1 hx2 hr2
        generalize w2.drewN nq = w3 at hc3 hB3 ⊢
        go_wp2_with (refine store38 rfl (.tmp 4) (.tmp 31) rfl w.heap.size _ _ (by rfl) (by rfl) hc3 rfl rfl (one3 _ _ _ rfl rfl rfl) ?_; intro w5 hc5 hk5 hs5 hb5)
        refine bodyPost_ret_by (results_rec3 rfl _ _ w.heap.size _ _ _ rfl hc5) rfl ⟨rfl, hb5 _ _ (Nat.le_refl _) hB3⟩
    · have e : q = t := by rw [← HQ.out, if_neg (by simp [h0, h1])]
      subst e
      clear HQ
      go_wp2_with fail
      generalize w1.alloc (.cells (rc q.1) 38) = w2 at hc2 hB2 hx0 hx1 hx2 hr2 hsl ⊢
      go_quiet (fail)
      have hc3 : (w2.drewN nq).heap[w.heap.size]? = some (.cells zc 38 (0, 0)) := hc2
      have hB3 := below_drewN hB2 nq
      have hy0 : (w2.drewN nq).cell? ⟨w1.heap.size, 0, none⟩ = some (.int .i64 q.1.1) := hx0
      have hy1 : (w2.drewN nq).cell? ⟨w1.heap.size, 1, none⟩ = some (.int .i64 q.1.2.1) := hx1
      have hy2 : (w2.drewN nq).cell? ⟨w1.heap.size, 2, none⟩ = some (.string (lstr q.1.2.2)) := hx2
      clear hc2 hB2 hx0 hx1 hx2 hr2
      generalize w2.drewN nq = w3 at hc3 hB3 hy0 hy1 hy2 ⊢
      go_wp2_with (refine store38 rfl (.tmp 4) (.tmp 32) rfl w.heap.size _ _ (by rfl) (by rfl) hc3 rfl rfl (one3 _ _ _ rfl rfl rfl) ?_; intro w5 hc5 hk5 hs5 hb5)
      refine bodyPost_ret_by (results_rec3 rfl _ _ w.heap.size _ _ _ rfl hc5) rfl ⟨rfl, hb5 _ _ (Nat.le_refl _) hB3⟩
end Go.Proofs.Ytpolpgghdeljbaa
