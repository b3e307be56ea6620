/- tlv.Parse. -/
import Derived.Test.YtpolpgghdeljbaaTaken
namespace Go.Proofs.Ytpolpgghdeljbaa
open Go.RowKit Crc

def parsed (l : List UInt8) : Tlv.R × List UInt8 × Int := if (Tlv.take l).2.2 = 0 then ((Tlv.take l).1, l.drop (Tlv.take l).2.1, 0) else (Tlv.z, [], (Tlv.take l).2.2)

theorem block_setCell {w : World} {b k : Nat} {cs : Array Value} {t : TypeId} {fr : Nat × Nat} (h : w.heap[b]? = some (.cells cs t fr)) (u : Value) : (w.setCell ⟨b, k, none⟩ u).heap[b]? = some (.cells (cs.setIfInBounds k u) t fr) := by
  have hlt := lt_of_block h
  have h' : w.heap[b] = .cells cs t fr := by simpa [Array.getElem?_eq_getElem hlt] using h
  show (w.heap.modify b _)[b]? = _
  rw [Array.getElem?_eq_getElem (by simpa using hlt), Array.getElem_modify_self, h']
  rfl
theorem set3 {w : World} {g : Nat} {a b c : Value} {fr : Nat × Nat} (h : w.heap[g]? = some (.cells #[a, b, c] 38 fr)) (x y z : Value) :
    (((w.setCell ⟨g, 0, none⟩ x).setCell ⟨g, 1, none⟩ y).setCell ⟨g, 2, none⟩ z).heap[g]? = some (.cells #[x, y, z] 38 fr) :=
  block_setCell (block_setCell (block_setCell h x) y) z

set_option maxRecDepth 100000 in
set_option maxHeartbeats 2000000 in
theorem parse_any (y : ByteArray) (w : World) (hy : y.size ≤ 140737488355328) :
    Calls Try.prog 15 #[.string y] w fun e w' => e = .returned (.tuple #[rv (parsed y.data.toList).1, .string (lstr (parsed y.data.toList).2.1), .int .i64 (parsed y.data.toList).2.2]) ∧ Below w.heap.size w w' := by
  have hy' : (y.size : Int) ≤ 140737488355328 := by omega
  have hll : y.data.toList.length = y.size := Array.length_toList
  have HT := Lib.hid (fun W => take_any y W hy)
  have HZ := Lib.hid (Tlv.take_size y.data.toList)
  have HD := Lib.hid (tail_eq y)
  generalize hq : parsed y.data.toList = q
  unfold parsed at hq
  rw [hll] at HZ
  generalize y.data.toList = l at HT HZ HD hq
  generalize Tlv.take l = t at HT HZ hq
  have hcells := heap_alloc_new w (.cells zc 38)
  have hs0 : w.heap.size < (w.alloc (.cells zc 38)).heap.size := by simp
  have hB := (Below.refl w.heap.size w).alloc (Nat.le_refl _) (.cells zc 38)
  have HQ := Lib.hid hq
  clear hll hq hy
  go_enter Try.func15, Try.ntmps15
  go_wp2_with fail
  generalize w.alloc (.cells zc 38) = w0 at hB hcells hs0 ⊢
  refine (HT.out _).mono ?_
  rintro e w1 ⟨rfl, hw1⟩
  have hc1 := (hw1.block _ hs0).trans hcells
  have hB1 := hB.trans (hw1.mono hB.size)
  have hs1 := Nat.lt_of_lt_of_le hs0 hw1.size
  clear hB hcells hs0 hw1 HT
  dsimp only
  have hc2 := (Below.heap_alloc w1 (.cells (rc t.1) 38) w.heap.size hs1).trans hc1
  have hB2 := hB1.alloc hB1.size (.cells (rc t.1) 38)
  by_cases he : t.2.2 = 0
  · obtain ⟨hz1, hz2⟩ := HZ.out he
    have e : q = (t.1, l.drop t.2.1, 0) := by rw [← HQ.out, if_pos he]
    subst e
    obtain ⟨x, n, er⟩ := t
    dsimp only at he hz1 hz2 hc2 hB2 ⊢
    subst he
    have hz2' : (n : Int) ≤ (y.size : Int) := by omega
    have hz0' : (0 : Int) ≤ (n : Int) := by omega
    have H24 := Lib.hid (fun W => clone_any (y.extract n y.size) W (Nat.le_trans (extract_le _ _ _) (by omega)))
    rw [HD.out n] at H24
    have hE := HD.out n
    have hx0 : (w1.alloc (.cells (rc x) 38)).cell? ⟨w1.heap.size, 0, none⟩ = some (.int .i64 x.1) := by simp
    have hx1 : (w1.alloc (.cells (rc x) 38)).cell? ⟨w1.heap.size, 1, none⟩ = some (.int .i64 x.2.1) := by simp
    have hx2 : (w1.alloc (.cells (rc x) 38)).cell? ⟨w1.heap.size, 2, none⟩ = some (.string (lstr x.2.2)) := by simp
    have hxl : w1.heap.size < (w1.alloc (.cells (rc x) 38)).heap.size := by simp
    have hsl : w.heap.size < (w1.alloc (.cells (rc x) 38)).heap.size := by simp; omega
    clear HZ HQ HD hz1 hz2 hc1 hB1
    go_wp2_with fail
    generalize w1.alloc (.cells (rc x) 38) = w2 at hc2 hB2 hx0 hx1 hx2 hxl hsl ⊢
    have d0 : w2.cell? ⟨w.heap.size, 0, none⟩ = some (.int .i64 0) := by simp [World.cell?, hc2]
    have d1 : w2.cell? ⟨w.heap.size, 1, none⟩ = some (.int .i64 0) := by simp [World.cell?, hc2]
    have d2 : w2.cell? ⟨w.heap.size, 2, none⟩ = some (.string ⟨#[]⟩) := by simp [World.cell?, hc2]
    have z0 : ∀ i, w2.frozen? ⟨w.heap.size, i, none⟩ = false := fun i => by simp [World.frozen?, hc2]
    go_region_with (go_at_call 24; (with_reducible refine (H24.out _).mono ?_); rintro e w3 ⟨rfl, hw3⟩; have k0 := (hw3.cell (p := ⟨w1.heap.size, 0, none⟩) hxl).trans hx0; have k1 := (hw3.cell (p := ⟨w1.heap.size, 1, none⟩) hxl).trans hx1; have k2 := (hw3.cell (p := ⟨w1.heap.size, 2, none⟩) hxl).trans hx2; have m0 := (hw3.cell (p := ⟨w.heap.size, 0, none⟩) hsl).trans d0; have m1 := (hw3.cell (p := ⟨w.heap.size, 1, none⟩) hsl).trans d1; have m2 := (hw3.cell (p := ⟨w.heap.size, 2, none⟩) hsl).trans d2; have n0 := (hw3.frozen (p := ⟨w.heap.size, 0, none⟩) hsl).trans (z0 0); have n1 := (hw3.frozen (p := ⟨w.heap.size, 1, none⟩) hsl).trans (z0 1); have n2 := (hw3.frozen (p := ⟨w.heap.size, 2, none⟩) hsl).trans (z0 2))
    all_goals
      have hc3 := (hw3.block _ hsl).trans hc2
      have hB3 := hB2.drew.trans (hw3.mono (Nat.le_of_lt hsl))
      go_wp2_with fail
      refine bodyPost_ret_by (results_rec3 rfl _ _ w.heap.size _ _ _ rfl (set3 hc3 _ _ _)) rfl ⟨rfl, ((hB3.setCell (Nat.le_refl _) _).setCell (Nat.le_refl _) _).setCell (Nat.le_refl _) _⟩
  · have e : q = (Tlv.z, [], t.2.2) := by rw [← HQ.out, if_neg he]
    subst e
    clear HZ HQ HD
    go_wp2_with (refine store38 rfl (.tmp 2) (.tmp 16) rfl w.heap.size _ _ (by rfl) (by rfl) hc2 rfl rfl (one3 _ _ _ rfl rfl rfl) ?_; intro w5 hc5 hk5 hs5 hb5)
    refine bodyPost_ret_by (results_rec3 rfl _ _ w.heap.size _ _ _ rfl hc5) rfl ⟨rfl, hb5 _ _ (Nat.le_refl _) hB2⟩
end Go.Proofs.Ytpolpgghdeljbaa
