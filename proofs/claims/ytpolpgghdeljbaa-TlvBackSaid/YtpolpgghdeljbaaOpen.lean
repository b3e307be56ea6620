/- crc.Open. -/
import Derived.Test.YtpolpgghdeljbaaSeal
import Derived.Test.YtpolpgghdeljbaaShelf
import Derived.Deep.RegionWith
namespace Go.Proofs.Ytpolpgghdeljbaa
open Go.RowKit Crc

theorem clone_any (s : ByteArray) (w : World) (hs : s.size ≤ 140737488355328) :
    Calls Try.prog 24 #[.string s] w fun e w' => e = .returned (.string s) ∧ Below w.heap.size w w' := by
  go_enter Try.func24, Try.ntmps24
  go_wp2_with fail
  refine (Try.stringslite_Clone s _ (by omega)).mono ?_
  rintro e w1 ⟨rfl, hw1⟩
  dsimp only
  go_wp2_with fail
  go_ret
  exact ⟨rfl, hw1⟩

/-- The sum of one text that lies at the head of a block. -/
theorem sum_cell (x : ByteArray) (b : Nat) (w : World) (hx : x.size ≤ 140737488355328) (hc : w.cell? ⟨b, 0, none⟩ = some (.string x)) :
    Calls Try.prog 28 #[.slice (some ⟨b, 0, none⟩) 1 1] w fun e w' => e = .returned (wv (crc x.data.toList)) ∧ w = w' := by
  have := sum_any (some ⟨b, 0, none⟩) 1 1 [x] w ⟨rfl, fun i hi => ⟨b, 0, rfl, by
    match i, hi with
    | 0, _ => exact hc⟩⟩ (each_one hx) (by omega)
  rw [cat_one] at this
  exact this
/-- .. in the caller's own, behind a draw. -/
theorem sum_new (x : ByteArray) (w : World) (hx : x.size ≤ 140737488355328) :
    Calls Try.prog 28 #[.slice (some ⟨w.heap.size, 0, none⟩) 1 1] (w.alloc (.cells #[.string x] 9)).drew fun e w' => e = .returned (wv (crc x.data.toList)) ∧ (w.alloc (.cells #[.string x] 9)).drew = w' :=
  sum_cell x w.heap.size _ hx (by simp)
theorem extract_le (x : ByteArray) (a b : Nat) : (x.extract a b).size ≤ x.size := by simp; omega
theorem sumText_str (x : BitVec 32) (w : World) :
    Calls Try.prog 27 #[wv x] w fun e w' => e = .returned (.string (lstr (low x))) ∧ Below w.heap.size w w' := sumText_any x w

theorem str_eq {x y : ByteArray} (h : x = y) : (x.toList == y.toList) = true := by rw [h, beq_iff_eq]
theorem str_ne {x y : ByteArray} (h : x ≠ y) : (x.toList == y.toList) = false := by
  rw [beq_eq_false_iff_ne]
  intro e
  rw [ByteArray.toList_eq, ByteArray.toList_eq] at e
  exact h (Go.WideShapes.bytes_inj e)
theorem head_eq (x : ByteArray) (n : Nat) : x.extract 0 n = lstr (x.data.toList.take n) := by
  apply Go.WideShapes.bytes_inj
  rw [ByteArray.data_extract, Array.toList_extract, List.extract_eq_take_drop]; rfl
theorem tail_eq (x : ByteArray) (n : Nat) : x.extract n x.size = lstr (x.data.toList.drop n) := by
  apply Go.WideShapes.bytes_inj
  rw [ByteArray.data_extract, Array.toList_extract, List.extract_eq_take_drop, List.take_of_length_le]
  · rfl
  · rw [List.length_drop, Array.length_toList]; exact Nat.le_refl _
theorem lstr_inj {l m : List UInt8} (h : lstr l = lstr m) : l = m := by rw [← lstr_data l, h]; rfl

def opened (l : List UInt8) : List UInt8 × Int :=
  if l.length < 4 then ([], 2) else if low (crc (l.take (l.length - 4))) = l.drop (l.length - 4) then (l.take (l.length - 4), 0) else ([], 8)

set_option maxRecDepth 100000 in
set_option maxHeartbeats 1000000 in
theorem open_short (x : ByteArray) (w : World) (hx : x.size < 4) :
    Calls Try.prog 29 #[.string x] w fun e w' => e = .returned (.tuple #[.string ⟨#[]⟩, .int .i64 2]) ∧ w = w' := by
  have hx1 : (x.size : Int) < 4 := by omega
  go_enter Try.func29, Try.ntmps29
  go_wp2
  go_ret2
  exact ⟨rfl, rfl⟩

set_option maxRecDepth 100000 in
set_option maxHeartbeats 1000000 in
theorem open_right (x : ByteArray) (w : World) (hx : x.size ≤ 140737488355328) (h4 : 4 ≤ x.size) (hs : low (crc (x.data.toList.take (x.size - 4))) = x.data.toList.drop (x.size - 4)) :
    Calls Try.prog 29 #[.string x] w fun e w' => e = .returned (.tuple #[.string (lstr (x.data.toList.take (x.size - 4))), .int .i64 0]) ∧ Below w.heap.size w w' := by
  have hx1 : (x.size : Int) ≤ 140737488355328 := by omega
  have hx4 : (4 : Int) ≤ (x.size : Int) := by omega
  have ht : ((x.size : Int) - 4).toNat = x.size - 4 := by omega
  have H10 := Lib.hid (sum_new (x.extract 0 (x.size - 4)) w (Nat.le_trans (extract_le _ _ _) hx))
  have hq : ((lstr (low (crc (x.data.toList.take (x.size - 4))))).toList == (x.extract (x.size - 4) x.size).toList) = true := str_eq (by rw [tail_eq, hs])
  have HE := Lib.hid (head_eq x (x.size - 4))
  have HC := Lib.hid (fun W => clone_any (x.extract 0 (x.size - 4)) W (Nat.le_trans (extract_le _ _ _) hx))
  clear hs hx
  go_enter Try.func29, Try.ntmps29
  go_wp2_with fail
  go_region_with (first
    | (go_at_call 28; refine H10.out.mono ?_; rintro e w1 ⟨rfl, rfl⟩)
    | (go_at_call 27; refine (sumText_str _ _).mono ?_; rintro e w2 ⟨rfl, hw2⟩))
  all_goals
    go_wp2_with (go_at_call 24; refine (HC.out _).mono ?_; rintro e w3 ⟨rfl, hw3⟩)
    rw [HE.out]
    go_ret2
    exact ⟨rfl, ((((Below.refl _ _).alloc (Nat.le_refl _) _).drew).trans (hw2.mono (by simp))).trans (hw3.mono (Nat.le_trans (by simp) hw2.size))⟩
set_option maxRecDepth 100000 in
set_option maxHeartbeats 1000000 in
theorem open_wrong (x : ByteArray) (w : World) (hx : x.size ≤ 140737488355328) (h4 : 4 ≤ x.size) (hs : low (crc (x.data.toList.take (x.size - 4))) ≠ x.data.toList.drop (x.size - 4)) :
    Calls Try.prog 29 #[.string x] w fun e w' => e = .returned (.tuple #[.string ⟨#[]⟩, .int .i64 8]) ∧ Below w.heap.size w w' := by
  have hx1 : (x.size : Int) ≤ 140737488355328 := by omega
  have hx4 : (4 : Int) ≤ (x.size : Int) := by omega
  have ht : ((x.size : Int) - 4).toNat = x.size - 4 := by omega
  have H10 := Lib.hid (sum_new (x.extract 0 (x.size - 4)) w (Nat.le_trans (extract_le _ _ _) hx))
  have hq : ((lstr (low (crc (x.data.toList.take (x.size - 4))))).toList == (x.extract (x.size - 4) x.size).toList) = false := str_ne (by rw [tail_eq]; exact fun h => hs (lstr_inj h))
  clear hs hx
  go_enter Try.func29, Try.ntmps29
  go_wp2_with fail
  go_region_with (first
    | (go_at_call 28; refine H10.out.mono ?_; rintro e w1 ⟨rfl, rfl⟩)
    | (go_at_call 27; refine (sumText_str _ _).mono ?_; rintro e w2 ⟨rfl, hw2⟩))
  all_goals
    go_wp2
    go_ret2
    exact ⟨rfl, (((Below.refl _ _).alloc (Nat.le_refl _) _).drew).trans (hw2.mono (by simp))⟩
theorem open_any (x : ByteArray) (w : World) (hx : x.size ≤ 140737488355328) :
    Calls Try.prog 29 #[.string x] w fun e w' => e = .returned (.tuple #[.string (lstr (opened x.data.toList).1), .int .i64 (opened x.data.toList).2]) ∧ Below w.heap.size w w' := by
  have hl : x.data.toList.length = x.size := Array.length_toList
  unfold opened
  rw [hl]
  by_cases h4 : x.size < 4
  · rw [if_pos h4]
    exact (open_short x w h4).mono fun _ _ ⟨he, hw⟩ => ⟨he, hw ▸ Below.refl _ _⟩
  · rw [if_neg h4]
    by_cases hs : low (crc (x.data.toList.take (x.size - 4))) = x.data.toList.drop (x.size - 4)
    · rw [if_pos hs]; exact open_right x w hx (by omega) hs
    · rw [if_neg hs]; exact open_wrong x w hx (by omega) hs
end Go.Proofs.Ytpolpgghdeljbaa
