/- crc.Seal. -/
import Derived.Test.YtpolpgghdeljbaaSum
namespace Go.Proofs.Ytpolpgghdeljbaa
open Go.RowKit Crc

def lstr (l : List UInt8) : ByteArray := ⟨l.toArray⟩
theorem lstr_size (l : List UInt8) : (lstr l).size = l.length := by show l.toArray.size = _; rw [List.size_toArray]
theorem lstr_data (l : List UInt8) : (lstr l).data.toList = l := rfl
theorem lstr_append (a : ByteArray) (b : List UInt8) : a ++ lstr b = lstr (a.data.toList ++ b) := by
  apply ByteArray.ext
  rw [ByteArray.data_append]
  apply Array.ext'
  rw [Array.toList_append]; rfl
theorem lstr_own (a : ByteArray) : lstr a.data.toList = a := rfl
theorem strs_two (w : World) (x y : ByteArray) : Strs (some ⟨w.heap.size, 0, none⟩) 2 [x, y] (w.alloc (.cells #[.string x, .string y] 9)) :=
  ⟨rfl, fun i hi => ⟨w.heap.size, 0, rfl, by
    match i, hi with
    | 0, _ => simp
    | 1, _ => simp⟩⟩
theorem strs_one (w : World) (x : ByteArray) : Strs (some ⟨w.heap.size, 0, none⟩) 1 [x] (w.alloc (.cells #[.string x] 9)) :=
  ⟨rfl, fun i hi => ⟨w.heap.size, 0, rfl, by
    match i, hi with
    | 0, _ => simp⟩⟩
theorem cat_one (x : ByteArray) : cat [x] = x.data.toList := by simp [cat]
theorem cat_two (x y : ByteArray) : cat [x, y] = x.data.toList ++ y.data.toList := by simp [cat]
theorem each_one {x : ByteArray} {n : Nat} (h : x.size ≤ n) : ∀ i, i < 1 → ([x].getD i ByteArray.empty).size ≤ n
  | 0, _ => h
theorem each_two {x y : ByteArray} {n : Nat} (hx : x.size ≤ n) (hy : y.size ≤ n) : ∀ i, i < 2 → ([x, y].getD i ByteArray.empty).size ≤ n
  | 0, _ => hx
  | 1, _ => hy
/-- The sum of one text, in memory of the caller's own. -/
theorem sum_one (x : ByteArray) (w : World) (hx : x.size ≤ 140737488355328) :
    Calls Try.prog 28 #[.slice (some ⟨w.heap.size, 0, none⟩) 1 1] (w.alloc (.cells #[.string x] 9)) fun e w' => e = .returned (wv (crc x.data.toList)) ∧ w.alloc (.cells #[.string x] 9) = w' := by
  have := sum_any (some ⟨w.heap.size, 0, none⟩) 1 1 [x] (w.alloc (.cells #[.string x] 9)) (strs_one w x) (each_one hx) (by omega)
  rw [cat_one] at this
  exact this
/-- The sum of two texts, in memory of the caller's own. -/
theorem sum_two (x y : ByteArray) (w : World) (hx : x.size ≤ 140737488355328) (hy : y.size ≤ 140737488355328) :
    Calls Try.prog 28 #[.slice (some ⟨w.heap.size, 0, none⟩) 2 2] (w.alloc (.cells #[.string x, .string y] 9)) fun e w' => e = .returned (wv (crc (x.data.toList ++ y.data.toList))) ∧ w.alloc (.cells #[.string x, .string y] 9) = w' := by
  have := sum_any (some ⟨w.heap.size, 0, none⟩) 2 2 [x, y] (w.alloc (.cells #[.string x, .string y] 9)) (strs_two w x y) (each_two hx hy) (by omega)
  rw [cat_two] at this
  exact this

set_option maxRecDepth 100000 in
set_option maxHeartbeats 1000000 in
theorem seal_any (x : ByteArray) (w : World) (hx : x.size ≤ 140737488355320) :
    Calls Try.prog 21 #[.string x] w fun e w' => e = .returned (.string (lstr (sealed x.data.toList))) ∧ Below w.heap.size w w' := by
  have hx1 : (x.size : Int) ≤ 140737488355320 := by omega
  go_enter Try.func21, Try.ntmps21
  go_wp2_with fail
  refine (sum_one x _ (by omega)).mono ?_
  rintro e w1 ⟨rfl, rfl⟩
  dsimp only
  go_wp2_with fail
  refine (sumText_any _ _).mono ?_
  rintro e w2 ⟨rfl, hw2⟩
  rw [show (⟨(low (crc x.data.toList)).toArray⟩ : ByteArray) = lstr (low (crc x.data.toList)) from rfl]
  have HA := Lib.hid (show x ++ lstr (low (crc x.data.toList)) = lstr (sealed x.data.toList) from lstr_append x _)
  have hL : (lstr (low (crc x.data.toList))).size = 4 := by rw [lstr_size, low_length]
  dsimp only
  go_wp2_with fail
  rw [HA.out]
  go_ret
  exact ⟨rfl, ((Below.refl _ _).alloc (Nat.le_refl _) _).trans (hw2.mono (by simp))⟩
end Go.Proofs.Ytpolpgghdeljbaa
