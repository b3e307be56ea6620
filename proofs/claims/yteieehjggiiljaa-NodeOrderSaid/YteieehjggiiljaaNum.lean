/- Numbers and their bytes; the document's number. -/
import Derived.Test.YteieehjggiiljaaErow
import Derived.IntWalk
namespace Go.Proofs.Yteieehjggiiljaa
set_option maxRecDepth 100000
open Go.RowKit
def bv (c : UInt8) : Value := .int .u8 (c.toNat : Int)
def byteOf (q : Nat) : UInt8 := UInt8.ofNat q
theorem byteOf_eq (q : Nat) : (q : Int) % 256 = ((byteOf q).toNat : Int) := by unfold byteOf; rw [UInt8.toNat_ofNat']; rfl
/-- A number's bytes, so many, the highest first. -/
def num (v : Nat) : Nat → List UInt8
  | 0 => []
  | k + 1 => UInt8.ofNat (v / 256 ^ k) :: num v k
theorem num_length (v : Nat) : ∀ k, (num v k).length = k
  | 0 => rfl
  | k + 1 => by simp [num, num_length v k]
theorem num_four (v : Nat) : num v 4 = Nd.n4 v := by simp [num, Nd.n4]
theorem num_two (v : Nat) : num v 2 = [UInt8.ofNat (v / 256), UInt8.ofNat v] := by simp [num]
theorem num_one (v : Nat) : num v 1 = [UInt8.ofNat v] := by simp [num]
def numStr (n k : Nat) : ByteArray := ⟨(num n k).toArray⟩
theorem numStr_size (n k : Nat) : (numStr n k).size = k := by show (num n k).toArray.size = k; rw [List.size_toArray, num_length]
theorem numStr_data (n k : Nat) : (numStr n k).data.toList = num n k := rfl
theorem numStr_succ (n k : Nat) : (⟨#[byteOf (n / 256 ^ k)]⟩ : ByteArray) ++ numStr n k = numStr n (k + 1) := by
  apply ByteArray.ext
  rw [ByteArray.data_append]
  apply Array.ext'
  rw [Array.toList_append]; rfl
theorem run_bytes1 (w : World) (a : UInt8) : (convert 51 9 (.slice (some ⟨w.heap.size, 0, none⟩) 1 1)).run Try.prog (w.alloc (.cells #[.int .u8 (a.toNat : Int)] 5)) = .ok (.string ⟨#[a]⟩) (w.alloc (.cells #[.int .u8 (a.toNat : Int)] 5)) := by
  rw [run_convert_bytes_arg (P := Try.prog) (w.alloc (.cells #[.int .u8 (a.toNat : Int)] 5)) 51 5 Try.underlying51 Try.underlying5 w.heap.size 0 1 1 [(a.toNat : Int)] rfl ?_ 9 Try.underlying9]
  · simp [strOfNums]
  · intro i hi
    rw [Nat.zero_add, World.cell?_alloc_new]
    match i, hi with
    | 0, _ => rfl
attribute [local go_sem 9000] run_bytes1
set_option maxHeartbeats 1000000 in
theorem number_any (n : Nat) (v sz : Int) (w : World) (hv : v = n) (hn : n ≤ 1000000000000000) (h0 : 0 ≤ sz) (h1 : sz ≤ 8) :
    Calls Try.prog 24 #[.int .i64 v, .int .i64 sz] w fun e w' => e = .returned (.string (numStr n sz.toNat)) ∧ Below w.heap.size w w' := by
  subst hv
  obtain ⟨k0, rfl⟩ : ∃ k0 : Nat, sz = k0 := ⟨sz.toNat, by omega⟩
  rw [Int.toNat_natCast]
  go_enter Try.func24, Try.ntmps24
  go_wp2
  go_loopw [0, 5, 6] (fun q s i wr => ∃ j : Nat, j ≤ k0 ∧ i = .int .i64 j ∧ q = .int .i64 ((n / 256 ^ j : Nat) : Int) ∧ s = .string (numStr n j) ∧ Below w.heap.size w wr) (fun _ _ i _ => k0 - (intOf i).toNat)
  case atStart => exact ⟨0, by omega, rfl, by simp, rfl, Below.refl _ _⟩
  case round =>
    obtain ⟨j, hj, rfl, rfl, rfl, hW⟩ := hrel
    by_cases hlt : j < k0
    · have hq := byteOf_eq (n / 256 ^ j)
      have hle : n / 256 ^ j ≤ n := Nat.div_le_self _ _
      have hS := numStr_size n j
      have HS := Lib.hid (numStr_succ n j)
      have HD := Lib.hid (show n / 256 ^ j / 256 = n / 256 ^ (j + 1) by rw [Nat.div_div_eq_div_mul]; rfl)
      generalize numStr n j = s at hS HS
      generalize n / 256 ^ j = q at hq hle HS HD
      have hs0 : (s.size : Int) ≤ 8 := by omega
      have hs1 : (0 : Int) ≤ (s.size : Int) := by omega
      have hq0 : (0 : Int) ≤ (q : Int) := by omega
      have hq1 : (q : Int) ≤ 1000000000000000 := by omega
      have hj0 : (j : Int) < (k0 : Int) := by omega
      clear hS hle
      go_wp2
      go_roundw
      case rel => exact ⟨j + 1, by omega, by go_num, by rw [← HD.out]; rfl, by rw [HS.out], hW.alloc hW.size _⟩
      case measure => simp [intOf]; omega
    · obtain rfl : j = k0 := by omega
      go_wp2
      go_ret
      exact ⟨rfl, hW⟩
end Go.Proofs.Yteieehjggiiljaa
