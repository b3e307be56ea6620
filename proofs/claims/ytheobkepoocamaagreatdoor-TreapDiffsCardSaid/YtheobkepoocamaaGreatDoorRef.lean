/- The document's answer: Number, constants, Digits. -/
import Derived.Test.YtheobkepoocamaaGreatDoorSum
namespace Go.Proofs.YtheobkepoocamaaGreatDoor
set_option maxRecDepth 100000
open Go.RowKit Sha
attribute [local go_sem 9000] run_bytes1

def byteOf (q : Nat) : UInt8 := UInt8.ofNat q
theorem byteOf_eq (q : Nat) : (q : Int) % 256 = ((byteOf q).toNat : Int) := by unfold byteOf; rw [UInt8.toNat_ofNat']; rfl
def numStr (n k : Nat) : ByteArray := ⟨(num n k).toArray⟩
theorem numStr_size (n k : Nat) : (numStr n k).size = k := by show (num n k).toArray.size = k; rw [List.size_toArray, num_length]
theorem numStr_data (n k : Nat) : (numStr n k).data.toList = num n k := rfl
theorem numStr_succ (n k : Nat) : (⟨#[byteOf (n / 256 ^ k)]⟩ : ByteArray) ++ numStr n k = numStr n (k + 1) := by
  apply ByteArray.ext
  rw [ByteArray.data_append]
  apply Array.ext'
  rw [Array.toList_append]; rfl

set_option maxRecDepth 100000 in
set_option maxHeartbeats 1000000 in
theorem number_any (n : Nat) (v sz : Int) (w : World) (hv : v = n) (hn : n ≤ 1000000000000000) (h0 : 0 ≤ sz) (h1 : sz ≤ 8) :
    Calls Tryz.prog 61 #[.int .i64 v, .int .i64 sz] w fun e w' => e = .returned (.string (numStr n sz.toNat)) ∧ Below w.heap.size w w' := by
  subst hv
  obtain ⟨k0, rfl⟩ : ∃ k0 : Nat, sz = k0 := ⟨sz.toNat, by omega⟩
  rw [Int.toNat_natCast]
  go_enter Tryz.func61, Tryz.ntmps61
  go_wp2
  go_loopw [0, 5, 6] (fun q s i wr => ∃ j : Nat, j ≤ k0 ∧ i = .int .i64 j ∧ q = .int .i64 ((n / 256 ^ j : Nat) : Int) ∧ s = .string (numStr n j) ∧ Below w.heap.size w wr) (fun _ _ i _ => k0 - (intOf i).toNat)
  case atStart => exact ⟨0, by omega, rfl, by simp, rfl, Below.refl _ _⟩
  case round =>
    obtain ⟨j, hj, rfl, rfl, rfl, hW⟩ := hrel
    by_cases hlt : j < k0
    · have hq := byteOf_eq (n / 256 ^ j)
      have hle : n / 256 ^ j ≤ n := Nat.div_le_self _ _
      have hS := numStr_size n j
      have HS := Lib.hid (numStr_succ n j)
      have HD := Lib.hid (show n / 256 ^ j / 256 = n / 256 ^ (j + 1) by rw [Nat.div_div_eq_div_mul]; rfl)
      generalize numStr n j = s at hS HS
      generalize n / 256 ^ j = q at hq hle HS HD
      have hs0 : (s.size : Int) ≤ 8 := by omega
      have hs1 : (0 : Int) ≤ (s.size : Int) := by omega
      have hq0 : (0 : Int) ≤ (q : Int) := by omega
      have hq1 : (q : Int) ≤ 1000000000000000 := by omega
      have hj0 : (j : Int) < (k0 : Int) := by omega
      clear hS hle
      go_wp2
      go_roundw
      case rel => exact ⟨j + 1, by omega, by go_num, by rw [← HD.out]; rfl, by rw [HS.out], hW.alloc hW.size _⟩
      case measure => simp [intOf]; omega
    · obtain rfl : j = k0 := by omega
      go_wp2
      go_ret
      exact ⟨rfl, hW⟩

theorem consts_row : ∀ w : World, (Instr.build 118 #[(0, .int .u32 1116352408), (1, .int .u32 1899447441), (2, .int .u32 3049323471), (3, .int .u32 3921009573), (4, .int .u32 961987163), (5, .int .u32 1508970993), (6, .int .u32 2453635748), (7, .int .u32 2870763221), (8, .int .u32 3624381080), (9, .int .u32 310598401), (10, .int .u32 607225278), (11, .int .u32 1426881987), (12, .int .u32 1925078388), (13, .int .u32 2162078206), (14, .int .u32 2614888103), (15, .int .u32 3248222580), (16, .int .u32 3835390401), (17, .int .u32 4022224774), (18, .int .u32 264347078), (19, .int .u32 604807628), (20, .int .u32 770255983), (21, .int .u32 1249150122), (22, .int .u32 1555081692), (23, .int .u32 1996064986), (24, .int .u32 2554220882), (25, .int .u32 2821834349), (26, .int .u32 2952996808), (27, .int .u32 3210313671), (28, .int .u32 3336571891), (29, .int .u32 3584528711), (30, .int .u32 113926993), (31, .int .u32 338241895), (32, .int .u32 666307205), (33, .int .u32 773529912), (34, .int .u32 1294757372), (35, .int .u32 1396182291), (36, .int .u32 1695183700), (37, .int .u32 1986661051), (38, .int .u32 2177026350), (39, .int .u32 2456956037), (40, .int .u32 2730485921), (41, .int .u32 2820302411), (42, .int .u32 3259730800), (43, .int .u32 3345764771), (44, .int .u32 3516065817), (45, .int .u32 3600352804), (46, .int .u32 4094571909), (47, .int .u32 275423344), (48, .int .u32 430227734), (49, .int .u32 506948616), (50, .int .u32 659060556), (51, .int .u32 883997877), (52, .int .u32 958139571), (53, .int .u32 1322822218), (54, .int .u32 1537002063), (55, .int .u32 1747873779), (56, .int .u32 1955562222), (57, .int .u32 2024104815), (58, .int .u32 2227730452), (59, .int .u32 2361852424), (60, .int .u32 2428436474), (61, .int .u32 2756734187), (62, .int .u32 3204031479), (63, .int .u32 3329325298)]).run Tryz.prog w = .ok (.agg (wrow kAt)) w := fun _ => by kernel_rfl
set_option maxRecDepth 100000 in
set_option maxHeartbeats 1000000 in
theorem constants_any (w : World) :
    Calls Tryz.prog 79 #[] w fun e w' => e = .returned (.agg (wrow kAt)) ∧ Below w.heap.size w w' := by
  have hb := consts_row
  go_enter Tryz.func79, Tryz.ntmps79
  go_wp2_with (first
    | (refine wpList_store_row rfl 118 _ _ rfl w.heap.size (wrow kAt) rfl rfl 118 (wrow (fun _ => 0)) (heap_alloc_new w _) (by rw [wrow_size]; kernel_rfl) (by rw [wrow_size, wrow_size]) (wrow_one _) ?_)
    | fail)
  refine bodyPost_ret (v := .agg (wrow kAt)) (results_cell_row (P := Tryz.prog) Tryz.results79 _ _ w.heap.size 118 (wrow kAt) (0, 0) _ rfl ?_ Tryz.underlying118 rfl (by rw [wrow_size]; kernel_rfl)) rfl ⟨rfl, below_setRow ((Below.refl _ _).alloc (Nat.le_refl _) _) (Nat.le_refl _) _⟩
  exact setRow_heap _ _ _ _ _ _ (heap_alloc_new w _)
end Go.Proofs.YtheobkepoocamaaGreatDoor
