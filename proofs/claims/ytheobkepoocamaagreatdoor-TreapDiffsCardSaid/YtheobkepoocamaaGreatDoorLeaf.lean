/- Contracts of the leaf functions. -/
import Derived.Test.YtheobkepoocamaaGreatDoorBv
namespace Go.Proofs.YtheobkepoocamaaGreatDoor
set_option maxRecDepth 100000
open Go.RowKit Sha
attribute [local go_sem 9000] sem_add32 sem_xor32 sem_and32 sem_or32 sem_not32 sem_shr32 sem_shl32 run_w8 run_b8 run_bytes4 run_bytes1

set_option maxHeartbeats 400000 in
theorem turn_any (x : BitVec 32) (n : Int) (w : World) (h1 : 1 ≤ n) (h2 : n ≤ 31) :
    Calls Tryz.prog 80 #[wv x, .int .u64 n] w fun e w' => e = .returned (wv (rotr x n.toNat)) ∧ w = w' := by
  have h0 : 0 ≤ n := by omega
  have h3 : n ≤ 32 := by omega
  have h4 : (32 - n).toNat = 32 - n.toNat := by omega
  go_enter Tryz.func80, Tryz.ntmps80
  go_wp2
  go_ret
  exact ⟨rfl, rfl⟩

/-- The count of a turn to the left by -n. -/
theorem count_of (n : Int) (h1 : 1 ≤ n) (h2 : n ≤ 31) : bits .and .u64 (IntKind.u64.wrap (-n)) 31 = 32 - n := by
  have h : IntKind.u64.wrap (-n) = ((18446744073709551616 - n).toNat : Int) := by
    simp [IntKind.wrap, IntKind.bits, IntKind.signed]; omega
  rw [h, show (31 : Int) = ((31 : Nat) : Int) from rfl, u64_and_nat _ _ (by omega) (by omega), nat_mask5]
  omega

set_option maxHeartbeats 400000 in
theorem rotl_any (x : BitVec 32) (n : Int) (w : World) (h1 : 1 ≤ n) (h2 : n ≤ 31) :
    Calls Tryz.prog 100 #[wv x, .int .i64 (-n)] w fun e w' => e = .returned (wv (rotr x n.toNat)) ∧ w = w' := by
  have h0 : 0 ≤ n := by omega
  have h3 : n ≤ 32 := by omega
  have h4 : (32 - n).toNat = 32 - n.toNat := by omega
  have h6 : 32 - (32 - n) = n := by omega
  have h5 := count_of n h1 h2
  go_enter Tryz.func100, Tryz.ntmps100
  go_wp2
  go_ret
  exact ⟨congrArg (fun x => Ending.returned (wv x)) (BitVec.or_comm _ _), rfl⟩

set_option maxHeartbeats 400000 in
theorem turnRight_any (x : BitVec 32) (n : Int) (w : World) (h1 : 1 ≤ n) (h2 : n ≤ 31) :
    Calls Tryz.prog 94 #[wv x, .int .i64 n] w fun e w' => e = .returned (wv (rotr x n.toNat)) ∧ w = w' := by
  go_enter Tryz.func94, Tryz.ntmps94
  go_wp2_with (go_at_call 100; refine (rotl_any _ _ _ h1 h2).mono ?_; rintro e w' ⟨rfl, rfl⟩)
  go_ret
  exact ⟨rfl, rfl⟩

set_option maxHeartbeats 400000 in
theorem wordText_any (x : BitVec 32) (w : World) :
    Calls Tryz.prog 82 #[wv x] w fun e w' => e = .returned (.string ⟨(wordBytes x).toArray⟩) ∧ Below w.heap.size w w' := by
  go_enter Tryz.func82, Tryz.ntmps82
  go_wp2
  go_ret
  exact ⟨rfl, (Below.refl _ _).alloc (Nat.le_refl _) _⟩
end Go.Proofs.YtheobkepoocamaaGreatDoor
