/- Words of 32 bits in a walk: each operation on them said over BitVec 32. -/
import Derived.Test.YtheobkepoocamaaGreatDoorRows
import Derived.Test.YtheobkepoocamaaGreatDoorSpec
import Derived.WalkKit
import Derived.WalkSpells
import Derived.WalkLawsBesides
namespace Go.Proofs.YtheobkepoocamaaGreatDoor
set_option maxRecDepth 100000
open Go.RowKit Sha

/-- A word as a number; closed to the walk's simp. -/
def u32 (x : BitVec 32) : Int := (x.toNat : Int)
/-- A word as a value. -/
abbrev wv (x : BitVec 32) : Value := .int .u32 (u32 x)
/-- A byte as a value. -/
abbrev bv (x : UInt8) : Value := .int .u8 (x.toNat : Int)

theorem w8_toNat (x : UInt8) : (w8 x).toNat = x.toNat := by
  have := x.toNat_lt
  simp [w8]
theorem b8_toNat (x : BitVec 32) : (b8 x).toNat = x.toNat % 256 := by simp [b8]
theorem u32_lo (x : BitVec 32) : 0 ≤ u32 x := by unfold u32; omega
theorem u32_hi (x : BitVec 32) : u32 x < 4294967296 := by unfold u32; omega
theorem u32_wf (x : BitVec 32) : (Lit.int .u32 (u32 x)).wf = true := WalkArith.wf_u32 (by have := u32_lo x; have := u32_hi x; omega)

theorem wrap_add32 (x y : BitVec 32) : IntKind.u32.wrap (u32 x + u32 y) = u32 (x + y) := by
  unfold u32; rw [IntKind.wrap_u32', BitVec.toNat_add]; omega
theorem bits_xor32 (x y : BitVec 32) : bits .xor .u32 (u32 x) (u32 y) = u32 (x ^^^ y) := by
  unfold u32; rw [u32_xor_nat _ _ x.isLt y.isLt, BitVec.toNat_xor]
theorem bits_and32 (x y : BitVec 32) : bits .and .u32 (u32 x) (u32 y) = u32 (x &&& y) := by
  unfold u32; rw [u32_and_nat _ _ x.isLt y.isLt, BitVec.toNat_and]
theorem bits_or32 (x y : BitVec 32) : bits .or .u32 (u32 x) (u32 y) = u32 (x ||| y) := by
  unfold u32; rw [u32_or_nat _ _ x.isLt y.isLt, BitVec.toNat_or]

theorem sem_add32 (t : TypeId) (x y : BitVec 32) : binOp .add t (.int .u32 (u32 x)) (.int .u32 (u32 y)) = pure (wv (x + y)) := by
  rw [binOp_add]; show pure _ = pure _; unfold wv; rw [← wrap_add32]
theorem sem_xor32 (t : TypeId) (x y : BitVec 32) : binOp .xor t (.int .u32 (u32 x)) (.int .u32 (u32 y)) = pure (wv (x ^^^ y)) := by
  show pure (Value.int .u32 (bits .xor .u32 (u32 x) (u32 y))) = _; rw [bits_xor32]
theorem sem_and32 (t : TypeId) (x y : BitVec 32) : binOp .and t (.int .u32 (u32 x)) (.int .u32 (u32 y)) = pure (wv (x &&& y)) := by
  show pure (Value.int .u32 (bits .and .u32 (u32 x) (u32 y))) = _; rw [bits_and32]
theorem sem_or32 (t : TypeId) (x y : BitVec 32) : binOp .or t (.int .u32 (u32 x)) (.int .u32 (u32 y)) = pure (wv (x ||| y)) := by
  show pure (Value.int .u32 (bits .or .u32 (u32 x) (u32 y))) = _; rw [bits_or32]
theorem sem_not32 (x : BitVec 32) : Op.unary .xor (.int .u32 (u32 x)) = pure (wv (~~~x)) := by
  show pure (Value.int .u32 (bits .xor .u32 (u32 4294967295#32) (u32 x))) = _
  rw [bits_xor32, show (4294967295#32 : BitVec 32) = BitVec.allOnes 32 from rfl, BitVec.allOnes_xor]
theorem sem_shr32 (t : TypeId) (x : BitVec 32) (n : Int) (h0 : 0 ≤ n) : binOp .shr t (.int .u32 (u32 x)) (.int .u64 n) = pure (wv (x >>> n.toNat)) := by
  show Op.shift .shr .u32 (u32 x) .u64 n = _
  rw [shift_shr_any _ _ _ _ h0]; unfold wv u32; rw [BitVec.toNat_ushiftRight, Nat.shiftRight_eq_div_pow]
  show pure (Value.int .u32 ((x.toNat : Int) / ((2 ^ min n.toNat 32 : Nat) : Int))) = _
  rw [← Int.natCast_ediv]
  rcases Nat.le_total n.toNat 32 with h | h
  · rw [Nat.min_eq_left h]
  · rw [Nat.min_eq_right h, Nat.div_eq_of_lt x.isLt, Nat.div_eq_of_lt (Nat.lt_of_lt_of_le x.isLt (Nat.pow_le_pow_right (by omega) h))]
theorem sem_shl32 (t : TypeId) (x : BitVec 32) (n : Int) (h0 : 0 ≤ n) : binOp .shl t (.int .u32 (u32 x)) (.int .u64 n) = pure (wv (x <<< n.toNat)) := by
  show Op.shift .shl .u32 (u32 x) .u64 n = _
  rw [shift_shl_any _ _ _ _ h0]; unfold wv u32; rw [BitVec.toNat_shiftLeft, Nat.shiftLeft_eq]
  show pure (Value.int .u32 (IntKind.u32.wrap ((x.toNat : Int) * ((2 ^ min n.toNat 32 : Nat) : Int)))) = _
  rw [IntKind.wrap_u32', ← Int.natCast_mul, show (4294967296 : Int) = ((2 ^ 32 : Nat) : Int) from rfl, ← Int.natCast_emod]
  rcases Nat.le_total n.toNat 32 with h | h
  · rw [Nat.min_eq_left h]
  · rw [Nat.min_eq_right h, show n.toNat = 32 + (n.toNat - 32) by omega, Nat.pow_add, ← Nat.mul_assoc, Nat.mul_mod_left, Nat.mul_right_comm, Nat.mul_mod_left]
section
variable (w : World)
theorem run_w8 (x : UInt8) : (convert 5 98 (bv x)).run Tryz.prog w = .ok (wv (w8 x)) w := by
  have h : (convert 5 98 (bv x)).run Tryz.prog w = .ok (.int .u32 (IntKind.u32.wrap (x.toNat : Int))) w := by rfl
  have := x.toNat_lt
  unfold wv bv u32 at *
  rw [h, w8_toNat, IntKind.wrap_u32', Int.emod_eq_of_lt (by omega) (by omega)]
theorem run_b8 (x : BitVec 32) : (convert 98 5 (wv x)).run Tryz.prog w = .ok (bv (b8 x)) w := by
  have h : (convert 98 5 (wv x)).run Tryz.prog w = .ok (.int .u8 (IntKind.u8.wrap (x.toNat : Int))) w := by rfl
  unfold wv bv at *
  rw [h, b8_toNat, IntKind.wrap_u8']; simp
theorem run_blockSlice (b o : Nat) (l : Int) (k : Nat) (hk : l = k) (h1 : k < 64) : (Instr.sliceAt 121 (.pointer (some ⟨b, o, none⟩)) (some (.int .i64 l)) none none).run Tryz.prog w = .ok (.slice (some ⟨b, o + k, none⟩) (64 - k) (64 - k)) w := by
  subst hk
  have ht : Tryz.prog.arrayLen 121 = 64 := by kernel_rfl
  have he : Tryz.prog.elem 121 = 5 := by kernel_rfl
  have hz : (sizeOf 5).run Tryz.prog w = .ok 1 w := by kernel_rfl
  rw [run_sliceAt_array_l (P := Tryz.prog) w 121 ⟨b, o, none⟩ (by rw [ht, he]; exact Tryz.underlying121) .i64 (k : Int) (by omega) (by rw [ht]; omega), he, hz, ht]
  have hne : ¬ 64 = k := by omega
  simp [Result.andThen, slicedAt, Addr.add, hne]
theorem run_bytes4 (a b c d : UInt8) : (convert 86 9 (.slice (some ⟨w.heap.size, 0, none⟩) 4 4)).run Tryz.prog (w.alloc (.cells #[bv a, bv b, bv c, bv d] 5)) = .ok (.string ⟨#[a, b, c, d]⟩) (w.alloc (.cells #[bv a, bv b, bv c, bv d] 5)) := by
  rw [run_convert_bytes_arg (P := Tryz.prog) (w.alloc (.cells #[bv a, bv b, bv c, bv d] 5)) 86 5 Tryz.underlying86 Tryz.underlying5 w.heap.size 0 4 4 [(a.toNat : Int), b.toNat, c.toNat, d.toNat] rfl ?_ 9 Tryz.underlying9]
  · simp [strOfNums]
  · intro i hi
    rw [Nat.zero_add, World.cell?_alloc_new]
    match i, hi with
    | 0, _ => rfl
    | 1, _ => rfl
    | 2, _ => rfl
    | 3, _ => rfl
theorem run_bytes1 (a : UInt8) : (convert 86 9 (.slice (some ⟨w.heap.size, 0, none⟩) 1 1)).run Tryz.prog (w.alloc (.cells #[bv a] 5)) = .ok (.string ⟨#[a]⟩) (w.alloc (.cells #[bv a] 5)) := by
  rw [run_convert_bytes_arg (P := Tryz.prog) (w.alloc (.cells #[bv a] 5)) 86 5 Tryz.underlying86 Tryz.underlying5 w.heap.size 0 1 1 [(a.toNat : Int)] rfl ?_ 9 Tryz.underlying9]
  · simp [strOfNums]
  · intro i hi
    rw [Nat.zero_add, World.cell?_alloc_new]
    match i, hi with
    | 0, _ => rfl
end
end Go.Proofs.YtheobkepoocamaaGreatDoor
