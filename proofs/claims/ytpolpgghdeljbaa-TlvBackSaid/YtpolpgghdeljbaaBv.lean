/- Words of 32 bits in a walk: each operation on them said over BitVec 32. -/
import Derived.Test.YtpolpgghdeljbaaRows
import Derived.Test.YtpolpgghdeljbaaCrcSpec
import Derived.WalkKit
import Derived.WalkSpells
import Derived.WalkLawsBesides
namespace Go.Proofs.Ytpolpgghdeljbaa
open Go.RowKit Crc

/-- A word as a number; closed to the walk's simp. -/
def u32 (x : BitVec 32) : Int := (x.toNat : Int)
/-- A word as a value. -/
abbrev wv (x : BitVec 32) : Value := .int .u32 (u32 x)
/-- A byte as a value. -/
abbrev bv (x : UInt8) : Value := .int .u8 (x.toNat : Int)
def w8 (x : UInt8) : BitVec 32 := BitVec.ofNat 32 x.toNat

theorem w8_toNat (x : UInt8) : (w8 x).toNat = x.toNat := by
  have := x.toNat_lt
  simp [w8]
theorem b8_toNat (x : BitVec 32) : (b8 x).toNat = x.toNat % 256 := by simp [b8]
theorem u32_lo (x : BitVec 32) : 0 ≤ u32 x := by unfold u32; omega
theorem u32_hi (x : BitVec 32) : u32 x < 4294967296 := by unfold u32; omega
theorem u32_inj {x y : BitVec 32} (h : u32 x = u32 y) : x = y := by unfold u32 at h; exact BitVec.eq_of_toNat_eq (by omega)
theorem u32_beq (x y : BitVec 32) : (u32 x == u32 y) = decide (x = y) := by
  rw [Bool.eq_iff_iff, beq_iff_eq, decide_eq_true_eq]
  exact ⟨u32_inj, fun h => by rw [h]⟩

theorem bits_xor32 (x y : BitVec 32) : Go.bits .xor .u32 (u32 x) (u32 y) = u32 (x ^^^ y) := by
  unfold u32; rw [u32_xor_nat _ _ x.isLt y.isLt, BitVec.toNat_xor]
theorem bits_and32 (x y : BitVec 32) : Go.bits .and .u32 (u32 x) (u32 y) = u32 (x &&& y) := by
  unfold u32; rw [u32_and_nat _ _ x.isLt y.isLt, BitVec.toNat_and]

theorem sem_xor32 (t : TypeId) (x y : BitVec 32) : binOp .xor t (.int .u32 (u32 x)) (.int .u32 (u32 y)) = pure (wv (x ^^^ y)) := by
  show pure (Value.int .u32 (Go.bits .xor .u32 (u32 x) (u32 y))) = _; rw [bits_xor32]
theorem sem_xorpoly (t : TypeId) (x : BitVec 32) : binOp .xor t (.int .u32 (u32 x)) (.int .u32 2197175160) = pure (wv (x ^^^ poly)) := sem_xor32 t x poly
theorem sem_and1 (t : TypeId) (x : BitVec 32) : binOp .and t (.int .u32 (u32 x)) (.int .u32 1) = pure (wv (x &&& 1#32)) := by
  show pure (Value.int .u32 (Go.bits .and .u32 (u32 x) (u32 1#32))) = _; rw [bits_and32]
theorem sem_not32 (x : BitVec 32) : Op.unary .xor (.int .u32 (u32 x)) = pure (wv (~~~x)) := by
  show pure (Value.int .u32 (Go.bits .xor .u32 (u32 4294967295#32) (u32 x))) = _
  rw [bits_xor32, show (4294967295#32 : BitVec 32) = BitVec.allOnes 32 from rfl, BitVec.allOnes_xor]
theorem sem_subones (t : TypeId) (x : BitVec 32) : binOp .sub t (.int .u32 4294967295) (.int .u32 (u32 x)) = pure (wv (~~~x)) := by
  rw [binOp_sub]; show pure (Value.int .u32 (IntKind.u32.wrap (4294967295 - u32 x))) = _
  rw [IntKind.wrap_u32']; unfold wv u32; rw [BitVec.toNat_not]
  have := x.isLt
  congr 2; omega
theorem sem_mulpoly (t : TypeId) (x : BitVec 32) : binOp .mul t (.int .u32 2197175160) (.int .u32 (u32 x)) = pure (wv (poly * x)) := by
  rw [binOp_mul]; show pure (Value.int .u32 (IntKind.u32.wrap (2197175160 * u32 x))) = _
  rw [IntKind.wrap_u32']; unfold wv u32 poly; rw [BitVec.toNat_mul]
  congr 2
theorem sem_shr32 (t : TypeId) (k : IntKind) (x : BitVec 32) (n : Int) (h0 : 0 ≤ n) : binOp .shr t (.int .u32 (u32 x)) (.int k n) = pure (wv (x >>> n.toNat)) := by
  show Op.shift .shr .u32 (u32 x) k n = _
  rw [shift_shr_any _ _ _ _ h0]; unfold wv u32; rw [BitVec.toNat_ushiftRight, Nat.shiftRight_eq_div_pow]
  show pure (Value.int .u32 ((x.toNat : Int) / ((2 ^ min n.toNat 32 : Nat) : Int))) = _
  rw [← Int.natCast_ediv]
  rcases Nat.le_total n.toNat 32 with h | h
  · rw [Nat.min_eq_left h]
  · rw [Nat.min_eq_right h, Nat.div_eq_of_lt x.isLt, Nat.div_eq_of_lt (Nat.lt_of_lt_of_le x.isLt (Nat.pow_le_pow_right (by omega) h))]
theorem sem_quo2 (t : TypeId) (x : BitVec 32) : binOp .quo t (.int .u32 (u32 x)) (.int .u32 2) = pure (wv (x >>> 1)) := by
  rw [binOp_quo]; unfold wv u32; rw [BitVec.toNat_ushiftRight, Nat.shiftRight_eq_div_pow]
  show pure (Value.int .u32 (IntKind.u32.wrap ((x.toNat : Int).tdiv 2))) = _
  have := x.isLt
  rw [IntKind.wrap_u32', Int.tdiv_eq_ediv_of_nonneg (by omega)]
  congr 2; omega
/-- A bit as a number. -/
def b01 (b : Bool) : Int := if b then 1 else 0
/-- A word's lowest bit, a byte's n-th one: closed to the walk's simp. -/
def par (x : BitVec 32) : Bool := x.getLsbD 0
def tb (c : UInt8) (n : Nat) : Bool := c.toNat.testBit n
theorem lsb_nat (x : BitVec 32) : (x.toNat : Int) % 2 = b01 (x.getLsbD 0) := by
  unfold b01 BitVec.getLsbD
  rw [Nat.testBit_zero]
  by_cases h : x.toNat % 2 = 1
  · rw [decide_eq_true h, if_pos rfl]; omega
  · rw [decide_eq_false h, if_neg (by simp)]; omega
theorem sem_rem2 (t : TypeId) (x : BitVec 32) : binOp .rem t (.int .u32 (u32 x)) (.int .u32 2) = pure (.int .u32 (b01 (par x))) := by
  unfold par; rw [binOp_rem, ← lsb_nat]; unfold u32
  show (pure (Value.int .u32 ((x.toNat : Int).tmod 2)) : Sem Value) = _
  rw [Int.tmod_eq_emod_of_nonneg (by omega)]
theorem sem_neq01 (t : TypeId) (a b : Bool) : binOp .neq t (.int .u32 (b01 a)) (.int .u32 (b01 b)) = pure (.bool (a ^^ b)) := by
  cases a <;> cases b <;> rfl
theorem sem_eq1 (t : TypeId) (a : Bool) : binOp .eql t (.int .u32 (b01 a)) (.int .u32 1) = pure (.bool a) := by
  cases a <;> rfl
theorem sem_eql32 (t : TypeId) (x y : BitVec 32) : binOp .eql t (.int .u32 (u32 x)) (.int .u32 (u32 y)) = pure (.bool (decide (x = y))) := by
  rw [binOp_eql, u32_beq]
theorem sem_neq32 (t : TypeId) (x y : BitVec 32) : binOp .neq t (.int .u32 (u32 x)) (.int .u32 (u32 y)) = pure (.bool (!decide (x = y))) := by
  rw [binOp_neq, bne, u32_beq]
/-- A byte shifted to the right, as a number. -/
def sh8 (c : UInt8) (n : Nat) : Int := ((c.toNat / 2 ^ n : Nat) : Int)
theorem sem_shr8 (t : TypeId) (c : UInt8) (n : Int) (h0 : 0 ≤ n) : binOp .shr t (.int .u8 (c.toNat : Int)) (.int .u64 n) = pure (.int .u8 (sh8 c n.toNat)) := by
  show Op.shift .shr .u8 (c.toNat : Int) .u64 n = _
  rw [shift_shr_any _ _ _ _ h0]; unfold sh8
  show pure (Value.int .u8 ((c.toNat : Int) / ((2 ^ min n.toNat 8 : Nat) : Int))) = _
  rw [← Int.natCast_ediv]
  have hc := c.toNat_lt
  rcases Nat.le_total n.toNat 8 with h | h
  · rw [Nat.min_eq_left h]
  · rw [Nat.min_eq_right h, Nat.div_eq_of_lt hc, Nat.div_eq_of_lt (Nat.lt_of_lt_of_le hc (Nat.pow_le_pow_right (by omega) h))]
theorem sem_remsh8 (t : TypeId) (c : UInt8) (n : Nat) : binOp .rem t (.int .u32 (sh8 c n)) (.int .u32 2) = pure (.int .u32 (b01 (tb c n))) := by
  rw [binOp_rem]; unfold sh8 tb
  show (pure (Value.int .u32 (((c.toNat / 2 ^ n : Nat) : Int).tmod 2)) : Sem Value) = _
  rw [Int.tmod_eq_emod_of_nonneg (Int.natCast_nonneg _), Nat.testBit_eq_decide_div_mod_eq]
  unfold b01
  by_cases h : c.toNat / 2 ^ n % 2 = 1
  · rw [decide_eq_true h, if_pos rfl]; congr 2; omega
  · rw [decide_eq_false h, if_neg (by simp)]; congr 2; omega
section
variable (w : World)
theorem run_w8 (x : UInt8) : (convert 5 63 (bv x)).run Try.prog w = .ok (wv (w8 x)) w := by
  have h : (convert 5 63 (bv x)).run Try.prog w = .ok (.int .u32 (IntKind.u32.wrap (x.toNat : Int))) w := by rfl
  have := x.toNat_lt
  unfold wv bv u32 at *
  rw [h, w8_toNat, IntKind.wrap_u32', Int.emod_eq_of_lt (by omega) (by omega)]
theorem run_sh8 (c : UInt8) (n : Nat) : (convert 5 63 (.int .u8 (sh8 c n))).run Try.prog w = .ok (.int .u32 (sh8 c n)) w := by
  have h : (convert 5 63 (.int .u8 (sh8 c n))).run Try.prog w = .ok (.int .u32 (IntKind.u32.wrap (sh8 c n))) w := by rfl
  have h1 : 0 ≤ sh8 c n := Int.natCast_nonneg _
  have h2 : sh8 c n < 256 := by
    have := Nat.div_le_self c.toNat (2 ^ n)
    have := c.toNat_lt
    unfold sh8; omega
  rw [h, IntKind.wrap_u32', Int.emod_eq_of_lt (by omega) (by omega)]
theorem run_b8 (x : BitVec 32) : (convert 63 5 (wv x)).run Try.prog w = .ok (bv (b8 x)) w := by
  have h : (convert 63 5 (wv x)).run Try.prog w = .ok (.int .u8 (IntKind.u8.wrap (x.toNat : Int))) w := by rfl
  unfold wv bv at *
  rw [h, b8_toNat, IntKind.wrap_u8']; simp
theorem run_bytes4 (a b c d : UInt8) : (convert 35 9 (.slice (some ⟨w.heap.size, 0, none⟩) 4 4)).run Try.prog (w.alloc (.cells #[bv a, bv b, bv c, bv d] 5)) = .ok (.string ⟨#[a, b, c, d]⟩) (w.alloc (.cells #[bv a, bv b, bv c, bv d] 5)) := by
  rw [run_convert_bytes_arg (P := Try.prog) (w.alloc (.cells #[bv a, bv b, bv c, bv d] 5)) 35 5 Try.underlying35 Try.underlying5 w.heap.size 0 4 4 [(a.toNat : Int), b.toNat, c.toNat, d.toNat] rfl ?_ 9 Try.underlying9]
  · simp [strOfNums]
  · intro i hi
    rw [Nat.zero_add, World.cell?_alloc_new]
    match i, hi with
    | 0, _ => rfl
    | 1, _ => rfl
    | 2, _ => rfl
    | 3, _ => rfl
end
/-- The bit's step as the program takes it. -/
theorem fbit_prog (x : BitVec 32) (c : UInt8) (n : Nat) : x >>> 1 ^^^ poly * ((x ^^^ w8 c >>> n) &&& 1#32) = fbit x (c.toNat.testBit n) := by
  have h1 : (x ^^^ w8 c >>> n) &&& 1#32 = if (x.getLsbD 0 ^^ c.toNat.testBit n) then 1#32 else 0#32 := by
    apply BitVec.eq_of_getLsbD_eq
    intro i hi
    rw [BitVec.getLsbD_and, BitVec.getLsbD_xor, BitVec.getLsbD_ushiftRight, BitVec.getLsbD_one]
    have hc : (w8 c).getLsbD n = c.toNat.testBit n := by unfold BitVec.getLsbD; rw [w8_toNat]
    cases i with
    | zero =>
      rw [Nat.add_zero, hc]
      cases (x.getLsbD 0 ^^ c.toNat.testBit n) <;> simp
    | succ i => cases (x.getLsbD 0 ^^ c.toNat.testBit n) <;> simp
  rw [h1]
  unfold fbit
  cases (x.getLsbD 0 ^^ c.toNat.testBit n)
  · rw [if_neg (by simp), if_neg (by simp), BitVec.mul_zero, BitVec.xor_zero]
  · rw [if_pos rfl, if_pos rfl, BitVec.mul_one]
theorem shr_zero (x : BitVec 32) : x >>> 0 = x := by simp
end Go.Proofs.Ytpolpgghdeljbaa
