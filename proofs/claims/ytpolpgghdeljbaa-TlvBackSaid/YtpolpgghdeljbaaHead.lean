/- tlv.headText, tlv.Print. -/
import Derived.Test.YtpolpgghdeljbaaOpen
import Derived.Test.YtpolpgghdeljbaaSpec
import Derived.IntWalk
import Derived.Deep.RegionHeld3
namespace Go.Proofs.Ytpolpgghdeljbaa
open Go.RowKit Crc

/-- A record as a value. -/
abbrev rv (x : Tlv.R) : Value := .agg #[.int .i64 x.1, .int .i64 x.2.1, .string (lstr x.2.2)]
/-- A number shifted to the right. -/
def shn (n : Int) (k : Nat) : Int := n / 2 ^ k
theorem sem_shr64 (t : TypeId) (n k : Int) (h0 : 0 ≤ k) (h63 : k < 64) : binOp .shr t (.int .i64 n) (.int .u64 k) = pure (.int .i64 (shn n k.toNat)) := by
  show Op.shift .shr .i64 n .u64 k = _
  rw [shift_shr_any _ _ _ _ h0]; unfold shn
  show pure (Value.int .i64 (n / ((2 ^ min k.toNat 64 : Nat) : Int))) = _
  rw [Nat.min_eq_left (by omega)]
  congr 2
section
variable (w : World)
theorem run_c8 (n : Int) : (convert 3 5 (.int .i64 n)).run Try.prog w = .ok (bv (Tlv.u8 n)) w := by
  have h : (convert 3 5 (.int .i64 n)).run Try.prog w = .ok (.int .u8 (IntKind.u8.wrap n)) w := by rfl
  unfold Tlv.u8 bv
  rw [h, IntKind.wrap_u8', UInt8.toNat_ofNat']
  congr 2; omega
theorem run_bytes7 (a b c d e f g : UInt8) : (convert 35 9 (.slice (some ⟨w.heap.size, 0, none⟩) 7 7)).run Try.prog (w.alloc (.cells #[bv a, bv b, bv c, bv d, bv e, bv f, bv g] 5)) = .ok (.string ⟨#[a, b, c, d, e, f, g]⟩) (w.alloc (.cells #[bv a, bv b, bv c, bv d, bv e, bv f, bv g] 5)) := by
  rw [run_convert_bytes_arg (P := Try.prog) (w.alloc (.cells #[bv a, bv b, bv c, bv d, bv e, bv f, bv g] 5)) 35 5 Try.underlying35 Try.underlying5 w.heap.size 0 7 7 [(a.toNat : Int), b.toNat, c.toNat, d.toNat, e.toNat, f.toNat, g.toNat] rfl ?_ 9 Try.underlying9]
  · simp [strOfNums]
  · intro i hi
    rw [Nat.zero_add, World.cell?_alloc_new]
    match i, hi with
    | 0, _ => rfl
    | 1, _ => rfl
    | 2, _ => rfl
    | 3, _ => rfl
    | 4, _ => rfl
    | 5, _ => rfl
    | 6, _ => rfl
end
theorem run_bytes7_at (w : World) (k : Nat) (hk : w.heap.size = k) (a b c d e f g : UInt8) : (convert 35 9 (.slice (some ⟨k, 0, none⟩) 7 7)).run Try.prog (w.alloc (.cells #[bv a, bv b, bv c, bv d, bv e, bv f, bv g] 5)) = .ok (.string ⟨#[a, b, c, d, e, f, g]⟩) (w.alloc (.cells #[bv a, bv b, bv c, bv d, bv e, bv f, bv g] 5)) := by
  subst hk; exact run_bytes7 w a b c d e f g
attribute [local go_sem 9000] sem_shr64 run_c8

set_option maxRecDepth 100000 in
set_option maxHeartbeats 1000000 in
theorem headText_any (x : Tlv.R) (w : World) (hx : x.2.2.length ≤ 140737488355328) :
    Calls Try.prog 22 #[rv x] w fun e w' => e = .returned (.string (lstr (Tlv.head x.1 x.2.1 x.2.2.length))) ∧ Below w.heap.size w w' := by
  obtain ⟨k, s, p⟩ := x
  have hL : (lstr p).size = p.length := lstr_size p
  show Calls Try.prog 22 #[.agg #[.int .i64 k, .int .i64 s, .string (lstr p)]] w fun e w' => e = .returned (.string (lstr (Tlv.head k s p.length))) ∧ Below w.heap.size w w'
  generalize lstr p = y at hL ⊢
  have HB := Lib.hid (run_bytes7_at (w.alloc (.cells #[.int .i64 k, .int .i64 s, .string y] 38)) (w.heap.size + 1) (by simp) (Tlv.u8 k) (Tlv.u8 (shn s 24)) (Tlv.u8 (shn s 16)) (Tlv.u8 (shn s 8)) (Tlv.u8 s) (Tlv.u8 (shn y.size 8)) (Tlv.u8 y.size))
  have HE := Lib.hid (show (⟨#[Tlv.u8 k, Tlv.u8 (shn s 24), Tlv.u8 (shn s 16), Tlv.u8 (shn s 8), Tlv.u8 s, Tlv.u8 (shn y.size 8), Tlv.u8 y.size]⟩ : ByteArray) = lstr (Tlv.head k s p.length) by rw [hL]; rfl)
  clear hL hx
  go_enter Try.func22, Try.ntmps22
  have hb := HB.out
  go_wp2_with fail
  rw [HE.out]
  go_ret
  exact ⟨rfl, ((Below.refl _ _).alloc (Nat.le_refl _) _).alloc (by simp) _⟩
end Go.Proofs.Ytpolpgghdeljbaa
