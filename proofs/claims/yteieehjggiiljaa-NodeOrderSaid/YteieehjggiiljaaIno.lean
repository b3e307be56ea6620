/- readIno. -/
import Derived.Test.YteieehjggiiljaaRefParse
namespace Go.Proofs.Yteieehjggiiljaa
set_option maxRecDepth 100000
open Go.RowKit Go.Less
/-- A number of the bytes so far; shifted. Closed. -/
def sv (l : List UInt8) (z : Nat) : Int := vl (l.take z)
def sv8 (l : List UInt8) (z : Nat) : Int := vl (l.take z) * 256
theorem sem_shlsv (t : TypeId) (l : List UInt8) (z : Nat) (hz : z < 4) : binOp .shl t (.int .u32 (sv l z)) (.int .u64 8) = pure (.int .u32 (sv8 l z)) := by
  show Op.shift .shl .u32 (sv l z) .u64 8 = _
  rw [shift_shl_any _ _ _ _ (by omega)]; unfold sv sv8
  have h0 := vl_lo (l.take z)
  have h1 := vl_hi (l := l) hz
  show pure (Value.int .u32 (IntKind.u32.wrap (vl (l.take z) * ((2 ^ min (8 : Int).toNat 32 : Nat) : Int)))) = _
  rw [IntKind.wrap_u32', show (2 ^ min (8 : Int).toNat 32 : Nat) = 256 from rfl]
  congr 2
  omega
theorem or_low (a c : Nat) (hc : c < 256) : a * 256 ||| c = a * 256 + c := by
  rw [Nat.mul_comm, show 256 = 2 ^ 8 from rfl, Nat.two_pow_add_eq_or_of_lt hc]
theorem or_sv (l : List UInt8) (z : Nat) (hz : z < 4) (c : UInt8) (hl : z < l.length) (hc : c = l.getD z 0) : Go.bits .or .u32 (sv8 l z) (c.toNat : Int) = sv l (z + 1) := by
  have h1 := vl_hi (l := l) hz
  have hc8 := c.toNat_lt
  unfold sv8 sv
  rw [vl_more hl hc]
  unfold vl at *
  rw [show (Nd.val (l.take z) : Int) * 256 = ((Nd.val (l.take z) * 256 : Nat) : Int) by omega, u32_or_nat _ _ (by omega) (by omega), or_low _ _ hc8]
  omega
theorem run_c32 (w : World) (c : UInt8) : (convert 5 85 (.int .u8 (c.toNat : Int))).run Try.prog w = .ok (.int .u32 (c.toNat : Int)) w := by
  have h : (convert 5 85 (.int .u8 (c.toNat : Int))).run Try.prog w = .ok (.int .u32 (IntKind.u32.wrap (c.toNat : Int))) w := by rfl
  have := c.toNat_lt
  rw [h, IntKind.wrap_u32']
  congr 2; omega
theorem run_c64 (w : World) (V : Int) (h0 : 0 ≤ V) (h1 : V < 4294967296) : (convert 85 3 (.int .u32 V)).run Try.prog w = .ok (.int .i64 V) w := by
  have h : (convert 85 3 (.int .u32 V)).run Try.prog w = .ok (.int .i64 (IntKind.i64.wrap V)) w := by rfl
  rw [h, IntWalk.i64_in _ (by omega)]
attribute [local go_sem 9000] sem_shlsv run_c32 run_c64
theorem sv_top {l : List UInt8} (h : l.length = 4) : sv l 4 < 4294967296 := by
  unfold sv vl
  have h1 := Nd.val_lt (l.take 4)
  rw [List.length_take, h] at h1
  have h3 : (256 : Nat) ^ (min 4 4) = 4294967296 := by decide
  omega
set_option maxHeartbeats 2000000 in
theorem ino_any (s : ByteArray) (w : World) (h4 : s.size = 4) : Calls Try.prog 49 #[.string s] w fun e w' => e = .returned (.int .i64 (vl s.data.toList)) ∧ w' = w := by
  have HL := Lib.hid (show s.data.toList.length = 4 from Array.length_toList.trans h4)
  have hsz : s.size = 4 := h4
  have hsi : (s.size : Int) = 4 := by omega
  clear h4
  go_enter Try.func49, Try.ntmps49
  go_wp2_with fail
  go_loopw [3, 7] (fun v i wr => (∃ z : Nat, z ≤ 4 ∧ i = .int .i64 z ∧ v = .int .u32 (sv s.data.toList z)) ∧ wr = w) (fun _ i _ => 4 - (intOf i).toNat)
  case atStart => exact ⟨⟨0, Nat.zero_le _, rfl, rfl⟩, rfl⟩
  case round =>
    obtain ⟨⟨z, hz, rfl, rfl⟩, rfl⟩ := hrel
    have z0i : (0 : Int) ≤ (z : Int) := by omega
    by_cases hz4 : z < 4
    · have hz4i : (z : Int) < 4 := by omega
      have hzs : z < s.size := by omega
      have hor := or_sv s.data.toList z hz4 s[z] (by rw [HL.out]; exact hz4) (b_at s hzs)
      have hzd : z < s.data.size := hzs
      go_wp2_with fail
      go_roundw
      case rel => exact ⟨⟨z + 1, by omega, by go_num, by first | rfl | rw [hor]⟩, by first | rfl | trivial⟩
      case measure => simp [intOf]; omega
    · obtain rfl : z = 4 := by omega
      have h0 : 0 ≤ sv s.data.toList 4 := vl_lo _
      have h1 := sv_top HL.out
      have HV := Lib.hid (show sv s.data.toList 4 = vl s.data.toList by unfold sv; rw [List.take_of_length_le (by rw [HL.out]; exact Nat.le_refl _)])
      generalize sv s.data.toList 4 = V at *
      go_wp2_with fail
      go_ret
      rw [← HV.out]
      exact ⟨rfl, rfl⟩
end Go.Proofs.Yteieehjggiiljaa
