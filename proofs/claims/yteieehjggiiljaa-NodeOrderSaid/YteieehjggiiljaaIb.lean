/- One byte looked for; a rune looked for in the text of 47 and 0. -/
import Derived.Test.YteieehjggiiljaaUni
import Derived.Test.YteieehjggiiljaaBase
import Derived.Lib.Bytealg
import Derived.BigCall
import Derived.BigGuard
namespace Go.Proofs.Yteieehjggiiljaa
set_option maxRecDepth 100000
open Go.RowKit
theorem ib50 (s : ByteArray) (c : Int) (w : World) : Calls Try.prog 63 #[.string s, .int .u8 c] w fun e w' => e = .returned (.int .i64 (Lib.indexByte s.data.toList c.toNat.toUInt8)) ∧ w' = w := by
  go_enter Try.func63, Try.ntmps63
  go_wp2
  rw [run_callFunc_extern Try.func64 (by kernel_rfl) (by kernel_rfl) (by kernel_rfl) (e := Extern.BytealgIndexByte.indexByte) (by kernel_rfl), Lib.run_indexByteString]
  simp only [Result.andThen]
  rw [Oper.upon_value]
  go_wp2
  go_ret
  exact ⟨rfl, rfl⟩
theorem ib46 (s : ByteArray) (c : Int) (w : World) : Calls Try.prog 59 #[.string s, .int .u8 c] w fun e w' => e = .returned (.int .i64 (Lib.indexByte s.data.toList c.toNat.toUInt8)) ∧ w' = w := by
  go_enter Try.func59, Try.ntmps59
  go_wp2_with fail
  refine (ib50 s c _).mono ?_
  rintro e w1 ⟨rfl, rfl⟩
  dsimp only
  go_wp2_with fail
  go_ret
  exact ⟨rfl, rfl⟩
/-- Is it one of the two? -/
def two (x : Nat) : Bool := x == 47 || x == 0
theorem ib_two {n : Nat} (h : n < 128) : (0 ≤ Lib.indexByte [47, 0] ((n : Int).toNat.toUInt8)) ↔ two n = true := by
  have hc : ∀ k : Fin 128, (0 ≤ Lib.indexByte [47, 0] (((k.val : Nat) : Int).toNat.toUInt8)) ↔ two k.val = true := by decide
  exact hc ⟨n, h⟩
end Go.Proofs.Yteieehjggiiljaa
