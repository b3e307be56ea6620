/- A rune looked for in the text of 47 and 0. -/
import Derived.Test.YteieehjggiiljaaIb
import Derived.Deep.LoopGhost
import Derived.ScopeJumps
import Derived.Laws.Runes
import Derived.Laws.Strings3
import Derived.BigQuiet
import Derived.Deep.QuietTactic
import Derived.Laws.Cover4
namespace Go.Proofs.Yteieehjggiiljaa
set_option maxRecDepth 1000000
open Go.RowKit
def slot0 : ByteArray := ⟨#[47, 0]⟩
theorem rune_low (n : Nat) (h : n < 128) (w : World) : Calls Try.prog 55 #[.string ⟨#[47, 0]⟩, .int .i32 (n : Int)] w fun e w' => (∃ z : Int, e = .returned (.int .i64 z) ∧ (0 ≤ z ↔ two n = true)) ∧ Below w.heap.size w w' := by
  have h2 := ib_two h
  have h0 : (0 : Int) ≤ (n : Int) := by omega
  have h1 : (n : Int) < 128 := by omega
  go_enter Try.func55, Try.ntmps55
  go_wp2_with (go_at_call 59; refine (ib46 _ _ _).mono ?_; rintro e w1 ⟨rfl, hw⟩; rw [hw])
  go_ret
  refine ⟨⟨_, rfl, ?_⟩, Below.refl _ _⟩
  have e1 : (n : Int).toNat = n := Int.toNat_natCast n
  rw [e1] at h2
  simpa using h2
theorem below_drewN {B : Nat} {a w : World} (h : Below B a w) (n : Nat) : Below B a (w.drewN n) := h.trans ⟨rfl, rfl, rfl, Nat.le_refl _, fun _ _ => rfl⟩
theorem rune_err (w : World) : Calls Try.prog 55 #[.string ⟨#[47, 0]⟩, .int .i32 65533] w fun e w' => (∃ z : Int, e = .returned (.int .i64 z) ∧ z < 0) ∧ Below w.heap.size w w' := by
  have hn0 := fun ty => run_next_ascii (P := Try.prog) w ⟨#[47, 0]⟩ 0 ty (by decide) (by decide)
  have hn1 := fun ty => run_next_ascii (P := Try.prog) w ⟨#[47, 0]⟩ 1 ty (by decide) (by decide)
  have hn2 := fun ty => run_next_end (P := Try.prog) w ⟨#[47, 0]⟩ 2 ty (by decide)
  go_enter Try.func55, Try.ntmps55
  go_wp2
  go_loopg [5, 6] 2 (fun g _ _ wx => (g = 2 ∧ wx = w.iter ⟨#[47, 0]⟩ 0) ∨ (g = 1 ∧ wx = w.iter ⟨#[47, 0]⟩ 1) ∨ (g = 0 ∧ wx = w.iter ⟨#[47, 0]⟩ 2))
  case atStart => exact Or.inl ⟨rfl, rfl⟩
  case round =>
    rcases hrel with ⟨rfl, rfl⟩ | ⟨rfl, rfl⟩ | ⟨rfl, rfl⟩
    · go_wp2
      go_roundg 1
      case measure => omega
      case rel => exact Or.inr (Or.inl ⟨rfl, rfl⟩)
    · go_wp2
      go_roundg 0
      case measure => omega
      case rel => exact Or.inr (Or.inr ⟨rfl, rfl⟩)
    · go_wp2
      go_ret
      exact ⟨⟨_, rfl, by decide⟩, (Below.refl _ _).alloc (Nat.le_refl _) _⟩
theorem valid_any (n : Nat) (hv : Utf8.valid (n : Int) = true) (w : World) : Calls Try.prog 60 #[.int .i32 (n : Int)] w fun e w' => e = .returned (.bool true) ∧ w' = w := by
  have h0 : (0 : Int) ≤ (n : Int) := by omega
  rcases valid_rune hv with hr | hr
  · have h3 : (n : Int) < 55296 := by omega
    go_enter Try.func60, Try.ntmps60
    go_wp2
    go_ret
    exact ⟨rfl, rfl⟩
  · have h3 : ¬ (n : Int) < 55296 := by omega
    have h4 : (57343 : Int) < (n : Int) := by omega
    have h5 : (n : Int) ≤ 1114111 := by omega
    go_enter Try.func60, Try.ntmps60
    go_wp2
    go_ret
    exact ⟨rfl, rfl⟩
theorem rune_wide (n : Nat) (h : 128 ≤ n) (hv : Utf8.valid (n : Int) = true) (hne : n ≠ 65533) (w : World) : Calls Try.prog 55 #[.string ⟨#[47, 0]⟩, .int .i32 (n : Int)] w fun e w' => (∃ z : Int, e = .returned (.int .i64 z) ∧ z < 0) ∧ Below w.heap.size w w' := by
  have HV := Lib.hid (fun w => valid_any n hv w)
  have HE := Lib.hid (encode_wide h hv)
  have h0 : (0 : Int) ≤ (n : Int) := by omega
  have h1 : ¬ (n : Int) < 128 := by omega
  have h2 : ((n : Int) == 65533) = false := by rw [beq_eq_false_iff_ne]; omega
  clear hv hne h
  generalize (n : Int) = r at *
  rcases HE.out with ⟨a, b, he, hb⟩ | he
  · have HF := Lib.hid he
    clear he HE
    go_enter Try.func55, Try.ntmps55
    go_wp2_with fail
    refine (HV.out _).mono ?_
    rintro e w1 ⟨rfl, rfl⟩
    dsimp only
    go_wp2_with fail
    refine wp_scope_straight ?_
    go_wp2_with fail
    rw [HF.out, show wrap64 (((⟨#[a, b]⟩ : ByteArray).size : Int) - 1) = 1 from IntWalk.wrap64_in 1 ⟨by decide, by decide⟩]
    go_loopw [9] (fun v9 wx => v9 = .int .i64 1 ∧ wx = w1) (fun _ _ => 0)
    case atStart => exact ⟨rfl, rfl⟩
    case round =>
      obtain ⟨rfl, rfl⟩ := hrel
      go_wp2_with fail
      refine wp_scope_straight ?_
      go_wp2_with fail
      have hbi : ¬ (b.toNat : Int) = 0 := by omega
      have hbj : ¬ ((((⟨#[47, 0]⟩ : ByteArray)[1]'(by decide)).toNat : Int) = (((⟨#[a, b]⟩ : ByteArray)[1]'(Nat.lt_succ_self 1)).toNat : Int)) := fun h => hbi h.symm
      have hbk : ((((⟨#[47, 0]⟩ : ByteArray)[1]'(by decide)).toNat : Int) != (((⟨#[a, b]⟩ : ByteArray)[1]'(Nat.lt_succ_self 1)).toNat : Int)) = true := bne_iff_ne.2 hbj
      have hw2 : IntKind.i64.wrap 2 = 2 := by decide
      go_quiet (fail)
      go_wp2_with fail
      have HI := Lib.hid (fun w => show Calls Try.prog 59 #[.string ByteArray.empty, .int .u8 (b.toNat : Int)] w fun e w' => e = .returned (.int .i64 (-1)) ∧ w' = w from ib46 ByteArray.empty (b.toNat : Int) w)
      go_quiet (first | (go_at_call 59; refine (HI.out _).mono ?_; rintro e w2 ⟨rfl, rfl⟩; exact ⟨rfl, _, rfl⟩))
      go_wp2_with fail
      simp +zetaDelta only [Exit.noGoto, Exit.inBlock, Exit.then]
      go_ret
      exact ⟨⟨_, rfl, by decide⟩, below_drewN (Below.refl _ _) _⟩
  · have HF := Lib.hid he
    clear he HE
    go_enter Try.func55, Try.ntmps55
    go_wp2_with fail
    refine (HV.out _).mono ?_
    rintro e w1 ⟨rfl, rfl⟩
    dsimp only
    go_wp2_with fail
    refine wp_scope_straight ?_
    go_wp2_with fail
    have hz : wrap64 ((Utf8.encode r).size - 1) = ((Utf8.encode r).size : Int) - 1 := IntWalk.wrap64_in _ ⟨by have h7 := HF.out; have := encode_size_le r; omega, by have h7 := HF.out; have := encode_size_le r; omega⟩
    rw [hz]
    have hge : ¬ ((Utf8.encode r).size : Int) - 1 < 2 := by have := HF.out; omega
    generalize ((Utf8.encode r).size : Int) - 1 = z at *
    clear hz
    go_loopw [9] (fun v9 wx => v9 = .int .i64 z ∧ wx = w1) (fun _ _ => 0)
    case atStart => exact ⟨rfl, rfl⟩
    case round =>
      obtain ⟨rfl, rfl⟩ := hrel
      go_wp2_with fail
      go_ret
      exact ⟨⟨_, rfl, by decide⟩, Below.refl _ _⟩
end Go.Proofs.Yteieehjggiiljaa
