/- The text of a number; a text's own copy. -/
import Derived.Test.YtfemanblkmcglaaTexts
import Derived.Test.YtfemanblkmcglaaShelf
namespace Go.Proofs.Ytfemanblkmcglaa
open Go.RowKit Grid

theorem clone_any (s : ByteArray) (w : World) (hs : s.size ≤ 140737488355328) :
    Calls Try.prog 20 #[.string s] w fun e w' => e = .returned (.string s) ∧ Below w.heap.size w w' := by
  go_enter Try.func20, Try.ntmps20
  go_wp2_with fail
  refine (Try.stringslite_Clone s _ (by omega)).mono ?_
  rintro e w1 ⟨rfl, hw1⟩
  dsimp only
  go_wp2_with fail
  go_ret
  exact ⟨rfl, hw1⟩

theorem f_geq {n : Nat} (h : n < lim) (t : TypeId) : binOp .geq t (.float .f64 (fb n)) (.float .f64 0) = pure (.bool true) := by
  rw [binOp_float_cmp_geq, ← fb_zero, fb_order h (by unfold lim; omega)]
  congr 2
  rcases Nat.eq_zero_or_pos n with h | h
  · subst h; rfl
  · rw [Nat.compare_eq_gt.2 h]; rfl
theorem f_lss {n m : Nat} (h : n < lim) (hm : m < lim) (hl : n < m) (t : TypeId) : binOp .lss t (.float .f64 (fb n)) (.float .f64 (fb m)) = pure (.bool true) := by
  rw [binOp_float_cmp_lss, fb_order h hm, Nat.compare_eq_lt.2 hl]; rfl
theorem f_eql {n : Nat} (h : n < lim) (t : TypeId) : binOp .eql t (.float .f64 (fb n)) (.float .f64 (fb n)) = pure (.bool true) := by
  rw [binOp_float_cmp_eql, fb_order h h]
  simp
set_option maxRecDepth 100000 in
set_option maxHeartbeats 1000000 in
theorem numbered_any (a : Option Addr) (len cap y : Nat) (ss : List ByteArray) (w : World) (hS : Strs a len ss w) (hy : y < len) (hlen : len < 1000000) :
    Calls Try.prog 19 #[.slice a len cap, .float .f64 (fb y)] w fun e w' => e = .returned (.tuple #[.string (ss.getD y ByteArray.empty), .bool true]) ∧ w = w' := by
  obtain ⟨b, off, rfl, hcell⟩ := hS.cell y hy
  generalize ss.getD y ByteArray.empty = x at hcell
  have h1 := f_geq (lim_small (show y < 1000000 by omega))
  have h2 := f_lss (lim_small (show y < 1000000 by omega)) (lim_small hlen) hy
  have h3 := f_eql (lim_small (show y < 1000000 by omega))
  have h4 := fun w => int_float w len
  have h5 := fun w => float_int (n := y) w (by omega)
  have HL := Lib.hid (lim_small (show y < 1000000 by omega))
  have hy0 : (y : Int) < (len : Int) := by omega
  clear hS
  go_enter Try.func19, Try.ntmps19
  go_wp2_with (go_at_call 21; ((with_reducible refine (trunc_any y _ HL.out).mono ?_); rintro e w' ⟨rfl, rfl⟩))
  go_ret2
  exact ⟨rfl, rfl⟩
end Go.Proofs.Ytfemanblkmcglaa
