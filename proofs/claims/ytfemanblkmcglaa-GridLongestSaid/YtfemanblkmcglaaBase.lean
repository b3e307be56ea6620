/- Rows of texts, of steps, of points; what the operations on points and steps give, as the walk's rules. -/
import Derived.Test.YtfemanblkmcglaaRows
import Derived.Test.YtfemanblkmcglaaSpec
import Derived.Test.YtfemanblkmcglaaPlane
import Derived.Test.YtfemanblkmcglaaZero
import Derived.WalkKit
import Derived.WalkSpells
import Derived.WalkLawsBesides
import Derived.Lib.Hide
namespace Go.Proofs.Ytfemanblkmcglaa
open Go.RowKit Grid

/-- A step as a value: 0 both stay, 1 one goes, else one comes. -/
abbrev sv (k : Nat) : Value := .complex .f64 (sre k) (sim k)
/-- A point as a value. -/
abbrev pv (x y : Nat) : Value := .complex .f64 (fb x) (fb y)
def gx (k : Nat) : Nat := if k < 2 then 1 else 0
def gy (k : Nat) : Nat := if k = 1 then 0 else 1

theorem sre_gx (k : Nat) : sre k = fb (gx k) := sre_fb k
theorem sim_gy (k : Nat) : sim k = fb (gy k) := sim_fb k
theorem gx_le (k : Nat) : gx k ≤ 1 := by unfold gx; split <;> omega
theorem gy_le (k : Nat) : gy k ≤ 1 := by unfold gy; split <;> omega
theorem kind_sv (k : Nat) : kind (sre k) (sim k) = min k 2 := by
  match k with
  | 0 => exact kind_zero
  | 1 => exact kind_one
  | k + 2 =>
    have h1 : sre (k + 2) = 0 := by unfold sre; rw [if_neg (by omega)]
    have h2 : sim (k + 2) = f1 := by unfold sim; rw [if_neg (by omega)]
    rw [h1, h2, kind_two]; omega

section
variable {P : Program} (w : World) (t : TypeId)
theorem eql_stay (k : Nat) : (binOp .eql t (sv k) (.complex .f64 4607182418800017408 4607182418800017408)).run P w = .ok (.bool (decide (k = 0))) w := by
  rw [run_eql_complex]
  show Result.ok (Value.bool (same (sre k) (sim k) f1 f1)) w = _
  rw [same_swap, same_f1, kind_sv, show (min k 2 == 0) = decide (k = 0) from by rw [Bool.eq_iff_iff, beq_iff_eq, decide_eq_true_eq]; omega]
theorem eql_goes (k : Nat) : (binOp .eql t (sv k) (.complex .f64 4607182418800017408 0)).run P w = .ok (.bool (decide (k = 1))) w := by
  rw [run_eql_complex]
  show Result.ok (Value.bool (same (sre k) (sim k) f1 0)) w = _
  rw [same_swap, same_one, kind_sv, show (min k 2 == 1) = decide (k = 1) from by rw [Bool.eq_iff_iff, beq_iff_eq, decide_eq_true_eq]; omega]
theorem eql_comes (k : Nat) : (binOp .eql t (sv k) (.complex .f64 0 4607182418800017408)).run P w = .ok (.bool (decide (2 ≤ k))) w := by
  rw [run_eql_complex]
  show Result.ok (Value.bool (same (sre k) (sim k) 0 f1)) w = _
  rw [same_swap, same_two, kind_sv, show (min k 2 == 2) = decide (2 ≤ k) from by rw [Bool.eq_iff_iff, beq_iff_eq, decide_eq_true_eq]; omega]
theorem neq_stay (k : Nat) : (binOp .neq t (sv k) (.complex .f64 4607182418800017408 4607182418800017408)).run P w = .ok (.bool (!decide (k = 0))) w := by
  have h := eql_stay (P := P) w t k
  rw [run_eql_complex] at h
  injection h with h _
  injection h with h
  rw [run_neq_complex, h]
theorem neq_goes (k : Nat) : (binOp .neq t (sv k) (.complex .f64 4607182418800017408 0)).run P w = .ok (.bool (!decide (k = 1))) w := by
  have h := eql_goes (P := P) w t k
  rw [run_eql_complex] at h
  injection h with h _
  injection h with h
  rw [run_neq_complex, h]
theorem neq_comes (k : Nat) : (binOp .neq t (sv k) (.complex .f64 0 4607182418800017408)).run P w = .ok (.bool (!decide (2 ≤ k))) w := by
  have h := eql_comes (P := P) w t k
  rw [run_eql_complex] at h
  injection h with h _
  injection h with h
  rw [run_neq_complex, h]
theorem pt_add {x y : Nat} (k : Nat) (hx : x < 1000000) (hy : y < 1000000) : (binOp .add t (pv x y) (sv k)).run P w = .ok (pv (x + gx k) (y + gy k)) w := by
  show (binOp .add t (pv x y) (.complex .f64 (sre k) (sim k))).run P w = _
  rw [sre_gx, sim_gy]
  have h1 := gx_le k
  have h2 := gy_le k
  exact run_cadd w t (by unfold lim; omega) (by unfold lim; omega)
theorem pt_sub {x y : Nat} (k : Nat) (hx : x < 1000000) (hy : y < 1000000) : (binOp .sub t (pv (x + gx k) (y + gy k)) (pv x y)).run P w = .ok (sv k) w := by
  have h1 := gx_le k
  have h2 := gy_le k
  rw [run_csub w t (by unfold lim; omega) (by unfold lim; omega) (by omega) (by omega), Nat.add_sub_cancel_left, Nat.add_sub_cancel_left]; show _ = Result.ok (Value.complex .f64 (sre k) (sim k)) w; rw [sre_gx, sim_gy]
theorem pt_neq {x y u v : Nat} (hx : x < 1000000) (hy : y < 1000000) (hu : u < 1000000) (hv : v < 1000000) : (binOp .neq t (pv x y) (pv u v)).run P w = .ok (.bool (!decide (x = u ∧ y = v))) w :=
  run_cneq w t (lim_small hx) (lim_small hy) (lim_small hu) (lim_small hv)
theorem pt_eql {x y u v : Nat} (hx : x < 1000000) (hy : y < 1000000) (hu : u < 1000000) (hv : v < 1000000) : (binOp .eql t (pv x y) (pv u v)).run P w = .ok (.bool (decide (x = u ∧ y = v))) w :=
  run_ceql w t (lim_small hx) (lim_small hy) (lim_small hu) (lim_small hv)
theorem int_float (n : Nat) : (convert 3 35 (.int .i64 (n : Int))).run Try.prog w = .ok (.float .f64 (fb n)) w :=
  run_convert_int_float (P := Try.prog) w 3 35 .i64 .f64 n (by rw [Try.underlying3]; rfl) Try.underlying35
theorem float_int {n : Nat} (h : n < 1000000) : (convert 35 3 (.float .f64 (fb n))).run Try.prog w = .ok (.int .i64 (n : Int)) w :=
  run_convert_float_int (P := Try.prog) w 35 3 .f64 .i64 (fb n) n (by rw [Try.underlying35]; rfl) Try.underlying3 (fb_int (lim_small h))
end

/-- A slice of texts. -/
structure Strs (a : Option Addr) (len : Nat) (ss : List ByteArray) (w : World) : Prop where
  count : len = ss.length
  cell : ∀ i, i < len → ∃ b off, a = some ⟨b, off, none⟩ ∧ w.cell? ⟨b, off + i, none⟩ = some (.string (ss.getD i ByteArray.empty))
theorem Strs.below {a : Option Addr} {len : Nat} {ss : List ByteArray} {w w' : World} (h : Strs a len ss w) (hb : Below w.heap.size w w') : Strs a len ss w' :=
  ⟨h.count, fun i hi => by
    obtain ⟨b, off, ha, hc⟩ := h.cell i hi
    exact ⟨b, off, ha, (hb.cell (p := ⟨b, off + i, none⟩) (block_lt_of_cell hc)).trans hc⟩⟩
/-- A slice of steps. -/
structure Steps (a : Option Addr) (len : Nat) (p : List Nat) (w : World) : Prop where
  count : len = p.length
  cell : ∀ i, i < len → ∃ b off, a = some ⟨b, off, none⟩ ∧ w.cell? ⟨b, off + i, none⟩ = some (sv (p.getD i 0))
theorem Steps.below {a : Option Addr} {len : Nat} {p : List Nat} {w w' : World} (h : Steps a len p w) (hb : Below w.heap.size w w') : Steps a len p w' :=
  ⟨h.count, fun i hi => by
    obtain ⟨b, off, ha, hc⟩ := h.cell i hi
    exact ⟨b, off, ha, (hb.cell (p := ⟨b, off + i, none⟩) (block_lt_of_cell hc)).trans hc⟩⟩
/-- A slice of the points of a path. -/
structure Pts (a : Option Addr) (len : Nat) (p : List Nat) (w : World) : Prop where
  count : len = p.length + 1
  cell : ∀ i, i < len → ∃ b off, a = some ⟨b, off, none⟩ ∧ w.cell? ⟨b, off + i, none⟩ = some (pv (xs (p.take i)) (ys (p.take i)))
theorem Pts.below {a : Option Addr} {len : Nat} {p : List Nat} {w w' : World} (h : Pts a len p w) (hb : Below w.heap.size w w') : Pts a len p w' :=
  ⟨h.count, fun i hi => by
    obtain ⟨b, off, ha, hc⟩ := h.cell i hi
    exact ⟨b, off, ha, (hb.cell (p := ⟨b, off + i, none⟩) (block_lt_of_cell hc)).trans hc⟩⟩

theorem info9 : (Try.prog.info? 9).map (fun i => (i.zero, i.size, i.bytes)) = some (some (.string ⟨#[]⟩), 1, 16) := by kernel_rfl
theorem info34 : (Try.prog.info? 34).map (fun i => (i.zero, i.size, i.bytes)) = some (some (.complex .f64 0 0), 1, 16) := by kernel_rfl
theorem str_eq {x y : ByteArray} (h : x = y) : (x.toList == y.toList) = true := by rw [h, beq_iff_eq]
theorem str_ne {x y : ByteArray} (h : x ≠ y) : (x.toList == y.toList) = false := by
  rw [beq_eq_false_iff_ne]
  intro e
  rw [ByteArray.toList_eq, ByteArray.toList_eq] at e
  exact h (Go.WideShapes.bytes_inj e)
/-- Texts alike? Closed to the walk's simp. -/
def alike (x y : ByteArray) : Bool := decide (x = y)
theorem alike_is (x y : ByteArray) : (x.toList == y.toList) = alike x y := by
  unfold alike
  by_cases h : x = y
  · rw [str_eq h, decide_eq_true h]
  · rw [str_ne h, decide_eq_false h]
theorem sem_stralike (t : TypeId) (x y : ByteArray) : binOp .eql t (.string x) (.string y) = pure (.bool (alike x y)) := by rw [binOp_string_eql, alike_is]
theorem sem_strnot (t : TypeId) (x y : ByteArray) : binOp .neq t (.string x) (.string y) = pure (.bool (!alike x y)) := by rw [binOp_string_neq, alike_is]
end Go.Proofs.Ytfemanblkmcglaa
