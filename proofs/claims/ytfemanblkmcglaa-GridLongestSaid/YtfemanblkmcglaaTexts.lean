/- Two rows of texts alike; the text of a number. -/
import Derived.Test.YtfemanblkmcglaaBase
import Derived.Deep.QuietTactic
import Derived.BigQuiet
import Derived.IntWalk
namespace Go.Proofs.Ytfemanblkmcglaa
open Go.RowKit Grid
attribute [local go_sem 9000] sem_stralike sem_strnot

theorem getD_ext {α : Type} {l m : List α} {d : α} (hl : l.length = m.length) (h : ∀ i, i < l.length → l.getD i d = m.getD i d) : l = m := by
  apply List.ext_getElem hl
  intro i h1 h2
  have := h i h1
  rwa [List.getD, List.getD, List.getElem?_eq_getElem h1, List.getElem?_eq_getElem h2] at this
theorem drewN_add (w : World) (m n : Nat) : (w.drewN m).drewN n = w.drewN (m + n) := by unfold World.drewN; simp only [Nat.add_assoc]
theorem ret_bool {a b : Bool} (h : b = a) : Ending.returned (.bool a) = .returned (.bool b) := by rw [h]
/-- Two rows alike? Closed to the walk's simp. -/
def rowsAlike (a b : List ByteArray) : Bool := decide (a = b)
set_option maxRecDepth 100000 in
set_option maxHeartbeats 1000000 in
theorem texts_any (a b : Option Addr) (la ca lb cb : Nat) (sa sb : List ByteArray) (w : World) (hA : Strs a la sa w) (hB : Strs b lb sb w) (hla : la ≤ 140737488355328) (hlb : lb ≤ 140737488355328) :
    Calls Try.prog 14 #[.slice a la ca, .slice b lb cb] w fun e w' => e = .returned (.bool (rowsAlike sa sb)) ∧ ∃ n, w' = w.drewN n := by
  have hl1 : (la : Int) ≤ 140737488355328 := by omega
  have hl2 : (lb : Int) ≤ 140737488355328 := by omega
  by_cases hne : la = lb
  · subst hne
    go_enter Try.func14, Try.ntmps14
    go_wp2
    go_loopw [5] (fun i wr => ∃ k n : Nat, k ≤ la ∧ i = .int .i64 k ∧ wr = w.drewN n ∧ ∀ i, i < k → sa.getD i ByteArray.empty = sb.getD i ByteArray.empty) (fun i _ => la - (intOf i).toNat)
    case atStart => exact ⟨0, 0, by omega, rfl, rfl, fun i hi => by omega⟩
    case round =>
      obtain ⟨k, n, hk, rfl, rfl, hall⟩ := hrel
      have HA := Lib.hid hall
      clear hall
      by_cases hlt : k < la
      · obtain ⟨b1, o1, rfl, hc1⟩ := hA.cell k hlt
        obtain ⟨b2, o2, rfl, hc2⟩ := hB.cell k hlt
        have hk0 : (k : Int) < (la : Int) := by omega
        by_cases he : sa.getD k ByteArray.empty = sb.getD k ByteArray.empty
        · have HN := Lib.hid (show ∀ i, i < k + 1 → sa.getD i ByteArray.empty = sb.getD i ByteArray.empty from fun i hi => by
            rcases Nat.lt_or_ge i k with h | h
            · exact HA.out i h
            · obtain rfl : i = k := by omega
              exact he)
          have ha : alike (sa.getD k ByteArray.empty) (sb.getD k ByteArray.empty) = true := decide_eq_true he
          generalize sa.getD k ByteArray.empty = x at hc1 ha
          generalize sb.getD k ByteArray.empty = y at hc2 ha
          clear he
          go_wp2_with fail
          go_quiet (fail)
          go_wp2_with fail
          go_roundw
          case rel => exact ⟨k + 1, _, by omega, by go_num, rfl, HN.out⟩
          case measure => simp [intOf]; omega
        · have HD := Lib.hid (show rowsAlike sa sb = false from decide_eq_false fun e => he (by rw [e]))
          have ha : alike (sa.getD k ByteArray.empty) (sb.getD k ByteArray.empty) = false := decide_eq_false he
          generalize sa.getD k ByteArray.empty = x at hc1 ha
          generalize sb.getD k ByteArray.empty = y at hc2 ha
          clear he
          go_wp2_with fail
          go_quiet (fail)
          go_wp2_with fail
          go_ret
          exact ⟨ret_bool HD.out, _, drewN_add _ _ _⟩
      · obtain rfl : k = la := by omega
        have HD := Lib.hid (show rowsAlike sa sb = true from decide_eq_true (getD_ext (by rw [← hA.count, ← hB.count]) fun i hi => HA.out i (by rw [hA.count]; exact hi)))
        go_wp2_with fail
        go_ret
        exact ⟨ret_bool HD.out, _, rfl⟩
  · have hne' : ¬ (la : Int) = (lb : Int) := by omega
    have HD := Lib.hid (show rowsAlike sa sb = false from decide_eq_false fun e => hne (by rw [hA.count, hB.count, e]))
    go_enter Try.func14, Try.ntmps14
    go_wp2
    go_ret
    exact ⟨ret_bool HD.out, 0, rfl⟩

/-- A whole number's whole part is itself. -/
theorem trunc_fb {n : Nat} (h : n < lim) (w : World) : (Extern.MathFloor.toIntegral "math.archTrunc" .zero #[.float .f64 (fb n)]).run Try.prog w = .ok (.float .f64 (fb n)) w := by
  obtain ⟨k, hk, hr, hz⟩ := read_fb h
  have e : (Ieee.Datum.number false (n * 2 ^ k) (-(k : Int))).integral .zero = .number false n 0 := by
    unfold Ieee.Datum.integral
    dsimp only
    rw [show (-(k : Int)).toNat = 0 from by omega, show (- -(k : Int)).toNat = k from by omega, Nat.shiftLeft_zero]
    rw [show Ieee.Toward.zero.cut false (n * 2 ^ k) k = n from by
      rcases hz with rfl | hz
      · rw [Nat.zero_mul]; unfold Ieee.Toward.cut; dsimp only; rw [Nat.zero_div]; rfl
      · by_cases h0 : n = 0
        · subst h0; rw [Nat.zero_mul]; unfold Ieee.Toward.cut; dsimp only; rw [Nat.zero_div]; rfl
        · exact cut_zero false n k (by rw [log_mul h0]; omega)]
  have hw : FloatKind.f64.encode (.number false n 0) = fb n := by
    have h0 := fb_near n 0 h
    rw [Nat.pow_zero, Nat.mul_one] at h0
    exact h0
  have hd : FloatKind.f64.decode (fb n) = .number false (n * 2 ^ k) (-(k : Int)) := hr
  unfold Extern.MathFloor.toIntegral
  conv => lhs; arg 2; whnf
  rw [hd]
  show Result.ok (Value.float .f64 (FloatKind.f64.encode ((Ieee.Datum.number false (n * 2 ^ k) (-(k : Int))).integral .zero))) w = _
  rw [e, hw]
theorem trunc_find : Extern.find Try.f23 = some (Extern.MathFloor.toIntegral "math.archTrunc" .zero) := by kernel_rfl
theorem trunc_next : Extern.findNext Try.f23 = none := by kernel_rfl
theorem trunc_call {n : Nat} (h : n < lim) (w : World) : (callFunc 23 #[.float .f64 (fb n)]).run Try.prog w = .ok (.value (.float .f64 (fb n))) w := by
  have h1 : (Try.f23.name == "runtime.NumGoroutine") = false := by kernel_rfl
  have h2 : Try.f23.body.isNone = true := by kernel_rfl
  have h3 := trunc_fb h w
  simp only [beq_eq_false_iff_ne, ne_eq, Option.isNone_iff_eq_none] at h1 h2
  simp [callFunc, Try.func23, h1, h2, trunc_next, trunc_find, h3]
theorem trunc_any (n : Nat) (w : World) (h : n < lim) :
    Calls Try.prog 21 #[.float .f64 (fb n)] w fun e w' => e = .returned (.float .f64 (fb n)) ∧ w = w' := by
  have HC := fun w => trunc_call h w
  go_enter Try.func21, Try.ntmps21
  go_wp2_with fail
  go_ret
  exact ⟨rfl, rfl⟩
end Go.Proofs.Ytfemanblkmcglaa
