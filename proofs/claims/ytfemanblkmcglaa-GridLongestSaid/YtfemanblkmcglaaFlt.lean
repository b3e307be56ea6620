/- Whole numbers below 2^53 as floats: exact. -/
import Derived.WalkLawsBesides
namespace Grid
open Go Ieee
/-- The bits of a whole number. -/
def fb (n : Nat) : Nat := floatOfInt .f64 n
def f1 : Nat := 4607182418800017408
theorem fb_zero : fb 0 = 0 := by decide +kernel
theorem fb_one : fb 1 = f1 := by decide +kernel
def lim : Nat := 9007199254740992

theorem shl (a k : Nat) : a <<< k = a * 2 ^ k := Nat.shiftLeft_eq a k
theorem log_lt {n : Nat} (h : n < lim) (h0 : n ≠ 0) : n.log2 ≤ 52 := by
  have := (Nat.log2_lt (n := n) (k := 53) h0).2 (by unfold lim at h; omega)
  omega
theorem two_pos (k : Nat) : 0 < 2 ^ k := Nat.two_pow_pos k
theorem log_mul {n : Nat} (h0 : n ≠ 0) (k : Nat) : (n * 2 ^ k).log2 = n.log2 + k := by
  have hp := two_pos k
  have h1 : n * 2 ^ k ≠ 0 := Nat.mul_ne_zero h0 (by omega)
  rw [Nat.log2_eq_iff h1]
  constructor
  · rw [Nat.pow_add]; exact Nat.mul_le_mul_right _ (Nat.log2_self_le h0)
  · rw [show n.log2 + k + 1 = n.log2 + 1 + k from by omega, Nat.pow_add]; exact (Nat.mul_lt_mul_right hp).2 Nat.lt_log2_self

/-- Nothing is lost where what is dropped is nought. -/
theorem cut_exact (neg : Bool) (m d : Nat) (hd : d ≤ (m * 2 ^ d).log2 + 2) : Toward.even.cut neg (m * 2 ^ d) d = m := by
  unfold Toward.cut
  rw [Nat.min_eq_left hd, shl, Nat.one_mul]
  dsimp only
  have hp := two_pos d
  rw [Nat.mul_div_cancel _ hp, Nat.mul_mod_left]
  simp only [Nat.mul_zero]
  rw [show decide (2 ^ d < 0) = false from by simp, show ((2 ^ d == 0) && m % 2 == 1) = false from by
    rw [show (2 ^ d == 0) = false from by simp]; rfl]
  rfl
theorem cut_zero (neg : Bool) (m d : Nat) (hd : d ≤ (m * 2 ^ d).log2 + 2) : Toward.zero.cut neg (m * 2 ^ d) d = m := by
  unfold Toward.cut
  rw [Nat.min_eq_left hd, shl, Nat.one_mul]
  dsimp only
  rw [Nat.mul_div_cancel _ (two_pos d)]
  rfl

def up (n : Nat) : Nat := n * 2 ^ (52 - n.log2)
theorem up_bounds {n : Nat} (h : n < lim) (h0 : n ≠ 0) : 4503599627370496 ≤ up n ∧ up n < 9007199254740992 := by
  unfold up
  have hl := log_lt h h0
  have h1 := Nat.log2_self_le h0
  have h2 := Nat.lt_log2_self (n := n)
  constructor
  · calc 4503599627370496 = 2 ^ n.log2 * 2 ^ (52 - n.log2) := by rw [← Nat.pow_add, show n.log2 + (52 - n.log2) = 52 from by omega]
      _ ≤ _ := Nat.mul_le_mul_right _ h1
  · calc n * 2 ^ (52 - n.log2) < 2 ^ (n.log2 + 1) * 2 ^ (52 - n.log2) := (Nat.mul_lt_mul_right (two_pos _)).2 h2
      _ = 9007199254740992 := by rw [← Nat.pow_add, show n.log2 + 1 + (52 - n.log2) = 53 from by omega]

theorem near (n k : Nat) (h : n < lim) (h0 : n ≠ 0) : double.nearest false (n * 2 ^ k) (-(k : Int)) = (n.log2 + 1022) * 4503599627370496 + up n := by
  have hl := log_lt h h0
  have hu := up_bounds h h0
  have hm : n * 2 ^ k ≠ 0 := Nat.mul_ne_zero h0 (by have := two_pos k; omega)
  unfold Format.nearest
  rw [if_neg hm]
  have hfb : (double.fractionBits : Int) = 52 := rfl
  have hlp : double.leastPlace = -1074 := by decide
  have hbi : double.binade = 4503599627370496 := by decide
  have hin : double.infRung = 9218868437227405312 := by decide
  dsimp only
  rw [log_mul h0, hfb, hlp, hbi, hin]
  have hlast : max (-(k : Int) + ((n.log2 + k : Nat) : Int) - 52) (-1074) = (n.log2 : Int) - 52 := by omega
  rw [hlast]
  have hkept : Toward.even.cut false ((n * 2 ^ k) <<< (-(k : Int) - ((n.log2 : Int) - 52)).toNat) ((n.log2 : Int) - 52 - -(k : Int)).toNat = up n := by
    by_cases hc : k ≤ 52 - n.log2
    · rw [show (-(k : Int) - ((n.log2 : Int) - 52)).toNat = 52 - n.log2 - k from by omega, show ((n.log2 : Int) - 52 - -(k : Int)).toNat = 0 from by omega, shl]
      have := cut_exact false (n * 2 ^ k * 2 ^ (52 - n.log2 - k)) 0 (Nat.zero_le _)
      rw [Nat.pow_zero, Nat.mul_one] at this
      rw [this, Nat.mul_assoc, ← Nat.pow_add, show k + (52 - n.log2 - k) = 52 - n.log2 from by omega]; rfl
    · rw [show (-(k : Int) - ((n.log2 : Int) - 52)).toNat = 0 from by omega, show ((n.log2 : Int) - 52 - -(k : Int)).toNat = k - (52 - n.log2) from by omega, shl, Nat.pow_zero, Nat.mul_one]
      have e : n * 2 ^ k = up n * 2 ^ (k - (52 - n.log2)) := by
        unfold up; rw [Nat.mul_assoc, ← Nat.pow_add, show 52 - n.log2 + (k - (52 - n.log2)) = k from by omega]
      rw [e]
      refine cut_exact false _ _ ?_
      rw [← e, log_mul h0]; omega
  rw [hkept, show (((n.log2 : Int) - 52) - -1074).toNat = n.log2 + 1022 from by omega]
  unfold Format.word
  simp only [Bool.false_eq_true, if_false]
  exact Nat.min_eq_left (by omega)

theorem fb_is {n : Nat} (h : n < lim) (h0 : n ≠ 0) : fb n = (n.log2 + 1022) * 4503599627370496 + up n := by
  have := near n 0 h h0
  rw [Nat.pow_zero, Nat.mul_one] at this
  rw [← this]
  unfold fb floatOfInt FloatKind.nearest FloatKind.encode Format.write
  dsimp only
  rw [show decide ((n : Int) < 0) = false from by simp]
  rfl
theorem fb_near (n k : Nat) (h : n < lim) : double.nearest false (n * 2 ^ k) (-(k : Int)) = fb n := by
  by_cases h0 : n = 0
  · subst h0; rw [fb_zero, Nat.zero_mul]; unfold Format.nearest; rw [if_pos rfl]; rfl
  · rw [near n k h h0, fb_is h h0]

/-- What the bits stand for. -/
theorem read_fb {n : Nat} (h : n < lim) : ∃ k : Nat, k ≤ 1074 ∧ double.read (fb n) = .number false (n * 2 ^ k) (-(k : Int)) ∧ (n = 0 ∨ k ≤ 52) := by
  by_cases h0 : n = 0
  · subst h0
    obtain ⟨k, hk⟩ : ∃ k : Nat, k = 1074 := ⟨_, rfl⟩
    exact ⟨k, by omega, by rw [fb_zero, Nat.zero_mul, hk]; decide +kernel, .inl rfl⟩
  · have hl := log_lt h h0
    have hu := up_bounds h h0
    refine ⟨52 - n.log2, by omega, ?_, .inr (by omega)⟩
    have hr := fb_is h h0
    generalize fb n = r at hr
    have hsw : double.signWeight = 9223372036854775808 := by decide
    have hlp : double.leastPlace = -1074 := by decide
    have hbi : double.binade = 4503599627370496 := by decide
    have hin : double.infRung = 9218868437227405312 := by decide
    unfold Format.read
    dsimp only
    rw [hsw, hlp, hbi, hin]
    have hlt : r < 9218868437227405312 := by omega
    rw [show r / 9223372036854775808 % 2 = 0 from by omega, show r % 9223372036854775808 = r from by omega, if_neg (by omega), if_pos hlt]
    have e1 : 4503599627370496 + r % 4503599627370496 = up n := by omega
    have e2 : (-1074 : Int) + ((r / 4503599627370496 - 1 : Nat) : Int) = -((52 - n.log2 : Nat) : Int) := by omega
    have e3 : Datum.number ((0 : Nat) == 1) (4503599627370496 + r % 4503599627370496) ((-1074 : Int) + ((r / 4503599627370496 - 1 : Nat) : Int)) = .number false (up n) (-((52 - n.log2 : Nat) : Int)) := by
      simp only [e1, e2, show ((0 : Nat) == 1) = false from rfl]
    exact e3

theorem signed_false (m u : Nat) : signed false m u = ((m * 2 ^ u : Nat) : Int) := by unfold signed; rw [shl]; rfl
theorem signed_true (m u : Nat) : signed true m u = -((m * 2 ^ u : Nat) : Int) := by unfold signed; rw [shl]; rfl
theorem to_base {k l : Nat} (h : k ≤ l) (n : Nat) : n * 2 ^ k * 2 ^ (l - k) = n * 2 ^ l := by rw [Nat.mul_assoc, ← Nat.pow_add, show k + (l - k) = l from by omega]

theorem fb_add {a b : Nat} (h : a + b < lim) : floatBits .add .f64 (fb a) (fb b) = some (fb (a + b)) := by
  obtain ⟨k, hk, hr, -⟩ := read_fb (n := a) (by omega)
  obtain ⟨l, hl, hs, -⟩ := read_fb (n := b) (by omega)
  show double.add (fb a) (fb b) = _
  unfold Format.add
  rw [hr, hs]
  show some (double.nearest _ _ _) = _
  congr 1
  have hb : min (-(k : Int)) (-(l : Int)) = -((max k l : Nat) : Int) := by omega
  rw [hb, show (-(k : Int) - -((max k l : Nat) : Int)).toNat = max k l - k from by omega, show (-(l : Int) - -((max k l : Nat) : Int)).toNat = max k l - l from by omega]
  rw [signed_false, signed_false, to_base (by omega), to_base (by omega), ← Int.natCast_add, ← Nat.add_mul]
  rw [show (if (((a + b) * 2 ^ max k l : Nat) : Int) = 0 then false && false else decide ((((a + b) * 2 ^ max k l : Nat) : Int) < 0)) = false from by
    split
    · rfl
    · simp only [decide_eq_false_iff_not]; omega]
  rw [Int.natAbs_natCast]
  exact fb_near _ _ h

theorem fb_sub {a b : Nat} (h : a < lim) (hb : b ≤ a) : floatBits .sub .f64 (fb a) (fb b) = some (fb (a - b)) := by
  obtain ⟨k, hk, hr, -⟩ := read_fb (n := a) (by omega)
  obtain ⟨l, hl, hs, -⟩ := read_fb (n := b) (by omega)
  show double.sub (fb a) (fb b) = _
  unfold Format.sub
  rw [hr, hs]
  show some (double.nearest _ _ _) = _
  congr 1
  have hbs : min (-(k : Int)) (-(l : Int)) = -((max k l : Nat) : Int) := by omega
  rw [hbs, show (-(k : Int) - -((max k l : Nat) : Int)).toNat = max k l - k from by omega, show (-(l : Int) - -((max k l : Nat) : Int)).toNat = max k l - l from by omega]
  rw [show (!false) = true from rfl, signed_false, signed_true, to_base (by omega), to_base (by omega)]
  have hle : b * 2 ^ max k l ≤ a * 2 ^ max k l := Nat.mul_le_mul_right _ hb
  rw [show ((a * 2 ^ max k l : Nat) : Int) + -((b * 2 ^ max k l : Nat) : Int) = (((a - b) * 2 ^ max k l : Nat) : Int) from by rw [Nat.sub_mul]; omega]
  rw [show (if (((a - b) * 2 ^ max k l : Nat) : Int) = 0 then false && true else decide ((((a - b) * 2 ^ max k l : Nat) : Int) < 0)) = false from by
    split
    · rfl
    · simp only [decide_eq_false_iff_not]; omega]
  rw [Int.natAbs_natCast]
  exact fb_near _ _ (by omega)

theorem fb_order {a b : Nat} (ha : a < lim) (hb : b < lim) : FloatKind.f64.format.order (fb a) (fb b) = some (compare a b) := by
  obtain ⟨k, hk, hr, -⟩ := read_fb ha
  obtain ⟨l, hl, hs, -⟩ := read_fb hb
  show double.order (fb a) (fb b) = _
  unfold Format.order
  rw [hr, hs]
  unfold Datum.order
  dsimp only
  have hbs : min (-(k : Int)) (-(l : Int)) = -((max k l : Nat) : Int) := by omega
  rw [hbs, show (-(k : Int) - -((max k l : Nat) : Int)).toNat = max k l - k from by omega, show (-(l : Int) - -((max k l : Nat) : Int)).toNat = max k l - l from by omega]
  rw [signed_false, signed_false, to_base (by omega), to_base (by omega)]
  congr 1
  have hp := two_pos (max k l)
  rcases Nat.lt_trichotomy a b with h | h | h
  · have := (Nat.mul_lt_mul_right hp).2 h
    rw [show compare a b = .lt from by simp [Nat.compare_eq_lt, h], Int.compare_eq_lt]; omega
  · subst h; rw [show compare a a = .eq from by simp, Int.compare_eq_eq]
  · have := (Nat.mul_lt_mul_right hp).2 h
    rw [show compare a b = .gt from by simp [Nat.compare_eq_gt, h], Int.compare_eq_gt]; omega

theorem fb_int {n : Nat} (h : n < lim) : floatToIntVal .f64 (fb n) .i64 = some (n : Int) := by
  obtain ⟨k, hk, hr, hz⟩ := read_fb h
  unfold floatToIntVal
  rw [show FloatKind.f64.decode (fb n) = double.read (fb n) from rfl, hr]
  have e : (Datum.number false (n * 2 ^ k) (-(k : Int))).toInt .zero = some (n : Int) := by
    unfold Datum.toInt Datum.integral
    dsimp only
    rw [show (-(k : Int)).toNat = 0 from by omega, show (- -(k : Int)).toNat = k from by omega, Nat.shiftLeft_zero]
    rw [show Toward.zero.cut false (n * 2 ^ k) k = n from by
      rcases hz with rfl | hz
      · rw [Nat.zero_mul]; unfold Toward.cut; dsimp only; rw [Nat.zero_div]; rfl
      · by_cases h0 : n = 0
        · subst h0; rw [Nat.zero_mul]; unfold Toward.cut; dsimp only; rw [Nat.zero_div]; rfl
        · exact cut_zero false n k (by rw [log_mul h0]; omega)]
    rw [signed_false, Nat.pow_zero, Nat.mul_one]
  rw [e]
  dsimp only
  rw [if_pos]
  exact ⟨by show (-9223372036854775808 : Int) ≤ _; omega, by show (_ : Int) ≤ 9223372036854775807; unfold lim at h; omega⟩
theorem fb_lt (n : Nat) : fb n < 2 ^ 64 := by
  have := floatOfInt_wf .f64 n
  rw [show floatOfInt .f64 (n : Int) = fb n from rfl] at this
  simpa [Lit.wf] using this
theorem fb_inj {a b : Nat} (ha : a < lim) (hb : b < lim) (h : fb a = fb b) : a = b := by
  have h1 := fb_int ha
  have h2 := fb_int hb
  rw [h, h2] at h1
  injection h1 with h1
  omega
end Grid
