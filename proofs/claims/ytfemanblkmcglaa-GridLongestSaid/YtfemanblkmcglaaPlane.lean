/- Points and steps of the plane as complex numbers: what the program's operations give. -/
import Derived.Test.YtfemanblkmcglaaFlt
import Derived.Deep.Draws
namespace Grid
open Go Ieee

theorem lim_small {a : Nat} (h : a < 1000000) : a < lim := by unfold lim; omega

section
variable {P : Program} (w : World) (t : TypeId)
theorem run_cadd {a b c d : Nat} (h1 : a + c < lim) (h2 : b + d < lim) :
    (binOp .add t (.complex .f64 (fb a) (fb b)) (.complex .f64 (fb c) (fb d))).run P w = .ok (.complex .f64 (fb (a + c)) (fb (b + d))) w :=
  run_complex_sum w .add (.inl rfl) t .f64 _ _ _ _ _ _ (by unfold cSumBits; rw [fb_add h1, fb_add h2]; rfl)
theorem run_csub {a b c d : Nat} (h1 : a < lim) (h2 : b < lim) (h3 : c ≤ a) (h4 : d ≤ b) :
    (binOp .sub t (.complex .f64 (fb a) (fb b)) (.complex .f64 (fb c) (fb d))).run P w = .ok (.complex .f64 (fb (a - c)) (fb (b - d))) w :=
  run_complex_sum w .sub (.inr rfl) t .f64 _ _ _ _ _ _ (by unfold cSumBits; rw [fb_sub h1 h3, fb_sub h2 h4]; rfl)
theorem order_is {a b : Nat} (ha : a < lim) (hb : b < lim) : (FloatKind.f64.format.order (fb a) (fb b) == some .eq) = decide (a = b) := by
  rw [fb_order ha hb]
  by_cases h : a = b
  · subst h; simp
  · rw [decide_eq_false h]
    rcases Nat.lt_or_gt_of_ne h with h | h
    · rw [Nat.compare_eq_lt.2 h]; rfl
    · rw [Nat.compare_eq_gt.2 h]; rfl
theorem run_ceql {a b c d : Nat} (ha : a < lim) (hb : b < lim) (hc : c < lim) (hd : d < lim) :
    (binOp .eql t (.complex .f64 (fb a) (fb b)) (.complex .f64 (fb c) (fb d))).run P w = .ok (.bool (decide (a = c ∧ b = d))) w := by
  rw [run_eql_complex, order_is ha hc, order_is hb hd, Bool.decide_and]
theorem run_cneq {a b c d : Nat} (ha : a < lim) (hb : b < lim) (hc : c < lim) (hd : d < lim) :
    (binOp .neq t (.complex .f64 (fb a) (fb b)) (.complex .f64 (fb c) (fb d))).run P w = .ok (.bool (!decide (a = c ∧ b = d))) w := by
  rw [run_neq_complex, order_is ha hc, order_is hb hd, Bool.decide_and]

/-- A sum or a difference of any floats: some float, and perhaps a draw. -/
theorem run_any (op : BinOp) (hop : op = .add ∨ op = .sub) (x y : Nat) : ∃ r k, (Op.floatArith op .f64 x y).run P w = .ok (.float .f64 r) (w.drewN k) := by
  have hz : w.drewN 0 = w := rfl
  have ho : w.drewN 1 = w.drew := rfl
  cases h : floatBits op .f64 x y with
  | some r => exact ⟨r, 0, by rw [hz]; exact run_floatArith w h⟩
  | none =>
    refine ⟨(Question.nanBits .f64 x y).cut (w.tape w.drawn (Question.nanBits .f64 x y)), 1, ?_⟩
    rcases hop with rfl | rfl
    · have h' : FloatKind.f64.format.add x y = none := h
      simp [Op.floatArith, h', Question.forced, ho]
    · have h' : FloatKind.f64.format.sub x y = none := h
      simp [Op.floatArith, h', Question.forced, ho]
theorem run_cany (op : BinOp) (hop : op = .add ∨ op = .sub) (a b c d : Nat) : ∃ x y k, (binOp op t (.complex .f64 a b) (.complex .f64 c d)).run P w = .ok (.complex .f64 x y) (w.drewN k) := by
  obtain ⟨x, k, h1⟩ := run_any (P := P) w op hop a c
  obtain ⟨y, l, h2⟩ := run_any (P := P) (w.drewN k) op hop b d
  refine ⟨x, y, k + l, ?_⟩
  have hd : (w.drewN k).drewN l = w.drewN (k + l) := by unfold World.drewN; simp only [Nat.add_assoc]
  rcases hop with rfl | rfl <;> simp [binOp, Op.complexOp, Op.Complex.arith, h1, h2, hd]
end

theorem compare_swap (a b : Int) : (compare a b == .eq) = (compare b a == .eq) := by
  by_cases h : a = b
  · subst h; rfl
  · rcases Int.lt_or_gt_of_ne h with h | h
    · rw [Int.compare_eq_lt.2 h, Int.compare_eq_gt.2 h]; rfl
    · rw [Int.compare_eq_gt.2 h, Int.compare_eq_lt.2 h]; rfl
theorem nat_swap (a b : Nat) : (compare a b == .eq) = (compare b a == .eq) := by
  by_cases h : a = b
  · subst h; rfl
  · rcases Nat.lt_or_gt_of_ne h with h | h
    · rw [Nat.compare_eq_lt.2 h, Nat.compare_eq_gt.2 h]; rfl
    · rw [Nat.compare_eq_gt.2 h, Nat.compare_eq_lt.2 h]; rfl
/-- Which of two stands ahead of '==' plays no part. -/
theorem order_swap (f : Format) (x y : Nat) : (f.order x y == some .eq) = (f.order y x == some .eq) := by
  unfold Format.order
  generalize f.read x = d
  generalize f.read y = e
  have hs : ∀ {o p : Ordering}, (o == .eq) = (p == .eq) → ((some o == some Ordering.eq) = (some p == some Ordering.eq)) := fun h => h
  cases d with
  | nan s m => cases e <;> rfl
  | infinity s =>
    cases e with
    | nan s m => rfl
    | infinity u => exact hs (nat_swap _ _)
    | number u n j => cases s <;> rfl
  | number s m i =>
    cases e with
    | nan s m => rfl
    | infinity u => cases u <;> rfl
    | number u n j =>
      unfold Datum.order
      dsimp only
      rw [show min j i = min i j from by omega]
      exact hs (compare_swap _ _)

/-- Is it this number of the plane? -/
def same (a b c d : Nat) : Bool := (FloatKind.f64.format.order a c == some .eq) && (FloatKind.f64.format.order b d == some .eq)
theorem same_swap (a b c d : Nat) : same a b c d = same c d a b := by unfold same; rw [order_swap _ a c, order_swap _ b d]
/-- A step's bits: 0 both stay, 1 one goes, else one comes. -/
def sre (k : Nat) : Nat := if k < 2 then f1 else 0
def sim (k : Nat) : Nat := if k = 1 then 0 else f1
/-- Which step it is; 3: none. -/
def kind (a b : Nat) : Nat := if same f1 f1 a b then 0 else if same f1 0 a b then 1 else if same 0 f1 a b then 2 else 3
theorem kind_zero : kind f1 f1 = 0 := by decide +kernel
theorem kind_one : kind f1 0 = 1 := by decide +kernel
theorem kind_two : kind 0 f1 = 2 := by decide +kernel
theorem kind_le (a b : Nat) : kind a b ≤ 3 := by unfold kind; split; omega; split; omega; split <;> omega
theorem kind_step {k : Nat} (h : k < 3) : kind (sre k) (sim k) = k := by
  match k, h with
  | 0, _ => exact kind_zero
  | 1, _ => exact kind_one
  | 2, _ => exact kind_two
theorem sre_fb (k : Nat) : sre k = fb (if k < 2 then 1 else 0) := by unfold sre; split; rw [fb_one]; rw [fb_zero]
theorem sim_fb (k : Nat) : sim k = fb (if k = 1 then 0 else 1) := by unfold sim; split; rw [fb_zero]; rw [fb_one]
theorem same_f1 (a b : Nat) : same f1 f1 a b = (kind a b == 0) := by
  unfold kind
  by_cases h : same f1 f1 a b = true
  · rw [if_pos h, h]; rfl
  · rw [if_neg h]; rw [show same f1 f1 a b = false from by simpa using h]; split; rfl; split <;> rfl
/-- What is one step is no other. -/
theorem order_f1_zero (a : Nat) : (FloatKind.f64.format.order f1 a == some .eq) = true → (FloatKind.f64.format.order 0 a == some .eq) = false := by
  have hz : FloatKind.f64.format.read 0 = .number false 0 (-1074) := by decide +kernel
  have h1 : FloatKind.f64.format.read f1 = .number false 4503599627370496 (-52) := by decide +kernel
  unfold Format.order
  rw [hz, h1]
  cases h : FloatKind.f64.format.read a with
  | nan s m => intro _; rfl
  | infinity s => intro _; cases s <;> rfl
  | number s m i =>
    unfold Datum.order
    dsimp only
    intro h
    have e1 : signed false 4503599627370496 (-52 - min (-52) i).toNat = signed s m (i - min (-52) i).toNat := by
      by_cases hq : signed false 4503599627370496 (-52 - min (-52) i).toNat = signed s m (i - min (-52) i).toNat
      · exact hq
      · exfalso
        rcases Int.lt_or_gt_of_ne hq with hq | hq
        · rw [Int.compare_eq_lt.2 hq] at h; cases h
        · rw [Int.compare_eq_gt.2 hq] at h; cases h
    have hm : s = false ∧ m ≠ 0 := by
      rw [signed_false] at e1
      have hp := two_pos (-52 - min (-52) i).toNat
      have hpos : 0 < 4503599627370496 * 2 ^ (-52 - min (-52) i).toNat := Nat.mul_pos (by decide) hp
      cases s with
      | false =>
        refine ⟨rfl, ?_⟩
        rintro rfl
        rw [signed_false, Nat.zero_mul] at e1
        omega
      | true => rw [signed_true] at e1; omega
    obtain ⟨rfl, hm⟩ := hm
    have e2 : signed false 0 (-1074 - min (-1074) i).toNat < signed false m (i - min (-1074) i).toNat := by
      rw [signed_false, signed_false, Nat.zero_mul]
      have hp := two_pos (i - min (-1074) i).toNat
      have := Nat.mul_pos (Nat.pos_of_ne_zero hm) hp
      omega
    rw [Int.compare_eq_lt.2 e2]; rfl
theorem same_one (a b : Nat) : same f1 0 a b = (kind a b == 1) := by
  unfold kind
  by_cases h : same f1 f1 a b = true
  · rw [if_pos h]
    unfold same at h ⊢
    rw [Bool.and_eq_true] at h
    rw [order_f1_zero b h.2, Bool.and_false]; rfl
  · rw [if_neg h]
    by_cases k : same f1 0 a b = true
    · rw [if_pos k, k]; rfl
    · rw [if_neg k, show same f1 0 a b = false from by simpa using k]; split <;> rfl
theorem same_two (a b : Nat) : same 0 f1 a b = (kind a b == 2) := by
  unfold kind
  by_cases h : same f1 f1 a b = true
  · rw [if_pos h]
    unfold same at h ⊢
    rw [Bool.and_eq_true] at h
    rw [order_f1_zero a h.1]; rfl
  · rw [if_neg h]
    by_cases k : same f1 0 a b = true
    · rw [if_pos k]
      unfold same at k ⊢
      rw [Bool.and_eq_true] at k
      rw [order_f1_zero a k.1]; rfl
    · rw [if_neg k]
      by_cases l : same 0 f1 a b = true
      · rw [if_pos l, l]; rfl
      · rw [if_neg l, show same 0 f1 a b = false from by simpa using l]; rfl
end Grid
