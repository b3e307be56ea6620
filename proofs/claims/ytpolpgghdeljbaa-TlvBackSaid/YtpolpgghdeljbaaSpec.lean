/- Records out of bytes, plainly. -/
import Derived.Test.YtpolpgghdeljbaaCrcSpec
namespace Tlv
open Crc

/-- A record: its Kind, its number, its payload. -/
abbrev R := Int × Int × List UInt8
def z : R := (0, 0, [])
def u8 (n : Int) : UInt8 := UInt8.ofNat (n % 256).toNat
def head (k s n : Int) : List UInt8 := [u8 k, u8 (s / 16777216), u8 (s / 65536), u8 (s / 256), u8 s, u8 (n / 256), u8 n]
def bytes (x : R) : List UInt8 := sealed (head x.1 x.2.1 x.2.2.length ++ x.2.2)
def right (x : R) : Prop := 1 ≤ x.1 ∧ x.1 ≤ 255 ∧ 0 ≤ x.2.1 ∧ x.2.1 ≤ 2147483647
def printed (x : R) : List UInt8 × Int :=
  if 1 ≤ x.1 ∧ x.1 ≤ 255 ∧ 0 ≤ x.2.1 ∧ x.2.1 ≤ 2147483647 then (if x.2.2.length ≤ 8192 then (bytes x, 0) else ([], 3)) else ([], 1)
def b (l : List UInt8) (i : Nat) : Nat := (l.getD i 0).toNat
def sq (l : List UInt8) : Nat → Nat
  | 0 => 0
  | k + 1 => sq l k * 256 + b l (k + 1)
def rec_ (t : List UInt8) : R × Int :=
  if b t 0 = 0 then (z, 16) else if 2147483647 < sq t 4 then (z, 1) else (((b t 0 : Nat), (sq t 4 : Nat), t.drop 7), 0)
def len (l : List UInt8) : Nat := b l 5 * 256 + b l 6
def opens (l : List UInt8) : Prop := low (crc (l.take (len l + 7))) = (l.take (len l + 11)).drop (len l + 7)
instance (l : List UInt8) : Decidable (opens l) := by unfold opens; infer_instance
def take (l : List UInt8) : R × Nat × Int :=
  if l.length < 7 then (z, 0, 4) else if 8192 < len l then (z, 0, 3) else if l.length < len l + 11 then (z, 0, 4) else
  if opens l then ((rec_ (l.take (len l + 7))).1, len l + 11, (rec_ (l.take (len l + 7))).2) else (z, 0, 8)
def takeNext (n : Int) (l : List UInt8) : R × Nat × Int :=
  if (take l).2.2 = 1 ∨ ((take l).2.2 = 0 ∧ (take l).1.2.1 ≠ n) then (z, 0, 18) else take l
def run : Nat → Int → List UInt8 → List R × List UInt8 × Int × Int
  | 0, n, l => ([], l, n, 0)
  | f + 1, n, l =>
    if (takeNext n l).2.2 = 0 then ((takeNext n l).1 :: (run f (n + 1) (l.drop (takeNext n l).2.1)).1, (run f (n + 1) (l.drop (takeNext n l).2.1)).2)
    else if (takeNext n l).2.2 = 4 then ([], l, n, 0) else ([], [], n, (takeNext n l).2.2)
def feed (n : Int) (l : List UInt8) : List R × List UInt8 × Int × Int := run (l.length + 1) n l

theorem len_lt (l : List UInt8) : len l < 65536 := by
  unfold len b
  have h5 := (l.getD 5 0).toNat_lt
  have h6 := (l.getD 6 0).toNat_lt
  omega
theorem sq_lt (l : List UInt8) : ∀ k, sq l k < 256 ^ k
  | 0 => by simp [sq]
  | k + 1 => by
    have ih := sq_lt l k
    have hb := (l.getD (k + 1) 0).toNat_lt
    unfold sq b
    rw [Nat.pow_succ]; omega
theorem b_take (l : List UInt8) (i n : Nat) (h : i < n) : b (l.take n) i = b l i := by
  unfold b
  simp [List.getD, h]
theorem b_append (l m : List UInt8) (i : Nat) (h : i < l.length) : b (l ++ m) i = b l i := by
  unfold b
  simp [List.getD, List.getElem?_append_left h]
theorem sq_congr {l m : List UInt8} : ∀ k, (∀ i, i ≤ k → b l i = b m i) → sq l k = sq m k
  | 0, _ => rfl
  | k + 1, h => by
    unfold sq
    rw [sq_congr k (fun i hi => h i (by omega)), h (k + 1) (by omega)]
theorem len_append (l m : List UInt8) (h : 7 ≤ l.length) : len (l ++ m) = len l := by
  unfold len; rw [b_append _ _ _ (by omega), b_append _ _ _ (by omega)]
theorem opens_append (l m : List UInt8) (h : 7 ≤ l.length) (h2 : len l + 11 ≤ l.length) : opens (l ++ m) ↔ opens l := by
  unfold opens
  rw [len_append l m h, List.take_append_of_le_length (by omega), List.take_append_of_le_length (by omega)]
theorem take_append (l m : List UInt8) (h : (take l).2.2 ≠ 4) : take (l ++ m) = take l := by
  unfold take at h ⊢
  by_cases h1 : l.length < 7
  · rw [if_pos h1] at h; exact absurd rfl h
  · rw [if_neg h1] at h
    have h1' : 7 ≤ l.length := by omega
    rw [if_neg h1, if_neg (by rw [List.length_append]; omega), len_append l m h1']
    by_cases h2 : 8192 < len l
    · rw [if_pos h2, if_pos h2]
    · rw [if_neg h2] at h
      rw [if_neg h2, if_neg h2]
      by_cases h3 : l.length < len l + 11
      · rw [if_pos h3] at h; exact absurd rfl h
      · rw [if_neg h3, if_neg (by rw [List.length_append]; omega)]
        rw [List.take_append_of_le_length (by omega)]
        by_cases h4 : opens l
        · rw [if_pos h4, if_pos ((opens_append l m h1' (by omega)).2 h4)]
        · rw [if_neg h4, if_neg (fun e => h4 ((opens_append l m h1' (by omega)).1 e))]
theorem rec_err (t : List UInt8) : (rec_ t).2 ≠ 4 := by
  unfold rec_; split
  · simp
  · split <;> simp
theorem take_size (l : List UInt8) (h : (take l).2.2 = 0) : 11 ≤ (take l).2.1 ∧ (take l).2.1 ≤ l.length := by
  unfold take at h ⊢
  by_cases h1 : l.length < 7
  · rw [if_pos h1] at h; simp at h
  · rw [if_neg h1] at h ⊢
    by_cases h2 : 8192 < len l
    · rw [if_pos h2] at h; simp at h
    · rw [if_neg h2] at h ⊢
      by_cases h3 : l.length < len l + 11
      · rw [if_pos h3] at h; simp at h
      · rw [if_neg h3] at h ⊢
        by_cases h4 : opens l
        · rw [if_pos h4]; simp only; omega
        · rw [if_neg h4] at h; simp at h
theorem takeNext_size (n : Int) (l : List UInt8) (h : (takeNext n l).2.2 = 0) : 11 ≤ (takeNext n l).2.1 ∧ (takeNext n l).2.1 ≤ l.length := by
  unfold takeNext at h ⊢
  split
  · rename_i hc; rw [if_pos hc] at h; simp at h
  · rename_i hc; rw [if_neg hc] at h; exact take_size l h
theorem takeNext_append (n : Int) (l m : List UInt8) (h : (takeNext n l).2.2 ≠ 4) : takeNext n (l ++ m) = takeNext n l := by
  have h4 : (take l).2.2 ≠ 4 := by
    intro e
    unfold takeNext at h
    rw [e, if_neg (by simp)] at h
    exact h e
  unfold takeNext
  rw [take_append l m h4]
theorem run_fuel : ∀ (f g : Nat) (n : Int) (l : List UInt8), l.length < f → l.length < g → run f n l = run g n l
  | 0, _, _, _, h, _ => absurd h (Nat.not_lt_zero _)
  | _ + 1, 0, _, _, _, h => absurd h (Nat.not_lt_zero _)
  | f + 1, g + 1, n, l, hf, hg => by
    unfold run
    by_cases h0 : (takeNext n l).2.2 = 0
    · have hs := takeNext_size n l h0
      rw [if_pos h0, if_pos h0, run_fuel f g (n + 1) (l.drop (takeNext n l).2.1) (by rw [List.length_drop]; omega) (by rw [List.length_drop]; omega)]
    · rw [if_neg h0, if_neg h0]
theorem feed_ok {n : Int} {l : List UInt8} (h : (takeNext n l).2.2 = 0) :
    feed n l = ((takeNext n l).1 :: (feed (n + 1) (l.drop (takeNext n l).2.1)).1, (feed (n + 1) (l.drop (takeNext n l).2.1)).2) := by
  have hs := takeNext_size n l h
  unfold feed
  rw [run_fuel (l.drop (takeNext n l).2.1).length.succ l.length (n + 1) (l.drop (takeNext n l).2.1) (by omega) (by rw [List.length_drop]; omega)]
  show run (l.length + 1) n l = _
  conv => lhs; unfold run
  rw [if_pos h]
theorem feed_none {n : Int} {l : List UInt8} (h : (takeNext n l).2.2 = 4) : feed n l = ([], l, n, 0) := by
  show run (l.length + 1) n l = _
  unfold run
  rw [if_neg (by rw [h]; decide), if_pos h]
theorem feed_wrong {n : Int} {l : List UInt8} (h0 : (takeNext n l).2.2 ≠ 0) (h4 : (takeNext n l).2.2 ≠ 4) : feed n l = ([], [], n, (takeNext n l).2.2) := by
  show run (l.length + 1) n l = _
  unfold run
  rw [if_neg h0, if_neg h4]
theorem feed_nil (n : Int) : feed n [] = ([], [], n, 0) := feed_none (by simp [takeNext, take])

/-- What is fed behind: once wrong, nothing more; else what waited is read again. -/
theorem feed_append (m : List UInt8) : ∀ (k : Nat) (l : List UInt8) (n : Int), l.length ≤ k →
    feed n (l ++ m) = if (feed n l).2.2.2 = 0 then ((feed n l).1 ++ (feed (feed n l).2.2.1 ((feed n l).2.1 ++ m)).1, (feed (feed n l).2.2.1 ((feed n l).2.1 ++ m)).2) else feed n l := by
  intro k
  induction k with
  | zero =>
    intro l n hk
    rw [List.eq_nil_of_length_eq_zero (Nat.le_zero.1 hk), feed_nil]
    simp
  | succ k ih =>
    intro l n hk
    by_cases h0 : (takeNext n l).2.2 = 0
    · have hs := takeNext_size n l h0
      have ha := takeNext_append n l m (by rw [h0]; decide)
      rw [feed_ok h0, feed_ok (n := n) (l := l ++ m) (by rw [ha]; exact h0), ha, List.drop_append_of_le_length (by omega), ih _ _ (by rw [List.length_drop]; omega)]
      simp only
      split <;> simp
    · by_cases h4 : (takeNext n l).2.2 = 4
      · rw [feed_none h4]; simp
      · rw [feed_wrong h0 h4, if_neg (by simpa using h0), feed_wrong (by rw [takeNext_append n l m h4]; exact h0) (by rw [takeNext_append n l m h4]; exact h4), takeNext_append n l m h4]
/-- A wrong reader has nothing that waits. -/
theorem feed_clear : ∀ (k : Nat) (l : List UInt8) (n : Int), l.length ≤ k → (feed n l).2.2.2 ≠ 0 → (feed n l).2.1 = [] := by
  intro k
  induction k with
  | zero => intro l n hk h; rw [List.eq_nil_of_length_eq_zero (Nat.le_zero.1 hk), feed_nil]
  | succ k ih =>
    intro l n hk h
    by_cases h0 : (takeNext n l).2.2 = 0
    · have hs := takeNext_size n l h0
      rw [feed_ok h0] at h ⊢
      exact ih _ _ (by rw [List.length_drop]; omega) h
    · by_cases h4 : (takeNext n l).2.2 = 4
      · rw [feed_none h4] at h; exact absurd rfl h
      · rw [feed_wrong h0 h4]
theorem feed_waits : ∀ (k : Nat) (l : List UInt8) (n : Int), l.length ≤ k → (feed n l).2.1.length ≤ l.length := by
  intro k
  induction k with
  | zero => intro l n hk; rw [List.eq_nil_of_length_eq_zero (Nat.le_zero.1 hk), feed_nil]; exact Nat.le_refl _
  | succ k ih =>
    intro l n hk
    by_cases h0 : (takeNext n l).2.2 = 0
    · have hs := takeNext_size n l h0
      rw [feed_ok h0]
      have := ih (l.drop (takeNext n l).2.1) (n + 1) (by rw [List.length_drop]; omega)
      rw [List.length_drop] at this
      simp only; omega
    · by_cases h4 : (takeNext n l).2.2 = 4
      · rw [feed_none h4]; exact Nat.le_refl _
      · rw [feed_wrong h0 h4]; exact Nat.zero_le _
/-- How many records there are at most. -/
theorem feed_count : ∀ (k : Nat) (l : List UInt8) (n : Int), l.length ≤ k → 11 * (feed n l).1.length ≤ l.length := by
  intro k
  induction k with
  | zero => intro l n hk; rw [List.eq_nil_of_length_eq_zero (Nat.le_zero.1 hk), feed_nil]; exact Nat.le_refl _
  | succ k ih =>
    intro l n hk
    by_cases h0 : (takeNext n l).2.2 = 0
    · have hs := takeNext_size n l h0
      rw [feed_ok h0]
      have := ih (l.drop (takeNext n l).2.1) (n + 1) (by rw [List.length_drop]; omega)
      rw [List.length_drop] at this
      simp only [List.length_cons]; omega
    · by_cases h4 : (takeNext n l).2.2 = 4
      · rw [feed_none h4]; exact Nat.zero_le _
      · rw [feed_wrong h0 h4]; exact Nat.zero_le _

/-- The state that a reader is in: what waits, the next number, what is wrong. -/
abbrev S := List UInt8 × Int × Int
/-- One piece more. -/
def step (s : S) (p : List UInt8) : List R × S := if s.2.2 ≠ 0 then ([], s) else feed s.2.1 (s.1 ++ p)
theorem step_whole (n : Int) (c p : List UInt8) : feed n (c ++ p) = ((feed n c).1 ++ (step (feed n c).2 p).1, (step (feed n c).2 p).2) := by
  rw [feed_append p c.length c n (Nat.le_refl _)]
  unfold step
  by_cases h : (feed n c).2.2.2 = 0
  · rw [if_pos h, if_neg (by simpa using h)]
  · rw [if_neg h, if_pos h]; simp
end Tlv
