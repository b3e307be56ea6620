/- What is printed is taken, whatever stands behind; no beginning of it is; what is turned isn't. -/
import Derived.Test.YtpolpgghdeljbaaSpec
namespace Tlv
open Crc

theorem u8_nat (n : Int) : (u8 n).toNat = (n % 256).toNat := by
  unfold u8
  rw [UInt8.toNat_ofNat']
  omega
def fits (x : R) : Prop := 1 ≤ x.1 ∧ x.1 ≤ 255 ∧ 0 ≤ x.2.1 ∧ x.2.1 ≤ 2147483647 ∧ x.2.2.length ≤ 8192
theorem printed_fits {x : R} (h : (printed x).2 = 0) : fits x ∧ (printed x).1 = bytes x := by
  unfold printed at h ⊢
  split at h
  · rename_i hr
    rw [if_pos hr]
    split at h
    · rename_i hl; rw [if_pos hl]; exact ⟨⟨hr.1, hr.2.1, hr.2.2.1, hr.2.2.2, hl⟩, rfl⟩
    · simp at h
  · simp at h
theorem printed_bad {x : R} (h : (printed x).2 ≠ 0) : (printed x).1 = [] := by
  unfold printed at h ⊢
  split
  · rename_i hr
    rw [if_pos hr] at h
    split
    · rename_i hl; rw [if_pos hl] at h; exact absurd rfl h
    · rfl
  · rfl
theorem printed_ok {x : R} (h : fits x) : printed x = (bytes x, 0) := by
  unfold printed
  rw [if_pos ⟨h.1, h.2.1, h.2.2.1, h.2.2.2.1⟩, if_pos h.2.2.2.2]
def front (x : R) : List UInt8 := head x.1 x.2.1 x.2.2.length ++ x.2.2
theorem front_length (x : R) : (front x).length = x.2.2.length + 7 := by
  unfold front; rw [List.length_append]; show 7 + _ = _; omega
theorem bytes_front (x : R) : bytes x = front x ++ low (crc (front x)) := rfl
theorem bytes_len (x : R) : (bytes x).length = x.2.2.length + 11 := by
  rw [bytes_front, List.length_append, front_length, low_length]
theorem front_kind (x : R) (h : fits x) (m : List UInt8) : b (front x ++ m) 0 = x.1.toNat := by
  show (u8 x.1).toNat = _
  rw [u8_nat]; have := h.1; have := h.2.1; omega
theorem front_len (x : R) (h : fits x) (m : List UInt8) : len (front x ++ m) = x.2.2.length := by
  show (u8 ((x.2.2.length : Int) / 256)).toNat * 256 + (u8 (x.2.2.length : Int)).toNat = _
  rw [u8_nat, u8_nat]; have := h.2.2.2.2; omega
theorem front_seq (x : R) (h : fits x) (m : List UInt8) : sq (front x ++ m) 4 = x.2.1.toNat := by
  show (((0 * 256 + (u8 (x.2.1 / 16777216)).toNat) * 256 + (u8 (x.2.1 / 65536)).toNat) * 256 + (u8 (x.2.1 / 256)).toNat) * 256 + (u8 x.2.1).toNat = _
  rw [u8_nat, u8_nat, u8_nat, u8_nat]
  have h1 := h.2.2.1
  have h2 := h.2.2.2.1
  omega
theorem front_drop (x : R) : (front x).drop 7 = x.2.2 := rfl
theorem rec_front (x : R) (h : fits x) : rec_ (front x) = (x, 0) := by
  have hk := front_kind x h []
  have hs := front_seq x h []
  rw [List.append_nil] at hk hs
  have h1 := h.1
  have h2 := h.2.2.1
  have h3 := h.2.2.2.1
  unfold rec_
  rw [hk, hs, if_neg (by omega), if_neg (by omega), front_drop]
  obtain ⟨k, s, p⟩ := x
  dsimp only at h1 h2 ⊢
  rw [Int.toNat_of_nonneg (by omega), Int.toNat_of_nonneg h2]
theorem take_bytes (x : R) (h : fits x) (m : List UInt8) : take (bytes x ++ m) = (x, x.2.2.length + 11, 0) := by
  have e : bytes x ++ m = front x ++ (low (crc (front x)) ++ m) := by rw [bytes_front, List.append_assoc]
  have hl := front_len x h (low (crc (front x)) ++ m)
  have hlen : (bytes x ++ m).length = x.2.2.length + 11 + m.length := by rw [List.length_append, bytes_len]
  have ht : (bytes x ++ m).take (x.2.2.length + 7) = front x := by rw [e, ← front_length x, List.take_left]
  have ht2 : (bytes x ++ m).take (x.2.2.length + 11) = bytes x := by rw [← bytes_len x, List.take_left]
  have ho : opens (bytes x ++ m) := by
    unfold opens
    rw [show len (bytes x ++ m) = x.2.2.length by rw [e]; exact hl, ht, ht2, bytes_front, ← front_length x, List.drop_left]
  unfold take
  rw [hlen, show len (bytes x ++ m) = x.2.2.length by rw [e]; exact hl, if_neg (by omega), if_neg (by have := h.2.2.2.2; omega), if_neg (by omega), if_pos ho, ht, rec_front x h]
/-- What only begins a record. -/
theorem take_short (x : R) (h : fits x) (j : Nat) (hj : j < x.2.2.length + 11) : take ((bytes x).take j) = (z, 0, 4) := by
  have hlen : ((bytes x).take j).length = j := by rw [List.length_take, bytes_len]; omega
  unfold take
  rw [hlen]
  by_cases h7 : j < 7
  · rw [if_pos h7]
  · rw [if_neg h7]
    have hl : len ((bytes x).take j) = x.2.2.length := by
      have := front_len x h (low (crc (front x)))
      rw [← bytes_front] at this
      rw [← this]
      unfold len
      rw [b_take _ _ _ (by omega), b_take _ _ _ (by omega)]
    rw [hl, if_neg (by have := h.2.2.2.2; omega), if_pos hj]
theorem bytes_inj {x y : R} (hx : fits x) (hy : fits y) : bytes x = bytes y ↔ x = y := by
  constructor
  · intro e
    have h1 := take_bytes x hx []
    have h2 := take_bytes y hy []
    rw [e, h2] at h1
    exact (congrArg Prod.fst h1).symm
  · intro e; rw [e]

/-- A record that is next. -/
theorem takeNext_bytes (x : R) (h : fits x) (m : List UInt8) : takeNext x.2.1 (bytes x ++ m) = (x, x.2.2.length + 11, 0) := by
  unfold takeNext
  rw [take_bytes x h m, if_neg (by simp)]
theorem feed_bytes (x : R) (h : fits x) (m : List UInt8) : feed x.2.1 (bytes x ++ m) = (x :: (feed (x.2.1 + 1) m).1, (feed (x.2.1 + 1) m).2) := by
  have ht := takeNext_bytes x h m
  rw [feed_ok (by rw [ht]), ht]
  have : (bytes x ++ m).drop (x.2.2.length + 11) = m := by rw [← bytes_len x, List.drop_left]
  rw [this]
theorem feed_short (n : Int) (x : R) (h : fits x) (j : Nat) (hj : j < x.2.2.length + 11) : feed n ((bytes x).take j) = ([], (bytes x).take j, n, 0) := by
  refine feed_none ?_
  unfold takeNext
  rw [take_short x h j hj]
  simp

/-- A record of which a byte is turned, but for its length. -/
theorem take_turned (x : R) (h : fits x) (j : Nat) (hj : j < x.2.2.length + 11) (h5 : j ≠ 5) (h6 : j ≠ 6) (t : UInt8) (ht : t ≠ 0) (m : List UInt8) :
    (take ((bytes x).set j ((bytes x).getD j 0 ^^^ t) ++ m)).2.2 = 8 := by
  have hs : ((bytes x).set j ((bytes x).getD j 0 ^^^ t)).length = x.2.2.length + 11 := by rw [List.length_set, bytes_len]
  generalize hu : (bytes x).set j ((bytes x).getD j 0 ^^^ t) = u at hs
  have hl : len (u ++ m) = x.2.2.length := by
    have := front_len x h (low (crc (front x)))
    rw [← bytes_front] at this
    rw [len_append u m (by omega), ← this, ← hu]
    unfold len b
    simp [List.getD, h5, h6]
  have hne : u ≠ bytes x := by
    intro e
    have hjl : j < (bytes x).length := by rw [bytes_len]; exact hj
    have e2 : u.getD j 0 = (bytes x).getD j 0 := by rw [e]
    rw [← hu] at e2
    have e3 : ((bytes x).set j ((bytes x).getD j 0 ^^^ t)).getD j 0 = (bytes x).getD j 0 ^^^ t := by simp [List.getD, hjl]
    rw [e3] at e2
    apply ht
    have e4 := congrArg (fun c => (bytes x).getD j 0 ^^^ c) e2
    simpa [← UInt8.xor_assoc] using e4
  have ho : ¬ opens (u ++ m) := by
    unfold opens
    have ht2 : (u ++ m).take (x.2.2.length + 11) = u := by rw [← hs, List.take_left]
    rw [hl, ht2, List.take_append_of_le_length (by omega)]
    intro e
    have e2 := (sealed_iff (s := u) (by omega)).1 (by rw [hs]; exact e)
    have e3 : crc (bytes x) = rest := crc_sealed (front x)
    refine hne (crc_burst (a := 8 * j) (by rw [hs, bytes_len]) (fun k hk => ?_) (e2.trans e3.symm))
    unfold at_
    have hkj : k / 8 ≠ j := by intro e; apply hk; omega
    rw [← hu]
    simp [List.getD, Ne.symm hkj]
  unfold take
  rw [List.length_append, hs, hl, if_neg (by omega), if_neg (by have := h.2.2.2.2; omega), if_neg (by omega), if_neg ho]
theorem feed_turned (n : Int) (x : R) (h : fits x) (j : Nat) (hj : j < x.2.2.length + 11) (h5 : j ≠ 5) (h6 : j ≠ 6) (t : UInt8) (ht : t ≠ 0) (m : List UInt8) :
    feed n ((bytes x).set j ((bytes x).getD j 0 ^^^ t) ++ m) = ([], [], n, 8) := by
  have e := take_turned x h j hj h5 h6 t ht m
  have e2 : (takeNext n ((bytes x).set j ((bytes x).getD j 0 ^^^ t) ++ m)).2.2 = 8 := by
    unfold takeNext
    rw [e, if_neg (by simp)]; exact e
  rw [feed_wrong (by rw [e2]; decide) (by rw [e2]; decide), e2]
end Tlv
