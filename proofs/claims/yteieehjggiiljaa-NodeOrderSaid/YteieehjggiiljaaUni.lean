/- Text as runes: what a range over it meets; a rune's own text. -/
import Derived.Laws.RangeAny
namespace Go.Proofs.Yteieehjggiiljaa
open Go
/-- A rune that is decoded beyond ASCII: no byte of its is within it. -/
theorem decode_wide (s : ByteArray) (pos : Nat) (h : pos < s.size) (ha : 128 ≤ (s[pos]'h).toNat) :
    pos + (Utf8.decode s pos).2 ≤ s.size ∧ (∀ k, k < (Utf8.decode s pos).2 → 128 ≤ (s.get! (pos + k)).toNat) ∧ Utf8.valid (Utf8.decode s pos).1 = true := by
  have e0 : s.get! (pos + 0) = s[pos]'h := get_at s pos h
  have hn : ¬ (s[pos]'h).toNat < 128 := by omega
  have h0 := (s[pos]'h).toNat_lt
  have one : ∀ k, k < 1 → 128 ≤ (s.get! (pos + k)).toNat := fun k hk => by
    obtain rfl : k = 0 := by omega
    rw [e0]; exact ha
  unfold Utf8.decode
  simp only [e0, if_neg hn]
  have bad : pos + (Utf8.runeError, 1).2 ≤ s.size ∧ (∀ k, k < (Utf8.runeError, 1).2 → 128 ≤ (s.get! (pos + k)).toNat) ∧ Utf8.valid ((Utf8.runeError, 1).1 : Nat) = true := ⟨h, one, by decide⟩
  split
  · rename_i hc
    simp only [Bool.and_eq_true, decide_eq_true_eq, beq_iff_eq] at hc
    split
    · refine ⟨by show pos + 2 ≤ s.size; omega, fun k hk => ?_, ?_⟩
      · have hk : k < 2 := hk
        rcases Nat.lt_or_ge k 1 with h1 | h1
        · exact one k h1
        · obtain rfl : k = 1 := by omega
          omega
      · unfold Utf8.valid
        have := (s.get! (pos + 1)).toNat_lt
        simp only [Bool.or_eq_true, Bool.and_eq_true, decide_eq_true_eq]
        left; omega
    · exact bad
  · split
    · rename_i hc
      simp only [Bool.and_eq_true, decide_eq_true_eq, beq_iff_eq] at hc
      split
      · rename_i hv
        simp only [Bool.and_eq_true, decide_eq_true_eq] at hv
        refine ⟨by show pos + 3 ≤ s.size; omega, fun k hk => ?_, hv.2⟩
        have hk : k < 3 := hk
        rcases Nat.lt_or_ge k 1 with h1 | h1
        · exact one k h1
        · rcases Nat.lt_or_ge k 2 with h2 | h2
          · obtain rfl : k = 1 := by omega
            omega
          · obtain rfl : k = 2 := by omega
            omega
      · exact bad
    · split
      · rename_i hc
        simp only [Bool.and_eq_true, decide_eq_true_eq, beq_iff_eq] at hc
        split
        · rename_i hv
          simp only [Bool.and_eq_true, decide_eq_true_eq] at hv
          refine ⟨by show pos + 4 ≤ s.size; omega, fun k hk => ?_, hv.2⟩
          have hk : k < 4 := hk
          rcases Nat.lt_or_ge k 1 with h1 | h1
          · exact one k h1
          · rcases Nat.lt_or_ge k 2 with h2 | h2
            · obtain rfl : k = 1 := by omega
              omega
            · rcases Nat.lt_or_ge k 3 with h3 | h3
              · obtain rfl : k = 2 := by omega
                omega
              · obtain rfl : k = 3 := by omega
                omega
        · exact bad
      · exact bad
theorem valid_rune {n : Nat} (h : Utf8.valid (n : Int) = true) : n < 55296 ∨ (57343 < n ∧ n ≤ 1114111) := by
  unfold Utf8.valid at h
  simp only [Bool.or_eq_true, Bool.and_eq_true, decide_eq_true_eq] at h
  omega
/-- A rune's text beyond ASCII: of two bytes, the second one no ASCII, or of more. -/
theorem encode_wide {n : Nat} (h : 128 ≤ n) (hv : Utf8.valid (n : Int) = true) : (∃ a b : UInt8, Utf8.encode (n : Int) = ⟨#[a, b]⟩ ∧ 128 ≤ b.toNat) ∨ 3 ≤ (Utf8.encode (n : Int)).size := by
  unfold Utf8.encode
  rw [if_pos hv]
  have e : (n : Int).toNat = n := Int.toNat_natCast n
  simp only [e]
  rw [if_neg (by omega)]
  split
  · left
    refine ⟨_, _, rfl, ?_⟩
    simp only [UInt8.toNat_ofNat']
    omega
  · right
    split
    · show 3 ≤ (3 : Nat); omega
    · show 3 ≤ (4 : Nat); omega
end Go.Proofs.Yteieehjggiiljaa
