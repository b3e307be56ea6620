/- The program's Right. -/
import Derived.Test.YteieehjggiiljaaAny
namespace Go.Proofs.Yteieehjggiiljaa
set_option maxRecDepth 100000
open Go.RowKit
attribute [local go_sem 9000] sem_stralike sem_strnot
theorem hasTwo_all (s : ByteArray) : (s.data.toList.all fun x => x != 47 && x != 0) = !hasTwo s := by
  unfold hasTwo
  induction s.data.toList with
  | nil => rfl
  | cons x l ih =>
    rw [List.all_cons, List.any_cons, ih]
    have h : (x != 47 && x != 0) = !two x.toNat := by
      have h : ∀ k : Fin 256, (UInt8.ofNat k.val != 47 && UInt8.ofNat k.val != 0) = !two (UInt8.ofNat k.val).toNat := by decide +kernel
      have := h ⟨x.toNat, x.toNat_lt⟩
      simpa using this
    rw [h, Bool.not_or]
theorem rightly_is (s : ByteArray) (h1 : talike s ⟨#[]⟩ = false) (h2 : s.size ≤ 16) (h3 : talike s ⟨#[46]⟩ = false) (h4 : talike s ⟨#[46, 46]⟩ = false) : Nm.right s.data.toList = !hasTwo s := by
  have hne : ∀ l : List UInt8, talike s ⟨l.toArray⟩ = false → s.data.toList ≠ l := fun l h e => by
    unfold talike at h
    have h := of_decide_eq_false h
    exact h (Go.WideShapes.bytes_inj e)
  have hl : s.data.toList.length = s.size := Array.length_toList
  unfold Nm.right
  rw [hasTwo_all, hl]
  have e1 : decide (1 ≤ s.size) = true := decide_eq_true (by
    have := hne [] h1
    rcases Nat.eq_zero_or_pos s.size with h | h
    · exact absurd (List.eq_nil_of_length_eq_zero (hl.trans h)) this
    · exact h)
  have e2 : decide (s.size ≤ 16) = true := decide_eq_true h2
  have e3 : (s.data.toList != [46]) = true := bne_iff_ne.2 (hne [46] h3)
  have e4 : (s.data.toList != [46, 46]) = true := bne_iff_ne.2 (hne [46, 46] h4)
  rw [e1, e2, e3, e4]
  simp
theorem rightly_no (s : ByteArray) (h : talike s ⟨#[]⟩ = true ∨ 16 < s.size ∨ talike s ⟨#[46]⟩ = true ∨ talike s ⟨#[46, 46]⟩ = true) : Nm.right s.data.toList = false := by
  have he : ∀ t, talike s t = true → s = t := fun t h => of_decide_eq_true h
  rcases h with h | h | h | h
  · rw [he _ h]; rfl
  · have hl : s.data.toList.length = s.size := Array.length_toList
    unfold Nm.right
    rw [hl, show decide (s.size ≤ 16) = false from decide_eq_false (by omega)]
    simp
  · rw [he _ h]; decide
  · rw [he _ h]; decide
theorem right_any (s : ByteArray) (w : World) (hs : s.size ≤ 140737488355328) : Calls Try.prog 44 #[.string s] w fun e w' => e = .returned (.bool (Nm.right s.data.toList)) ∧ Below w.heap.size w w' := by
  have hsi : (s.size : Int) ≤ 140737488355328 := by omega
  have HN := Lib.hid (rightly_no s)
  have HY := Lib.hid (rightly_is s)
  generalize hR : Nm.right s.data.toList = R at *
  clear hR
  cases h1 : talike s ⟨#[]⟩ with
  | true =>
    obtain rfl := HN.out (.inl h1)
    clear HN HY
    go_enter Try.func44, Try.ntmps44
    go_wp2_with fail
    go_ret
    exact ⟨rfl, Below.refl _ _⟩
  | false =>
    by_cases h2 : s.size ≤ 16
    · have h2i : ¬ (16 : Int) < (s.size : Int) := by omega
      cases h3 : talike s ⟨#[46]⟩ with
      | true =>
        obtain rfl := HN.out (.inr (.inr (.inl h3)))
        clear HN HY
        go_enter Try.func44, Try.ntmps44
        go_wp2_with fail
        go_ret
        exact ⟨rfl, Below.refl _ _⟩
      | false =>
        cases h4 : talike s ⟨#[46, 46]⟩ with
        | true =>
          obtain rfl := HN.out (.inr (.inr (.inr h4)))
          clear HN HY
          go_enter Try.func44, Try.ntmps44
          go_wp2_with fail
          go_ret
          exact ⟨rfl, Below.refl _ _⟩
        | false =>
          obtain rfl := HY.out h1 h2 h3 h4
          have HC := Lib.hid (contains_any s w (by omega))
          clear HN HY
          go_enter Try.func44, Try.ntmps44
          go_wp2_with fail
          refine HC.out.mono ?_
          rintro e w1 ⟨rfl, hB⟩
          dsimp only
          go_wp2_with fail
          go_ret
          exact ⟨rfl, hB⟩
    · have h2i : (16 : Int) < (s.size : Int) := by omega
      obtain rfl := HN.out (.inr (.inl (by omega)))
      clear HN HY
      go_enter Try.func44, Try.ntmps44
      go_wp2_with fail
      go_ret
      exact ⟨rfl, Below.refl _ _⟩
end Go.Proofs.Yteieehjggiiljaa
