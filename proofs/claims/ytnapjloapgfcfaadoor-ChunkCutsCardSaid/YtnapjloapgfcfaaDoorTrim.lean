/- strings.Trim of the byte nought; strings.Clone. -/
import Derived.RegionTactic
import Derived.Deep.RegionWith
import Derived.WalkKit
import Derived.Test.YtnapjloapgfcfaaDoorSLays
namespace Go.Proofs.YtnapjloapgfcfaaDoor
open Go.RowKit Go.Shelf
set_option maxRecDepth 100000
theorem clone_any (s : ByteArray) (w : World) (hlim : s.size ≤ 281474976710656) :
    Calls Tryd.prog 29 #[.string s] w fun e w' => e = .returned (.string s) ∧ Below w.heap.size w w' := by
  go_enter Tryd.func29, Tryd.ntmps29
  go_wp2_with fail
  refine (stringslite_Clone s _ hlim).mono ?_
  rintro e w1 ⟨rfl, hw1⟩
  dsimp only
  go_wp2_with fail
  go_ret
  exact ⟨rfl, hw1⟩
theorem left0 (s : ByteArray) (w : World) : Calls Tryd.prog 42 #[.string s, .int .u8 0] w fun e w' => e = .returned (.string ⟨(Lib.trimLeftB s.data.toList 0).toArray⟩) ∧ w' = w := trimLeft_any s 0 w
theorem right0 (s : ByteArray) (w : World) (hs : s.size ≤ 9223372036854775807) : Calls Tryd.prog 43 #[.string s, .int .u8 0] w fun e w' => e = .returned (.string ⟨(Lib.trimRightB s.data.toList 0).toArray⟩) ∧ w' = w := trimRight_any s 0 w hs
theorem trim_any (s : ByteArray) (w : World) (hs : s.size ≤ 9223372036854775807) :
    Calls Tryd.prog 35 #[.string s, .string ⟨#[0]⟩] w fun e w' => e = .returned (.string ⟨(Lib.trimB s.data.toList 0).toArray⟩) ∧ (w' = w ∨ w' = w.drew) := by
  go_enter Tryd.func35, Tryd.ntmps35
  go_wp2
  · have hl : s.data.toList = [] := by rw [← Lib.toList_data]; assumption
    go_ret
    refine ⟨?_, Or.inl rfl⟩
    show Ending.returned (Value.string s) = _
    have hs0 : s = ⟨#[]⟩ := by rw [← Lib.mk_data s, hl]
    rw [hl]
    simp [Lib.trimB, Lib.trimLeftB, Lib.trimRightB, hs0]
  · exfalso
    have h1 : ¬ s.toList = [] := by assumption
    have h2 : s.toList.isEmpty = true := by assumption
    exact h1 (by simpa using h2)
  · go_region_with (first
      | (refine (right0 s _ hs).mono ?_; rintro e w' ⟨rfl, rfl⟩)
      | (refine (left0 ⟨(Lib.trimRightB s.data.toList 0).toArray⟩ _).mono ?_; rintro e w' ⟨rfl, rfl⟩))
    all_goals (go_wp2; go_ret; exact ⟨rfl, Or.inr rfl⟩)
  all_goals (
    exfalso
    have h1 : (128 : Int) ≤ (((⟨#[0]⟩ : ByteArray)[0]'Nat.zero_lt_one).toNat : Int) := by assumption
    exact absurd h1 (by decide))
theorem dropWhile_nil (l : List UInt8) : l.dropWhile (· == 0) = [] ↔ l.all (· == 0) = true := by
  induction l with
  | nil => simp
  | cons x l ih => rw [List.dropWhile_cons, List.all_cons]; by_cases h : (x == 0) = true <;> simp_all
theorem trim_blank (l : List UInt8) : (Lib.trimB l 0 = []) ↔ l.all (· == 0) = true := by
  unfold Lib.trimB Lib.trimLeftB Lib.trimRightB
  rw [dropWhile_nil, List.all_reverse]
  generalize hr : l.reverse.dropWhile (· == 0) = r
  have hl : l.all (· == 0) = l.reverse.all (· == 0) := by rw [List.all_reverse]
  rw [hl]
  constructor
  · intro h
    cases r with
    | nil => exact (dropWhile_nil _).1 hr
    | cons x r =>
      have hx : (x == 0) = true := by simp at h; simp [h.1]
      have := List.head?_dropWhile_not (p := fun x : UInt8 => x == 0) (l := l.reverse)
      rw [hr] at this
      simp [hx] at this
  · intro h
    rw [(dropWhile_nil _).2 h] at hr
    subst hr; rfl
end Go.Proofs.YtnapjloapgfcfaaDoor
