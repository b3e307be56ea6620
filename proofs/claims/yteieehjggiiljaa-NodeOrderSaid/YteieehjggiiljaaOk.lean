/- How far a row of entries is right, plainly; a right node as the program asks it. No program in it. -/
import Derived.Test.YteieehjggiiljaaNe
namespace Nd
def good (lt : ByteArray → ByteArray → Bool) (nm : List UInt8 → Bool) (l : List En) : Bool := l.all (entOk nm) && rises lt l
def after (lt : ByteArray → ByteArray → Bool) (l : List En) (x : En) : Bool := match l.getLast? with
  | none => true
  | some y => lt y.1 x.1
/-- What is asked of the kinds, the entries being right. -/
def kindOk (x : Node) : Bool :=
  if x.kind = 1 then decide (x.target = ByteArray.empty) && decide (x.ents.length = 0) && decide (x.data.size ≤ 4096)
  else if x.kind = 2 then decide (x.target = ByteArray.empty) && decide (x.data = ByteArray.empty)
  else decide (x.kind = 3) && decide (x.data = ByteArray.empty) && decide (x.ents.length = 0) && decide (1 ≤ x.target.size) && decide (x.target.size ≤ 64)
section
variable {lt : ByteArray → ByteArray → Bool} {nm : List UInt8 → Bool}
theorem rises_snoc (l : List En) (x : En) : rises lt (l ++ [x]) = (rises lt l && after lt l x) := by
  induction l with
  | nil => rfl
  | cons y l ih =>
    cases l with
    | nil => simp [rises, after]
    | cons z l =>
      rw [List.cons_append, List.cons_append, rises, ← List.cons_append, ih, rises, Bool.and_assoc]
      congr 2
theorem good_nil : good lt nm [] = true := rfl
theorem good_snoc (l : List En) (x : En) : good lt nm (l ++ [x]) = (good lt nm l && (entOk nm x && after lt l x)) := by
  unfold good
  rw [List.all_append, rises_snoc]
  simp only [List.all_cons, List.all_nil, Bool.and_true]
  cases l.all (entOk nm) <;> cases rises lt l <;> cases entOk nm x <;> cases after lt l x <;> rfl
theorem good_front (a b : List En) (h : good lt nm a = false) : good lt nm (a ++ b) = false := by
  induction b using snoc_rec with
  | nil => rw [List.append_nil]; exact h
  | append_singleton b x ih => rw [← List.append_assoc, good_snoc, ih]; rfl
theorem good_take {l : List En} {j : Nat} (h : good lt nm (l.take j) = false) : good lt nm l = false := by
  rw [← List.take_append_drop j l]; exact good_front _ _ h
theorem right_is (x : Node) : right lt nm x = (decide (0 ≤ x.mode) && decide (x.mode ≤ 511) && decide (x.ents.length ≤ 64) && good lt nm x.ents && kindOk x) := by
  unfold right good kindOk
  simp only [Bool.and_assoc]
theorem after_none {l : List En} {x : En} (h : l = []) : after lt l x = true := by subst h; rfl
theorem after_last {l : List En} {x z : En} {j : Nat} (hj : l.length = j + 1) : after lt l x = lt (l.getD j z).1 x.1 := by
  unfold after
  rw [List.getLast?_eq_getElem?, hj, Nat.add_sub_cancel, List.getElem?_eq_getElem (by omega), List.getD, List.getElem?_eq_getElem (by omega)]
  rfl
/-- A right node as the program asks it. -/
def rightP (lt : ByteArray → ByteArray → Bool) (nm : List UInt8 → Bool) (x : Node) : Bool :=
  decide (0 ≤ x.mode) && decide (x.mode ≤ 511) &&
  (if x.kind = 1 then decide (x.data.size ≤ 4096) && decide (x.target = ByteArray.empty) && decide (x.ents.length = 0)
   else if x.kind = 2 then decide (x.data = ByteArray.empty) && decide (x.target = ByteArray.empty) && (decide (x.ents.length ≤ 64) && good lt nm x.ents)
   else decide (x.kind = 3) && decide (x.data = ByteArray.empty) && !decide (x.target = ByteArray.empty) && decide (x.target.size ≤ 64) && decide (x.ents.length = 0))
theorem size_pos (t : ByteArray) : decide (1 ≤ t.size) = !decide (t = ByteArray.empty) := by
  by_cases h : t = ByteArray.empty
  · subst h; rfl
  · rw [decide_eq_false h, decide_eq_true]; rfl
    rcases Nat.eq_zero_or_pos t.size with h0 | h0
    · exact absurd (ByteArray.ext (Array.eq_empty_of_size_eq_zero h0)) h
    · exact h0
theorem right_P (x : Node) : right lt nm x = rightP lt nm x := by
  rw [right_is]
  unfold rightP kindOk
  rw [size_pos]
  by_cases h0 : x.ents.length = 0
  · have e : x.ents = [] := List.length_eq_zero_iff.1 h0
    rw [e]
    rw [show good lt nm [] = true from rfl]
    simp only [List.length_nil, decide_true, Nat.zero_le, Bool.and_true]
    cases decide (0 ≤ x.mode) <;> cases decide (x.mode ≤ 511) <;> split <;> try split
    all_goals cases decide (x.target = ByteArray.empty) <;> cases decide (x.data.size ≤ 4096) <;> cases decide (x.data = ByteArray.empty) <;> cases decide (x.kind = 3) <;> cases decide (x.target.size ≤ 64) <;> rfl
  · rw [decide_eq_false h0]
    cases decide (0 ≤ x.mode) <;> cases decide (x.mode ≤ 511) <;> split <;> try split
    all_goals cases decide (x.target = ByteArray.empty) <;> cases decide (x.data.size ≤ 4096) <;> cases decide (x.data = ByteArray.empty) <;> cases decide (x.kind = 3) <;> cases decide (x.target.size ≤ 64) <;> cases decide (x.ents.length ≤ 64) <;> cases good lt nm x.ents <;> rfl
end
end Nd
