/- Texts held against each other: their order, closed to the walk's simp. -/
import Derived.Test.YteieehjggiiljaaTr
import Derived.WalkKit
import Derived.WalkSpells
import Derived.Sort.Walk0
import Derived.Laws.Cover1
namespace Go.Less
/-- Is a text lesser? -/
def less (a b : ByteArray) : Bool := Op.bytesLess a.toList b.toList
/-- Are texts alike? -/
def alike (x y : ByteArray) : Bool := decide (x = y)
theorem toList_inj {a b : ByteArray} (h : a.toList = b.toList) : a = b := by
  rw [ByteArray.toList_eq, ByteArray.toList_eq] at h
  exact Go.WideShapes.bytes_inj h
theorem alike_is (x y : ByteArray) : (x.toList == y.toList) = alike x y := by
  unfold alike
  rw [Bool.eq_iff_iff, beq_iff_eq, decide_eq_true_eq]
  exact ⟨toList_inj, fun e => by rw [e]⟩
theorem less_is (a b : ByteArray) : less a b = decide (a.toList < b.toList) := Go.Proofs.bytesLess_eq _ _
theorem rising : Tr.Rising less where
  irr a := by rw [less_is]; exact decide_eq_false (List.lt_irrefl _)
  tra a b c h1 h2 := by
    rw [less_is, decide_eq_true_eq] at *
    exact List.lt_trans h1 h2
  tot a b h1 h2 := by
    rw [less_is, decide_eq_false_iff_not] at h1 h2
    exact toList_inj (List.le_antisymm (List.not_lt.1 h2) (List.not_lt.1 h1))
theorem alike_eq {a b : ByteArray} : alike a b = true ↔ a = b := by unfold alike; exact decide_eq_true_iff
theorem less_or (a b : ByteArray) : (less a b || alike a b) = !less b a := by
  cases h1 : less a b
  · cases h2 : less b a
    · have := rising.tot a b h1 h2; subst this; simp [alike]
    · simp only [Bool.false_or, Bool.not_true, alike, decide_eq_false_iff_not]
      intro e; subst e; rw [rising.irr] at h2; cases h2
  · rw [rising.asym h1]; rfl
theorem sem_eql (t : TypeId) (a b : ByteArray) : binOp .eql t (.string a) (.string b) = pure (.bool (alike a b)) := by rw [binOp_string_eql, alike_is]
theorem sem_neq (t : TypeId) (a b : ByteArray) : binOp .neq t (.string a) (.string b) = pure (.bool (!alike a b)) := by rw [binOp_string_neq, alike_is]
theorem sem_lss (t : TypeId) (a b : ByteArray) : binOp .lss t (.string a) (.string b) = pure (.bool (less a b)) := binOp_string_lss _ _ _
theorem sem_leq (t : TypeId) (a b : ByteArray) : binOp .leq t (.string a) (.string b) = pure (.bool (!less b a)) := by rw [binOp_string_leq, alike_is]; exact congrArg _ (congrArg _ (less_or a b))
theorem sem_gtr (t : TypeId) (a b : ByteArray) : binOp .gtr t (.string a) (.string b) = pure (.bool (less b a)) := by
  rw [binOp_string_gtr, alike_is]
  have := less_or a b
  unfold less at this
  rw [this, Bool.not_not]
  rfl
theorem sem_geq (t : TypeId) (a b : ByteArray) : binOp .geq t (.string a) (.string b) = pure (.bool (!less a b)) := binOp_string_geq _ _ _
end Go.Less
