/- Pairs by rising keys, and their one tree, plainly. No program in it. What is done to a tree of pairs, plainly: split, put, merge, drop, find; what pairs it then has. No program in it. The keys that differ, gathered map by map and sorted; names of trees, in two orders. No program in it. -/
namespace Tr
/-- A strict order in which of two unlike things one is lesser. -/
structure Rising {α : Type} (lt : α → α → Bool) : Prop where
  irr : ∀ a, lt a a = false
  tra : ∀ a b c, lt a b = true → lt b c = true → lt a c = true
  tot : ∀ a b, lt a b = false → lt b a = false → a = b
theorem Rising.asym {α : Type} {lt : α → α → Bool} (h : Rising lt) {a b : α} (hab : lt a b = true) : lt b a = false := by
  cases hba : lt b a
  · rfl
  · have := h.tra a b a hab hba; rw [h.irr] at this; cases this
/-- Not greater, and lesser: lesser. -/
theorem Rising.lt_of_le_lt {α : Type} {lt : α → α → Bool} (h : Rising lt) {a b c : α} (hab : lt b a = false) (hbc : lt b c = true) : lt a c = true := by
  cases hxy : lt a b
  · have := h.tot a b hxy hab; rw [this]; exact hbc
  · exact h.tra a b c hxy hbc
theorem Rising.le_trans {α : Type} {lt : α → α → Bool} (h : Rising lt) {a b c : α} (hab : lt b a = false) (hbc : lt c b = false) : lt c a = false := by
  cases hca : lt c a
  · rfl
  · have := h.lt_of_le_lt hbc hca; rw [this] at hab; cases hab
/-- By rising keys. -/
def Sorted {α β : Type} (lt : α → α → Bool) (l : List (α × β)) : Prop := l.Pairwise fun x y => lt x.1 y.1 = true
section
variable {α β : Type} [DecidableEq α] (lt : α → α → Bool)
def del (l : List (α × β)) (k : α) : List (α × β) := l.filter fun x => decide (x.1 ≠ k)
/-- As the document has it: ahead of the first key that isn't lesser. -/
def put : List (α × β) → α → β → List (α × β)
  | [], k, v => [(k, v)]
  | x :: l, k, v => if lt x.1 k then x :: put l k v else (k, v) :: del (x :: l) k
def get : List (α × β) → α → Option β
  | [], _ => none
  | x :: l, k => if x.1 = k then some x.2 else get l k
variable {lt}
theorem mem_del {l : List (α × β)} {k : α} {x : α × β} : x ∈ del l k ↔ x ∈ l ∧ x.1 ≠ k := by simp [del]
theorem sorted_del {l : List (α × β)} (h : Sorted lt l) (k : α) : Sorted lt (del l k) := List.Pairwise.filter _ h
theorem mem_put {l : List (α × β)} {k : α} {v : β} {x : α × β} (h : x ∈ put lt l k v) : x = (k, v) ∨ x ∈ l := by
  induction l with
  | nil => simp [put] at h; exact Or.inl h
  | cons y l ih =>
    unfold put at h
    split at h
    · rcases List.mem_cons.1 h with h | h
      · exact Or.inr (h ▸ List.mem_cons_self)
      · exact (ih h).imp id (List.mem_cons_of_mem _)
    · rcases List.mem_cons.1 h with h | h
      · exact Or.inl h
      · exact Or.inr (mem_del.1 h).1
theorem sorted_put (R : Rising lt) {l : List (α × β)} (h : Sorted lt l) (k : α) (v : β) : Sorted lt (put lt l k v) := by
  induction l with
  | nil => exact List.pairwise_singleton _ _
  | cons y l ih =>
    obtain ⟨h1, h2⟩ := List.pairwise_cons.1 h
    unfold put
    split
    · rename_i hy
      refine List.pairwise_cons.2 ⟨fun x hx => ?_, ih h2⟩
      rcases mem_put hx with rfl | hx
      · exact hy
      · exact h1 x hx
    · rename_i hy
      simp only [Bool.not_eq_true] at hy
      refine List.pairwise_cons.2 ⟨fun x hx => ?_, sorted_del h k⟩
      obtain ⟨hx, hne⟩ := mem_del.1 hx
      have hky : lt x.1 k = false := by
        rcases List.mem_cons.1 hx with rfl | hx
        · exact hy
        · cases hxk : lt x.1 k
          · rfl
          · have := R.tra _ _ _ (h1 x hx) hxk; rw [this] at hy; cases hy
      cases hkx : lt k x.1
      · exact absurd (R.tot _ _ hky hkx) hne
      · rfl
end
end Tr
