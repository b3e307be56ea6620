/- A part of the proofs. -/
import Derived.WalkKit
import Derived.WalkSpells
import Derived.Sort.Walk0
import Derived.Laws.Cover1
set_option maxRecDepth 1000000
namespace Tr
structure Rising {α : Type} (lt : α -> α -> Bool) : Prop where
 irr : ∀ a, lt a a = false
 tra : ∀ a b c, lt a b = true -> lt b c = true -> lt a c = true
 tot : ∀ a b, lt a b = false -> lt b a = false -> a = b
theorem Rising.asym {α : Type} {lt : α -> α -> Bool} (h : Rising lt) {a b : α} (hab : lt a b = true) : lt b a = false := by
 cases hba : lt b a
 ·rfl
 ·have := h.tra a b a hab hba; rw [h.irr] at this; cases this
theorem Rising.lt_of_le_lt {α : Type} {lt : α -> α -> Bool} (h : Rising lt) {a b c : α} (hab : lt b a = false) (hbc : lt b c = true) : lt a c = true := by
 cases hxy : lt a b
 ·have := h.tot a b hxy hab; rw [this]; exact hbc
 ·exact h.tra a b c hxy hbc
theorem Rising.le_trans {α : Type} {lt : α -> α -> Bool} (h : Rising lt) {a b c : α} (hab : lt b a = false) (hbc : lt c b = false) : lt c a = false := by
 cases hca : lt c a
 ·rfl
 ·have := h.lt_of_le_lt hbc hca; rw [this] at hab; cases hab
def Sorted {α β : Type} (lt : α -> α -> Bool) (l : List (α × β)) : Prop := l.Pairwise λx y => lt x.1 y.1 = true
section
variable {α β : Type} [DecidableEq α] (lt : α -> α -> Bool)
def del (l : List (α × β)) (k : α) : List (α × β) := l.filter λx => decide (x.1 ≠ k)
def put : List (α × β) -> α -> β -> List (α × β)
 | [], k, v => [(k, v)]
 | x :: l, k, v => if lt x.1 k then x :: put l k v else (k, v) :: del (x :: l) k
def get : List (α × β) -> α -> Option β
 | [], _ => none
 | x :: l, k => if x.1 = k then some x.2 else get l k
variable {lt}
theorem mem_del {l : List (α × β)} {k : α} {x : α × β} : x ∈ del l k ↔ x ∈ l /\ x.1 ≠ k := by simp [del]
theorem sorted_del {l : List (α × β)} (h : Sorted lt l) (k : α) : Sorted lt (del l k) := List.Pairwise.filter _ h
theorem mem_put {l : List (α × β)} {k : α} {v : β} {x : α × β} (h : x ∈ put lt l k v) : x = (k, v) \/ x ∈ l := by
 induction l with
 | nil => simp [put] at h; exact Or.inl h
 | cons y l ih =>
  unfold put at h
  split at h
  ·rcases List.mem_cons.1 h with h | h
   ·exact Or.inr (h ▸ List.mem_cons_self)
   ·exact (ih h).imp id (List.mem_cons_of_mem _)
  ·rcases List.mem_cons.1 h with h | h
   ·exact Or.inl h
   ·exact Or.inr (mem_del.1 h).1
theorem sorted_put (R : Rising lt) {l : List (α × β)} (h : Sorted lt l) (k : α) (v : β) : Sorted lt (put lt l k v) := by
 induction l with
 | nil => exact List.pairwise_singleton _ _
 | cons y l ih =>
  obtain ⟨h1, h2⟩ := List.pairwise_cons.1 h
  unfold put
  split
  ·rename_i hy
   refine List.pairwise_cons.2 ⟨λx hx => ?_, ih h2⟩
   rcases mem_put hx with rfl | hx
   ·exact hy
   ·exact h1 x hx
  ·rename_i hy
   simp only [Bool.not_eq_true] at hy
   refine List.pairwise_cons.2 ⟨λx hx => ?_, sorted_del h k⟩
   obtain ⟨hx, hne⟩ := mem_del.1 hx
   have hky : lt x.1 k = false := by
    rcases List.mem_cons.1 hx with rfl | hx
    ·exact hy
    ·cases hxk : lt x.1 k
     ·rfl
     ·have := R.tra _ _ _ (h1 x hx) hxk; rw [this] at hy; cases hy
   cases hkx : lt k x.1
   ·exact absurd (R.tot _ _ hky hkx) hne
   ·rfl
end
inductive T (α β : Type) where
 |leaf
 |node (l : T α β) (k : α) (v : β) (r : T α β)
section
variable {α β : Type}
def T.rows : T α β -> List (α × β)
 | .leaf => []
 | .node l k v r => l.rows ++ (k, v) :: r.rows
def T.len : T α β -> Nat
 | .leaf => 0
 | .node l _ _ r => l.len + 1 + r.len
theorem T.len_rows (t : T α β) : t.rows.length = t.len := by
 induction t with
 | leaf => rfl
 | node l k v r h1 h2 => simp [T.rows, T.len, h1, h2]; omega
variable {ρ : Type} (rl : ρ -> ρ -> Bool) (rank : α -> ρ)
def topStep (i : Nat) (k : α) : Option (Nat × ρ) -> Option (Nat × ρ)
 | none => some (i, rank k)
 | some (j, b) => if rl b (rank k) then some (i, rank k) else some (j, b)
def topFrom (i : Nat) (s : Option (Nat × ρ)) : List (α × β) -> Option (Nat × ρ)
 | [] => s
 | x :: l => topFrom (i + 1) (topStep rl rank i x.1 s) l
def top (l : List (α × β)) : Option (Nat × ρ) := topFrom rl rank 0 none l
variable {rl rank}
theorem topFrom_append (i : Nat) (s : Option (Nat × ρ)) (a b : List (α × β)) : topFrom rl rank i s (a ++ b) = topFrom rl rank (i + a.length) (topFrom rl rank i s a) b := by
 induction a generalizing i s with
 | nil => rfl
 | cons x a ih => simp only [List.cons_append, topFrom, ih, List.length_cons]; congr 1; omega
theorem topFrom_stays {j : Nat} {b : ρ} : ∀ (l : List (α × β)) (i : Nat), (∀ x ∈ l, rl b (rank x.1) = false) -> topFrom rl rank i (some (j, b)) l = some (j, b)
 | [], _, _ => rfl
 | x :: l, i, h => by
  simp only [topFrom, topStep, h x List.mem_cons_self, Bool.false_eq_true, if_false]
  exact topFrom_stays l (i + 1) λy hy => h y (List.mem_cons_of_mem _ hy)
theorem topFrom_lesser {c : ρ} : ∀ (l : List (α × β)) (i : Nat) (s : Option (Nat × ρ)), (∀ j b, s = some (j, b) -> rl b c = true) -> (∀ x ∈ l, rl (rank x.1) c = true) -> ∀ j b, topFrom rl rank i s l = some (j, b) -> rl b c = true
 | [], _, _, hs, _, j, b, h => hs j b h
 | x :: l, i, s, hs, hl, j, b, h => by
  refine topFrom_lesser l (i + 1) _ (λj' b' h' => ?_) (λy hy => hl y (List.mem_cons_of_mem _ hy)) j b h
  match s, h' with
  | none, h' => simp only [topStep, Option.some.injEq, Prod.mk.injEq] at h'; rw [<- h'.2]; exact hl x List.mem_cons_self
  | some (j0, b0), h' =>
   simp only [topStep] at h'
   split at h'
   ·simp only [Option.some.injEq, Prod.mk.injEq] at h'; rw [<- h'.2]; exact hl x List.mem_cons_self
   ·simp only [Option.some.injEq, Prod.mk.injEq] at h'; rw [<- h'.2]; exact hs j0 b0 rfl
theorem top_middle (a : List (α × β)) (k : α) (v : β) (b : List (α × β)) (ha : ∀ x ∈ a, rl (rank x.1) (rank k) = true) (hb : ∀ x ∈ b, rl (rank k) (rank x.1) = false) : top rl rank (a ++ (k, v) :: b) = some (a.length, rank k) := by
 unfold top
 rw [topFrom_append]
 simp only [topFrom, Nat.zero_add]
 have h := topFrom_lesser (rl := rl) (rank := rank) (c := rank k) a 0 none (λ_ _ h => by cases h) ha
 have e : topStep rl rank a.length k (topFrom rl rank 0 none a) = some (a.length, rank k) := by
  cases hs : topFrom rl rank 0 none a with
  | none => rfl
  | some jb => simp only [topStep, h jb.1 jb.2 hs, if_true]
 rw [e]
 exact topFrom_stays b _ hb
theorem top_some (R : Rising rl) (l : List (α × β)) (h : l ≠ []) : ∃ a k v b, l = a ++ (k, v) :: b /\ (∀ x ∈ a, rl (rank x.1) (rank k) = true) /\ (∀ x ∈ b, rl (rank k) (rank x.1) = false) := by
 induction l with
 | nil => exact absurd rfl h
 | cons x l ih =>
  by_cases hl : l = []
  ·subst hl; exact ⟨[], x.1, x.2, [], rfl, (λ_ h => by cases h), (λ_ h => by cases h)⟩
  ·obtain ⟨a, k, v, b, rfl, ha, hb⟩ := ih hl
   cases hx : rl (rank x.1) (rank k)
   ·refine ⟨[], x.1, x.2, a ++ (k, v) :: b, rfl, (λ_ h => by cases h), λy hy => ?_⟩
    rcases List.mem_append.1 hy with hy | hy
    ·cases hxy : rl (rank x.1) (rank y.1)
     ·rfl
     ·have := R.tra _ _ _ hxy (ha y hy); rw [this] at hx; cases hx
    ·rcases List.mem_cons.1 hy with rfl | hy
     ·exact hx
     ·exact R.le_trans (hb y hy) hx
   ·refine ⟨x :: a, k, v, b, rfl, λy hy => ?_, hb⟩
    rcases List.mem_cons.1 hy with rfl | hy
    ·exact hx
    ·exact ha y hy
variable (rl rank)
def T.Heap : T α β -> Prop
 | .leaf => True
 | .node l k _ r => (∀ x ∈ l.rows, rl (rank x.1) (rank k) = true) /\ (∀ x ∈ r.rows, rl (rank k) (rank x.1) = false) /\ l.Heap /\ r.Heap
def build : Nat -> List (α × β) -> T α β
 | 0, _ => .leaf
 | n + 1, l => match top rl rank l with
  | none => .leaf
  | some (i, _) => match l.drop i with
   | [] => .leaf
   | (k, v) :: b => .node (build n (l.take i)) k v (build n b)
def canon (l : List (α × β)) : T α β := build rl rank l.length l
variable {rl rank}
theorem build_of_heap : ∀ (t : T α β) (n : Nat), t.Heap rl rank -> t.len <= n -> build rl rank n t.rows = t
 | .leaf, 0, _, _ => rfl
 | .leaf, n + 1, _, _ => rfl
 | .node l k v r, 0, _, hn => by simp [T.len] at hn
 | .node l k v r, n + 1, ⟨h1, h2, hl, hr⟩, hn => by
  simp only [T.len] at hn
  have ht := top_middle (rl := rl) (rank := rank) l.rows k v r.rows h1 h2
  unfold build
  rw [show (T.node l k v r).rows = l.rows ++ (k, v) :: r.rows from rfl, ht]
  simp only [List.drop_left, List.take_left]
  rw [build_of_heap l n hl (by omega), build_of_heap r n hr (by omega)]
theorem canon_of_heap {t : T α β} (h : t.Heap rl rank) : canon rl rank t.rows = t := by
 unfold canon; exact build_of_heap t _ h (by rw [T.len_rows]; exact Nat.le_refl _)
theorem build_rows (R : Rising rl) : ∀ (n : Nat) (l : List (α × β)), l.length <= n -> (build rl rank n l).rows = l /\ (build rl rank n l).Heap rl rank
 | 0, l, h => by have : l = [] := List.length_eq_zero_iff.1 (by omega); subst this; exact ⟨rfl, trivial⟩
 | n + 1, l, h => by
  by_cases hl : l = []
  ·subst hl; exact ⟨rfl, trivial⟩
  ·obtain ⟨a, k, v, b, rfl, ha, hb⟩ := top_some R l hl
   have ht := top_middle (rl := rl) (rank := rank) a k v b ha hb
   simp only [List.length_append, List.length_cons] at h
   unfold build
   rw [ht]
   simp only [List.drop_left, List.take_left]
   obtain ⟨e1, p1⟩ := build_rows R n a (by omega)
   obtain ⟨e2, p2⟩ := build_rows R n b (by omega)
   refine ⟨by simp only [T.rows, e1, e2], ?_, ?_, p1, p2⟩
   ·rw [e1]; exact ha
   ·rw [e2]; exact hb
theorem canon_rows (R : Rising rl) (l : List (α × β)) : (canon rl rank l).rows = l := (build_rows R _ l (Nat.le_refl _)).1
theorem canon_heap (R : Rising rl) (l : List (α × β)) : (canon rl rank l).Heap rl rank := (build_rows R _ l (Nat.le_refl _)).2
variable {ν : Type} (nil : ν) (join : α -> β -> ν -> ν -> ν)
def T.name : T α β -> ν
 | .leaf => nil
 | .node l k v r => join k v l.name r.name
def T.names : T α β -> List ν
 | .leaf => []
 | .node l k v r => l.names ++ r.names ++ [join k v (l.name nil join) (r.name nil join)]
variable [DecidableEq β] (lt : α -> α -> Bool)
end
end Tr
namespace Tr
section
variable {α β ρ : Type} [DecidableEq ρ] (lt : α -> α -> Bool) (rl : ρ -> ρ -> Bool) (rank : α -> ρ)
def ahead (a b : α) : Bool := if rank a = rank b then lt a b else rl (rank b) (rank a)
variable {lt rl rank}
theorem ahead_irr (R : Rising lt) (a : α) : ahead lt rl rank a a = false := by unfold ahead; rw [if_pos rfl]; exact R.irr a
theorem ahead_tra (R : Rising lt) (S : Rising rl) {a b c : α} (h1 : ahead lt rl rank a b = true) (h2 : ahead lt rl rank b c = true) : ahead lt rl rank a c = true := by
 unfold ahead at *
 split at h1
 ·rename_i e1
  split at h2
  ·rename_i e2
   rw [if_pos (e1.trans e2)]; exact R.tra _ _ _ h1 h2
  ·rename_i e2
   rw [if_neg (by rw [e1]; exact e2), e1]; exact h2
 ·rename_i e1
  split at h2
  ·rename_i e2
   rw [if_neg (by rw [<- e2]; exact e1), <- e2]; exact h1
  ·rename_i e2
   have h3 := S.tra _ _ _ h2 h1
   rw [if_neg (by intro e; rw [e, S.irr] at h3; cases h3)]; exact h3
theorem ahead_tot (R : Rising lt) (S : Rising rl) {a b : α} (h1 : ahead lt rl rank a b = false) (hne : a ≠ b) : ahead lt rl rank b a = true := by
 unfold ahead at *
 split at h1
 ·rename_i e
  rw [if_pos e.symm]
  cases h : lt b a
  ·exact absurd (R.tot _ _ h1 h) hne
  ·rfl
 ·rename_i e
  rw [if_neg (λx => e x.symm)]
  cases h : rl (rank a) (rank b)
  ·exact absurd (S.tot _ _ h h1) e
  ·rfl
variable (lt rl rank)
def T.Top : T α β -> Prop
 | .leaf => True
 | .node l k _ r => (∀ x ∈ l.rows, ahead lt rl rank k x.1 = true) /\ (∀ x ∈ r.rows, ahead lt rl rank k x.1 = true) /\ l.Top /\ r.Top
def T.split : T α β -> α -> T α β × T α β
 | .leaf, _ => (.leaf, .leaf)
 | .node l k v r, x => if lt k x then (.node l k v (r.split x).1, (r.split x).2) else ((l.split x).1, .node (l.split x).2 k v r)
def T.put : T α β -> α -> β -> T α β
 | .leaf, x, y => .node .leaf x y .leaf
 | .node l k v r, x, y => if ahead lt rl rank x k then .node ((T.node l k v r).split lt x).1 x y ((T.node l k v r).split lt x).2 else if lt x k then .node (l.put x y) k v r else if lt k x then .node l k v (r.put x y) else .node l x y r
def T.merge : T α β -> T α β -> T α β
 | .leaf, b => b
 | .node l k v r, .leaf => .node l k v r
 | .node l k v r, .node l' k' v' r' => if ahead lt rl rank k k' then .node l k v (r.merge (.node l' k' v' r')) else .node (T.merge (.node l k v r) l') k' v' r'
termination_by a b => a.len + b.len
decreasing_by all_goals (simp only [T.len]; omega)
def T.drop : T α β -> α -> T α β
 | .leaf, _ => .leaf
 | .node l k v r, x => if lt x k then .node (l.drop x) k v r else if lt k x then .node l k v (r.drop x) else l.merge lt rl rank r
def T.find [DecidableEq α] : T α β -> α -> T α β
 | .leaf, _ => .leaf
 | .node l k v r, x => if k = x then .node l k v r else if lt x k then l.find x else r.find x
theorem T.merge_leaf (b : T α β) : T.merge lt rl rank .leaf b = b := by rw [T.merge]
theorem T.merge_node_leaf (l : T α β) (k : α) (v : β) (r : T α β) : T.merge lt rl rank (.node l k v r) .leaf = .node l k v r := by rw [T.merge]
theorem T.merge_ahead {k k' : α} (h : ahead lt rl rank k k' = true) (l r l' r' : T α β) (v v' : β) : T.merge lt rl rank (.node l k v r) (.node l' k' v' r') = .node l k v (T.merge lt rl rank r (.node l' k' v' r')) := by rw [T.merge, if_pos h]
theorem T.merge_behind {k k' : α} (h : ahead lt rl rank k k' = false) (l r l' r' : T α β) (v v' : β) : T.merge lt rl rank (.node l k v r) (.node l' k' v' r') = .node (T.merge lt rl rank (.node l k v r) l') k' v' r' := by rw [T.merge, if_neg (by simp [h])]
variable {lt rl rank}
theorem sorted_parts {a b : List (α × β)} {k : α} {v : β} (h : Sorted lt (a ++ (k, v) :: b)) : Sorted lt a /\ Sorted lt b /\ (∀ x ∈ a, lt x.1 k = true) /\ (∀ x ∈ b, lt k x.1 = true) := by
 unfold Sorted at *
 obtain ⟨h1, h2, h3⟩ := List.pairwise_append.1 h
 obtain ⟨h4, h5⟩ := List.pairwise_cons.1 h2
 exact ⟨h1, h5, λx hx => h3 x hx _ List.mem_cons_self, λx hx => h4 x hx⟩
theorem filter_all {p : α × β -> Bool} {l : List (α × β)} (h : ∀ x ∈ l, p x = true) : l.filter p = l := List.filter_eq_self.2 h
theorem filter_none {p : α × β -> Bool} {l : List (α × β)} (h : ∀ x ∈ l, p x = false) : l.filter p = [] := by
 rw [List.filter_eq_nil_iff]; intro x hx; simp [h x hx]
theorem Rising.ne {lt : α -> α -> Bool} (R : Rising lt) {a b : α} (h : lt a b = true) : a ≠ b := by
 intro e; rw [e, R.irr] at h; cases h
theorem del_none [DecidableEq α] {l : List (α × β)} {x : α} (h : ∀ y ∈ l, y.1 ≠ x) : del l x = l := List.filter_eq_self.2 (λy hy => by simpa using h y hy)
theorem del_append [DecidableEq α] (a b : List (α × β)) (x : α) : del (a ++ b) x = del a x ++ del b x := List.filter_append ..
theorem split_len (t : T α β) (x : α) : (t.split lt x).1.len + (t.split lt x).2.len = t.len := by
 induction t with
 | leaf => rfl
 | node l k v r h1 h2 => unfold T.split; split <;> simp only [T.len] <;> omega
theorem split_rows (R : Rising lt) (t : T α β) (x : α) (hs : Sorted lt t.rows) : (t.split lt x).1.rows = t.rows.filter (λy => lt y.1 x) /\ (t.split lt x).2.rows = t.rows.filter (λy => !lt y.1 x) := by
 induction t with
 | leaf => exact ⟨rfl, rfl⟩
 | node l k v r ih1 ih2 =>
  obtain ⟨s1, s2, s3, s4⟩ := sorted_parts hs
  obtain ⟨a1, a2⟩ := ih1 s1
  obtain ⟨b1, b2⟩ := ih2 s2
  unfold T.split
  simp only [T.rows, List.filter_append, List.filter_cons]
  split
  ·rename_i hk
   have f1 : l.rows.filter (λy => lt y.1 x) = l.rows := filter_all λy hy => R.tra _ _ _ (s3 y hy) hk
   have f2 : l.rows.filter (λy => !lt y.1 x) = [] := filter_none λy hy => by simp [R.tra _ _ _ (s3 y hy) hk]
   simp [T.rows, f1, f2, b1, b2, hk]
  ·rename_i hk
   simp only [Bool.not_eq_true] at hk
   have g : ∀ y ∈ r.rows, lt y.1 x = false := λy hy => by
    cases h : lt y.1 x
    ·rfl
    ·have := R.tra _ _ _ (s4 y hy) h; rw [this] at hk; cases hk
   have f1 : r.rows.filter (λy => lt y.1 x) = [] := filter_none g
   have f2 : r.rows.filter (λy => !lt y.1 x) = r.rows := filter_all λy hy => by simp [g y hy]
   simp [T.rows, f1, f2, a1, a2, hk]
theorem split_mem (t : T α β) (x : α) : (∀ y ∈ (t.split lt x).1.rows, y ∈ t.rows) /\ (∀ y ∈ (t.split lt x).2.rows, y ∈ t.rows) := by
 induction t with
 | leaf => exact ⟨λ_ h => h, λ_ h => h⟩
 | node l k v r ih1 ih2 =>
  unfold T.split
  split
  ·refine ⟨λy hy => ?_, λy hy => ?_⟩
   ·simp only [T.rows, List.mem_append, List.mem_cons] at hy |-
    rcases hy with h | h | h
    ·exact .inl h
    ·exact .inr (.inl h)
    ·exact .inr (.inr (ih2.1 y h))
   ·simp only [T.rows, List.mem_append, List.mem_cons]
    exact .inr (.inr (ih2.2 y hy))
  ·refine ⟨λy hy => ?_, λy hy => ?_⟩
   ·simp only [T.rows, List.mem_append, List.mem_cons]
    exact .inl (ih1.1 y hy)
   ·simp only [T.rows, List.mem_append, List.mem_cons] at hy |-
    rcases hy with h | h | h
    ·exact .inl (ih1.2 y h)
    ·exact .inr (.inl h)
    ·exact .inr (.inr h)
theorem split_top (t : T α β) (x : α) (h : t.Top lt rl rank) : (t.split lt x).1.Top lt rl rank /\ (t.split lt x).2.Top lt rl rank := by
 induction t with
 | leaf => exact ⟨trivial, trivial⟩
 | node l k v r ih1 ih2 =>
  obtain ⟨h1, h2, h3, h4⟩ := h
  unfold T.split
  split
  ·exact ⟨⟨h1, λy hy => h2 y ((split_mem r x).1 y hy), h3, (ih2 h4).1⟩, (ih2 h4).2⟩
  ·exact ⟨(ih1 h3).1, ⟨λy hy => h1 y ((split_mem l x).2 y hy), h2, (ih1 h3).2, h4⟩⟩
theorem put_app_left [DecidableEq α] (R : Rising lt) {a b : List (α × β)} {k x : α} {v y : β} (hs : Sorted lt (a ++ (k, v) :: b)) (hx : lt x k = true) : put lt (a ++ (k, v) :: b) x y = put lt a x y ++ (k, v) :: b := by
 have s4 := (sorted_parts hs).2.2.2
 clear hs
 have hd : del ((k, v) :: b) x = (k, v) :: b := del_none λz hz => by
  rcases List.mem_cons.1 hz with rfl | hz
  ·exact (R.ne hx).symm
  ·exact (R.ne (R.tra _ _ _ hx (s4 z hz))).symm
 induction a with
 | nil => simp only [List.nil_append, put, R.asym hx, Bool.false_eq_true, if_false, hd, List.cons_append]
 | cons z a ih =>
  simp only [List.cons_append, put]
  split
  ·rw [ih, List.cons_append]
  ·rw [show z :: (a ++ (k, v) :: b) = (z :: a) ++ (k, v) :: b from rfl, del_append, hd]; rfl
theorem put_app_right [DecidableEq α] (R : Rising lt) {a b : List (α × β)} {k x : α} {v y : β} (hs : Sorted lt (a ++ (k, v) :: b)) (hx : lt k x = true) : put lt (a ++ (k, v) :: b) x y = a ++ (k, v) :: put lt b x y := by
 have s3 := (sorted_parts hs).2.2.1
 clear hs
 induction a with
 | nil => simp only [List.nil_append, put, hx, if_true]
 | cons z a ih =>
  have hz : lt z.1 x = true := R.tra _ _ _ (s3 z List.mem_cons_self) hx
  simp only [List.cons_append, put, hz, if_true]
  rw [ih λw hw => s3 w (List.mem_cons_of_mem _ hw)]
theorem put_app_here [DecidableEq α] (R : Rising lt) {a b : List (α × β)} {k : α} {v y : β} (hs : Sorted lt (a ++ (k, v) :: b)) : put lt (a ++ (k, v) :: b) k y = a ++ (k, y) :: b := by
 have s3 := (sorted_parts hs).2.2.1
 have s4 := (sorted_parts hs).2.2.2
 clear hs
 induction a with
 | nil =>
  have hd : del ((k, v) :: b) k = b := by
   have : del b k = b := del_none λz hz => (R.ne (s4 z hz)).symm
   simp only [del, List.filter_cons, ne_eq, not_true_eq_false, decide_false, Bool.false_eq_true, if_false]; exact this
  simp only [List.nil_append, put, R.irr, Bool.false_eq_true, if_false, hd]
 | cons z a ih =>
  have hz : lt z.1 k = true := s3 z List.mem_cons_self
  simp only [List.cons_append, put, hz, if_true]
  rw [ih λw hw => s3 w (List.mem_cons_of_mem _ hw)]
theorem put_parted [DecidableEq α] (R : Rising lt) {l : List (α × β)} {x : α} {y : β} (hs : Sorted lt l) (hx : ∀ z ∈ l, z.1 ≠ x) : put lt l x y = l.filter (λz => lt z.1 x) ++ (x, y) :: l.filter (λz => !lt z.1 x) := by
 induction l with
 | nil => rfl
 | cons z l ih =>
  obtain ⟨h1, h2⟩ := List.pairwise_cons.1 hs
  simp only [put]
  split
  ·rename_i hz
   rw [ih h2 λw hw => hx w (List.mem_cons_of_mem _ hw)]
   simp [hz]
  ·rename_i hz
   simp only [Bool.not_eq_true] at hz
   have g : ∀ w ∈ z :: l, lt w.1 x = false := λw hw => by
    rcases List.mem_cons.1 hw with rfl | hw
    ·exact hz
    ·cases h : lt w.1 x
     ·rfl
     ·have := R.tra _ _ _ (h1 w hw) h; rw [this] at hz; cases hz
   rw [del_none hx, filter_none g, filter_all λw hw => by simp [g w hw]]; rfl
theorem tree_put [DecidableEq α] (R : Rising lt) (S : Rising rl) (t : T α β) (x : α) (y : β) (hs : Sorted lt t.rows) (ht : t.Top lt rl rank) : (t.put lt rl rank x y).rows = put lt t.rows x y /\ (t.put lt rl rank x y).Top lt rl rank := by
 induction t with
 | leaf => exact ⟨rfl, (λ_ h => by cases h), (λ_ h => by cases h), trivial, trivial⟩
 | node l k v r ih1 ih2 =>
  have hs' : Sorted lt (l.rows ++ (k, v) :: r.rows) := hs
  obtain ⟨s1, s2, s3, s4⟩ := sorted_parts hs'
  have ht' := ht
  obtain ⟨t1, t2, t3, t4⟩ := ht
  unfold T.put
  by_cases ha : ahead lt rl rank x k = true
  ·rw [if_pos ha]
   have hall : ∀ z ∈ (T.node l k v r).rows, ahead lt rl rank x z.1 = true := λz hz => by
    simp only [T.rows, List.mem_append, List.mem_cons] at hz
    rcases hz with h | rfl | h
    ·exact ahead_tra R S ha (t1 z h)
    ·exact ha
    ·exact ahead_tra R S ha (t2 z h)
   obtain ⟨r1, r2⟩ := split_rows R (T.node l k v r) x hs
   obtain ⟨p1, p2⟩ := split_top (T.node l k v r) x ht'
   obtain ⟨m1, m2⟩ := split_mem (lt := lt) (T.node l k v r) x
   refine ⟨?_, λz hz => hall z (m1 z hz), λz hz => hall z (m2 z hz), p1, p2⟩
   rw [put_parted R hs (λz hz e => by have := hall z hz; rw [e, ahead_irr R] at this; cases this)]
   simp only [T.rows] at r1 r2 |-
   rw [r1, r2]
  ·rw [if_neg ha]
   simp only [Bool.not_eq_true] at ha
   split
   ·rename_i hx
    obtain ⟨e, p⟩ := ih1 s1 t3
    refine ⟨?_, λz hz => ?_, t2, p, t4⟩
    ·show (l.put lt rl rank x y).rows ++ _ = _
     rw [e]; exact (put_app_left R hs' hx).symm
    ·rw [e] at hz
     rcases mem_put hz with rfl | hz
     ·exact ahead_tot R S ha (R.ne hx)
     ·exact t1 z hz
   ·rename_i hx
    split
    ·rename_i hx2
     obtain ⟨e, p⟩ := ih2 s2 t4
     refine ⟨?_, t1, λz hz => ?_, t3, p⟩
     ·show l.rows ++ (k, v) :: (r.put lt rl rank x y).rows = _
      rw [e]; exact (put_app_right R hs' hx2).symm
     ·rw [e] at hz
      rcases mem_put hz with rfl | hz
      ·exact ahead_tot R S ha (R.ne hx2).symm
      ·exact t2 z hz
    ·rename_i hx2
     simp only [Bool.not_eq_true] at hx hx2
     obtain rfl := R.tot _ _ hx hx2
     exact ⟨(put_app_here R hs').symm, t1, t2, t3, t4⟩
theorem merge_rows (lt : α -> α -> Bool) (rl : ρ -> ρ -> Bool) (rank : α -> ρ) : ∀ (n : Nat) (a b : T α β), a.len + b.len <= n -> (T.merge lt rl rank a b).rows = a.rows ++ b.rows
 | _, .leaf, b, _ => by rw [T.merge_leaf]; rfl
 | _, .node l k v r, .leaf, _ => by rw [T.merge_node_leaf]; simp [T.rows]
 | 0, .node l k v r, .node l' k' v' r', h => by simp only [T.len] at h; omega
 | n + 1, .node l k v r, .node l' k' v' r', h => by
  simp only [T.len] at h
  cases hk : ahead lt rl rank k k'
  ·rw [T.merge_behind lt rl rank hk]
   show (T.merge lt rl rank (.node l k v r) l').rows ++ (k', v') :: r'.rows = _
   rw [merge_rows lt rl rank n (.node l k v r) l' (by simp only [T.len]; omega)]
   simp [T.rows]
  ·rw [T.merge_ahead lt rl rank hk]
   show l.rows ++ (k, v) :: (T.merge lt rl rank r (.node l' k' v' r')).rows = _
   rw [merge_rows lt rl rank n r (.node l' k' v' r') (by simp only [T.len]; omega)]
   simp [T.rows]
theorem merge_len (lt : α -> α -> Bool) (rl : ρ -> ρ -> Bool) (rank : α -> ρ) (a b : T α β) : (T.merge lt rl rank a b).len = a.len + b.len := by
 rw [<- T.len_rows, merge_rows lt rl rank _ a b (Nat.le_refl _), List.length_append, T.len_rows, T.len_rows]
theorem merge_top (R : Rising lt) (S : Rising rl) : ∀ (n : Nat) (a b : T α β), a.len + b.len <= n -> a.Top lt rl rank -> b.Top lt rl rank -> (∀ x ∈ a.rows, ∀ y ∈ b.rows, x.1 ≠ y.1) -> (T.merge lt rl rank a b).Top lt rl rank
 | _, .leaf, b, _, _, hb, _ => by rw [T.merge_leaf]; exact hb
 | _, .node l k v r, .leaf, _, ha, _, _ => by rw [T.merge_node_leaf]; exact ha
 | 0, .node l k v r, .node l' k' v' r', h, _, _, _ => by simp only [T.len] at h; omega
 | n + 1, .node l k v r, .node l' k' v' r', h, ha, hb, hd => by
  simp only [T.len] at h
  have ha' := ha
  have hb' := hb
  obtain ⟨a1, a2, a3, a4⟩ := ha
  obtain ⟨b1, b2, b3, b4⟩ := hb
  have hkk : k ≠ k' := hd (k, v) (by simp [T.rows]) (k', v') (by simp [T.rows])
  cases hk : ahead lt rl rank k k'
  ·have hk' := ahead_tot R S hk hkk
   rw [T.merge_behind lt rl rank hk]
   refine ⟨λz hz => ?_, b2, merge_top R S n _ _ (by simp only [T.len]; omega) ha' b3 (λx hx y hy => hd x hx y (by simp [T.rows, hy])), b4⟩
   rw [merge_rows lt rl rank _ _ _ (Nat.le_refl _)] at hz
   simp only [T.rows, List.mem_append, List.mem_cons] at hz
   rcases hz with (hz | rfl | hz) | hz
   ·exact ahead_tra R S hk' (a1 z hz)
   ·exact hk'
   ·exact ahead_tra R S hk' (a2 z hz)
   ·exact b1 z hz
  ·rw [T.merge_ahead lt rl rank hk]
   refine ⟨a1, λz hz => ?_, a3, merge_top R S n _ _ (by simp only [T.len]; omega) a4 hb' (λx hx y hy => hd x (by simp [T.rows, hx]) y hy)⟩
   rw [merge_rows lt rl rank _ _ _ (Nat.le_refl _)] at hz
   simp only [T.rows, List.mem_append, List.mem_cons] at hz
   rcases hz with hz | hz | rfl | hz
   ·exact a2 z hz
   ·exact ahead_tra R S hk (b1 z hz)
   ·exact hk
   ·exact ahead_tra R S hk (b2 z hz)
theorem tree_drop [DecidableEq α] (R : Rising lt) (S : Rising rl) (t : T α β) (x : α) (hs : Sorted lt t.rows) (ht : t.Top lt rl rank) : (t.drop lt rl rank x).rows = del t.rows x /\ (t.drop lt rl rank x).Top lt rl rank := by
 induction t with
 | leaf => exact ⟨rfl, trivial⟩
 | node l k v r ih1 ih2 =>
  have hs' : Sorted lt (l.rows ++ (k, v) :: r.rows) := hs
  obtain ⟨s1, s2, s3, s4⟩ := sorted_parts hs'
  obtain ⟨t1, t2, t3, t4⟩ := ht
  have ed : del (l.rows ++ (k, v) :: r.rows) x = del l.rows x ++ ((if k = x then [] else [(k, v)]) ++ del r.rows x) := by
   rw [del_append]; congr 1
   by_cases h : k = x <;> simp [del, h]
  have hl : ∀ (h : lt x k = false), del l.rows x = l.rows := λh => del_none λz hz e => by
   have := s3 z hz; rw [e, h] at this; cases this
  have hr : ∀ (h : lt k x = false), del r.rows x = r.rows := λh => del_none λz hz e => by
   have := s4 z hz; rw [e, h] at this; cases this
  unfold T.drop
  split
  ·rename_i hx
   obtain ⟨e, p⟩ := ih1 s1 t3
   refine ⟨?_, λz hz => ?_, t2, p, t4⟩
   ·show (l.drop lt rl rank x).rows ++ (k, v) :: r.rows = del (l.rows ++ (k, v) :: r.rows) x
    rw [e, ed, if_neg (R.ne hx).symm, hr (R.asym hx)]; rfl
   ·rw [e] at hz; exact t1 z (mem_del.1 hz).1
  ·rename_i hx
   simp only [Bool.not_eq_true] at hx
   split
   ·rename_i hx2
    obtain ⟨e, p⟩ := ih2 s2 t4
    refine ⟨?_, t1, λz hz => ?_, t3, p⟩
    ·show l.rows ++ (k, v) :: (r.drop lt rl rank x).rows = del (l.rows ++ (k, v) :: r.rows) x
     rw [e, ed, if_neg (R.ne hx2), hl hx]; rfl
    ·rw [e] at hz; exact t2 z (mem_del.1 hz).1
   ·rename_i hx2
    simp only [Bool.not_eq_true] at hx2
    obtain rfl := R.tot _ _ hx hx2
    refine ⟨?_, merge_top R S _ _ _ (Nat.le_refl _) t3 t4 λa ha b hb e => ?_⟩
    ·rw [merge_rows lt rl rank _ _ _ (Nat.le_refl _)]
     show _ = del (l.rows ++ (x, v) :: r.rows) x
     rw [ed, if_pos rfl, hl hx, hr hx2]; rfl
    ·have h1 := R.tra _ _ _ (s3 a ha) (s4 b hb)
     rw [e, R.irr] at h1; cases h1
theorem tput_len (t : T α β) (x : α) (y : β) : (t.put lt rl rank x y).len <= t.len + 1 := by
 induction t with
 | leaf => simp [T.put, T.len]
 | node l k v r ih1 ih2 =>
  unfold T.put
  split
  ·have := split_len (lt := lt) (T.node l k v r) x; simp only [T.len] at this |-; omega
  ·split
   ·simp only [T.len]; omega
   ·split <;> (simp only [T.len]; omega)
theorem drop_len (t : T α β) (x : α) : (t.drop lt rl rank x).len <= t.len := by
 induction t with
 | leaf => exact Nat.le_refl _
 | node l k v r ih1 ih2 =>
  unfold T.drop
  split
  ·simp only [T.len]; omega
  ·split
   ·simp only [T.len]; omega
   ·rw [merge_len]; simp only [T.len]; omega
def T.val : T α β -> Option β
 | .leaf => none
 | .node _ _ v _ => some v
theorem get_append_left [DecidableEq α] {a b : List (α × β)} {x : α} (h : ∀ z ∈ b, z.1 ≠ x) : get (a ++ b) x = get a x := by
 induction a with
 | nil =>
  show get b x = none
  induction b with
  | nil => rfl
  | cons z b ih => simp only [get, h z List.mem_cons_self, if_false]; exact ih λw hw => h w (List.mem_cons_of_mem _ hw)
 | cons z a ih => simp only [List.cons_append, get, ih]
theorem get_append_right [DecidableEq α] {a b : List (α × β)} {x : α} (h : ∀ z ∈ a, z.1 ≠ x) : get (a ++ b) x = get b x := by
 induction a with
 | nil => rfl
 | cons z a ih => simp only [List.cons_append, get, h z List.mem_cons_self, if_false]; exact ih λw hw => h w (List.mem_cons_of_mem _ hw)
theorem find_get [DecidableEq α] (R : Rising lt) (t : T α β) (x : α) (hs : Sorted lt t.rows) : (t.find lt x).val = get t.rows x := by
 induction t with
 | leaf => rfl
 | node l k v r ih1 ih2 =>
  have hs' : Sorted lt (l.rows ++ (k, v) :: r.rows) := hs
  obtain ⟨s1, s2, s3, s4⟩ := sorted_parts hs'
  unfold T.find
  show _ = get (l.rows ++ (k, v) :: r.rows) x
  split
  ·rename_i h
   subst h
   rw [get_append_right λz hz => R.ne (s3 z hz)]
   simp [get, T.val]
  ·rename_i h
   split
   ·rename_i hx
    rw [ih1 s1, get_append_left]
    intro z hz
    rcases List.mem_cons.1 hz with rfl | hz
    ·exact h
    ·exact (R.ne (R.tra _ _ _ hx (s4 z hz))).symm
   ·rename_i hx
    simp only [Bool.not_eq_true] at hx
    have hkx : lt k x = true := by
     cases hk : lt k x
     ·exact absurd (R.tot _ _ hk hx) h
     ·rfl
    rw [ih2 s2, get_append_right λz hz => R.ne (R.tra _ _ _ (s3 z hz) hkx)]
    simp [get, h]
theorem top_heap (R : Rising lt) (S : Rising rl) (t : T α β) (hs : Sorted lt t.rows) (h : t.Top lt rl rank) : t.Heap rl rank := by
 induction t with
 | leaf => trivial
 | node l k v r ih1 ih2 =>
  have hs' : Sorted lt (l.rows ++ (k, v) :: r.rows) := hs
  obtain ⟨s1, s2, s3, s4⟩ := sorted_parts hs'
  obtain ⟨h1, h2, h3, h4⟩ := h
  refine ⟨λz hz => ?_, λz hz => ?_, ih1 s1 h3, ih2 s2 h4⟩
  ·have ha := h1 z hz
   unfold ahead at ha
   split at ha
   ·have := R.asym (s3 z hz); rw [ha] at this; cases this
   ·exact ha
  ·have ha := h2 z hz
   unfold ahead at ha
   split at ha
   ·rename_i e; rw [e]; exact S.irr _
   ·exact S.asym ha
end
end Tr
namespace Tr
section
variable {α β : Type} {lt : α -> α -> Bool}
def off [DecidableEq α] [DecidableEq β] (a b : List (α × β)) : List α := (a.filter λx => decide (get b x.1 ≠ some x.2)).map (·.1)
def new [DecidableEq α] (a b : List (α × β)) : List α := (b.filter λy => decide (get a y.1 = none)).map (·.1)
theorem sorted_cons {x : α × β} {l : List (α × β)} (h : Sorted lt (x :: l)) : (∀ y ∈ l, lt x.1 y.1 = true) /\ Sorted lt l := List.pairwise_cons.1 h
theorem later (R : Rising lt) {k : α} {x : α × β} {l : List (α × β)} (h : Sorted lt (x :: l)) (hk : lt k x.1 = true) : ∀ y ∈ x :: l, lt k y.1 = true := λy hy => by
 rcases List.mem_cons.1 hy with rfl | hy
 ·exact hk
 ·exact R.tra _ _ _ hk ((sorted_cons h).1 y hy)
end
section
variable {α β ν : Type} (nil : ν) (join : α -> β -> ν -> ν -> ν)
def T.subs : T α β -> List (T α β)
 | .leaf => []
 | .node l k v r => l.subs ++ T.node l k v r :: r.subs
theorem T.subs_len (t : T α β) : t.subs.length = t.len := by
 induction t with
 | leaf => rfl
 | node l k v r h1 h2 => simp [T.subs, T.len, h1, h2]; omega
def T.pair? : T α β -> Option (α × β)
 | .leaf => none
 | .node _ k v _ => some (k, v)
theorem T.subs_rows (t : T α β) : t.subs.filterMap T.pair? = t.rows := by
 induction t with
 | leaf => rfl
 | node l k v r h1 h2 => simp only [T.subs, T.rows, List.filterMap_append, List.filterMap_cons, T.pair?, h1, h2]
end
end Tr
namespace Go.Less
def less (a b : ByteArray) : Bool := Op.bytesLess a.toList b.toList
def alike (x y : ByteArray) : Bool := decide (x = y)
theorem toList_inj {a b : ByteArray} (h : a.toList = b.toList) : a = b := by
 rw [ByteArray.toList_eq, ByteArray.toList_eq] at h
 exact Go.WideShapes.bytes_inj h
theorem alike_is (x y : ByteArray) : (x.toList == y.toList) = alike x y := by
 unfold alike
 rw [Bool.eq_iff_iff, beq_iff_eq, decide_eq_true_eq]
 exact ⟨toList_inj, λe => by rw [e]⟩
theorem less_is (a b : ByteArray) : less a b = decide (a.toList < b.toList) := Go.Proofs.bytesLess_eq _ _
theorem rising : Tr.Rising less where
 irr a := by rw [less_is]; exact decide_eq_false (List.lt_irrefl _)
 tra a b c h1 h2 := by
  rw [less_is, decide_eq_true_eq] at *
  exact List.lt_trans h1 h2
 tot a b h1 h2 := by
  rw [less_is, decide_eq_false_iff_not] at h1 h2
  exact toList_inj (List.le_antisymm (List.not_lt.1 h2) (List.not_lt.1 h1))
theorem alike_eq {a b : ByteArray} : alike a b = true ↔ a = b := by unfold alike; exact decide_eq_true_iff
theorem less_or (a b : ByteArray) : (less a b || alike a b) = !less b a := by
 cases h1 : less a b
 ·cases h2 : less b a
  ·have := rising.tot a b h1 h2; subst this; simp [alike]
  ·simp only [Bool.false_or, Bool.not_true, alike, decide_eq_false_iff_not]
   intro e; subst e; rw [rising.irr] at h2; cases h2
 ·rw [rising.asym h1]; rfl
theorem sem_eql (t : TypeId) (a b : ByteArray) : binOp .eql t (.string a) (.string b) = pure (.bool (alike a b)) := by rw [binOp_string_eql, alike_is]
theorem sem_neq (t : TypeId) (a b : ByteArray) : binOp .neq t (.string a) (.string b) = pure (.bool (!alike a b)) := by rw [binOp_string_neq, alike_is]
theorem sem_lss (t : TypeId) (a b : ByteArray) : binOp .lss t (.string a) (.string b) = pure (.bool (less a b)) := binOp_string_lss _ _ _
theorem sem_leq (t : TypeId) (a b : ByteArray) : binOp .leq t (.string a) (.string b) = pure (.bool (!less b a)) := by rw [binOp_string_leq, alike_is]; exact congrArg _ (congrArg _ (less_or a b))
theorem sem_gtr (t : TypeId) (a b : ByteArray) : binOp .gtr t (.string a) (.string b) = pure (.bool (less b a)) := by
 rw [binOp_string_gtr, alike_is]
 have := less_or a b
 unfold less at this
 rw [this, Bool.not_not]
 rfl
theorem sem_geq (t : TypeId) (a b : ByteArray) : binOp .geq t (.string a) (.string b) = pure (.bool (!less a b)) := binOp_string_geq _ _ _
end Go.Less
namespace Sha
def rotr (x : BitVec 32) (n : Nat) : BitVec 32 := x >>> n ||| x <<< (32 - n)
def w8 (x : UInt8) : BitVec 32 := BitVec.ofNat 32 x.toNat
def b8 (x : BitVec 32) : UInt8 := UInt8.ofNat x.toNat
def wordBytes (x : BitVec 32) : List UInt8 := [b8 (x >>> 24), b8 (x >>> 16), b8 (x >>> 8), b8 x]
def K : List (BitVec 32) := [
 0x428a2f98#32, 0x71374491#32, 0xb5c0fbcf#32, 0xe9b5dba5#32, 0x3956c25b#32, 0x59f111f1#32, 0x923f82a4#32, 0xab1c5ed5#32,
 0xd807aa98#32, 0x12835b01#32, 0x243185be#32, 0x550c7dc3#32, 0x72be5d74#32, 0x80deb1fe#32, 0x9bdc06a7#32, 0xc19bf174#32,
 0xe49b69c1#32, 0xefbe4786#32, 0x0fc19dc6#32, 0x240ca1cc#32, 0x2de92c6f#32, 0x4a7484aa#32, 0x5cb0a9dc#32, 0x76f988da#32,
 0x983e5152#32, 0xa831c66d#32, 0xb00327c8#32, 0xbf597fc7#32, 0xc6e00bf3#32, 0xd5a79147#32, 0x06ca6351#32, 0x14292967#32,
 0x27b70a85#32, 0x2e1b2138#32, 0x4d2c6dfc#32, 0x53380d13#32, 0x650a7354#32, 0x766a0abb#32, 0x81c2c92e#32, 0x92722c85#32,
 0xa2bfe8a1#32, 0xa81a664b#32, 0xc24b8b70#32, 0xc76c51a3#32, 0xd192e819#32, 0xd6990624#32, 0xf40e3585#32, 0x106aa070#32,
 0x19a4c116#32, 0x1e376c08#32, 0x2748774c#32, 0x34b0bcb5#32, 0x391c0cb3#32, 0x4ed8aa4a#32, 0x5b9cca4f#32, 0x682e6ff3#32,
 0x748f82ee#32, 0x78a5636f#32, 0x84c87814#32, 0x8cc70208#32, 0x90befffa#32, 0xa4506ceb#32, 0xbef9a3f7#32, 0xc67178f2#32]
def kAt (i : Nat) : BitVec 32 := K.getD i 0
structure St where
 a : BitVec 32
 b : BitVec 32
 c : BitVec 32
 d : BitVec 32
 e : BitVec 32
 f : BitVec 32
 g : BitVec 32
 h : BitVec 32
def St.get (s : St) : Nat -> BitVec 32
 | 0 => s.a | 1 => s.b | 2 => s.c | 3 => s.d | 4 => s.e | 5 => s.f | 6 => s.g | _ => s.h
def init : St := ⟨0x6a09e667#32, 0xbb67ae85#32, 0x3c6ef372#32, 0xa54ff53a#32, 0x510e527f#32, 0x9b05688c#32, 0x1f83d9ab#32, 0x5be0cd19#32⟩
def big1 (e : BitVec 32) : BitVec 32 := rotr e 6 ^^^ rotr e 11 ^^^ rotr e 25
def big0 (a : BitVec 32) : BitVec 32 := rotr a 2 ^^^ rotr a 13 ^^^ rotr a 22
def small0 (x : BitVec 32) : BitVec 32 := rotr x 7 ^^^ rotr x 18 ^^^ x >>> 3
def small1 (x : BitVec 32) : BitVec 32 := rotr x 17 ^^^ rotr x 19 ^^^ x >>> 10
def pick (e f g : BitVec 32) : BitVec 32 := (e &&& f) ^^^ (~~~e &&& g)
def most (a b c : BitVec 32) : BitVec 32 := (a &&& b) ^^^ (a &&& c) ^^^ (b &&& c)
def temp (s : St) (k w : BitVec 32) : BitVec 32 := s.h + big1 s.e + pick s.e s.f s.g + k + w
def round (s : St) (k w : BitVec 32) : St :=
 ⟨temp s k w + big0 s.a + most s.a s.b s.c, s.a, s.b, s.c, s.d + temp s k w, s.e, s.f, s.g⟩
def word4 (a b c d : UInt8) : BitVec 32 := w8 a <<< 24 ||| w8 b <<< 16 ||| w8 c <<< 8 ||| w8 d
def first (m : Nat -> UInt8) (i : Nat) : BitVec 32 := word4 (m (4 * i)) (m (4 * i + 1)) (m (4 * i + 2)) (m (4 * i + 3))
def nextW (x16 x15 x7 x2 : BitVec 32) : BitVec 32 := x16 + small0 x15 + x7 + small1 x2
def back (m : Nat -> UInt8) : Nat -> List (BitVec 32)
 | 0 => []
 | k + 1 => (if k < 16 then first m k else nextW ((back m k).getD 15 0) ((back m k).getD 14 0) ((back m k).getD 6 0) ((back m k).getD 1 0)) :: back m k
def wd (m : Nat -> UInt8) (i : Nat) : BitVec 32 := (back m (i + 1)).headD 0
theorem back_getD (m : Nat -> UInt8) : ∀ k j, j < k -> (back m k).getD j 0 = wd m (k - 1 - j) := by
 intro k
 induction k with
 | zero => intro j h; omega
 | succ k ih =>
  intro j h
  cases j with
  | zero => simp [wd, back]
  | succ j =>
   rw [show back m (k + 1) = _ :: back m k from rfl, List.getD_cons_succ, ih j (by omega)]
   congr 1; omega
theorem wd_first (m : Nat -> UInt8) (i : Nat) (h : i < 16) : wd m i = first m i := by simp [wd, back, h]
theorem wd_next (m : Nat -> UInt8) (i : Nat) (h : 16 <= i) : wd m i = nextW (wd m (i - 16)) (wd m (i - 15)) (wd m (i - 7)) (wd m (i - 2)) := by
 show (back m (i + 1)).headD 0 = _
 rw [show back m (i + 1) = _ :: back m i from rfl, List.headD_cons, if_neg (by omega), back_getD m i 15 (by omega), back_getD m i 14 (by omega), back_getD m i 6 (by omega), back_getD m i 1 (by omega)]
 rw [show i - 1 - 15 = i - 16 by omega, show i - 1 - 14 = i - 15 by omega, show i - 1 - 6 = i - 7 by omega, show i - 1 - 1 = i - 2 by omega]
def rounds (m : Nat -> UInt8) (s : St) : Nat -> St
 | 0 => s
 | k + 1 => round (rounds m s k) (kAt k) (wd m k)
def addSt (s t : St) : St := ⟨s.a + t.a, s.b + t.b, s.c + t.c, s.d + t.d, s.e + t.e, s.f + t.f, s.g + t.g, s.h + t.h⟩
theorem addSt_get (s t : St) (k : Nat) : (addSt s t).get k = s.get k + t.get k := by
 unfold St.get
 match k with
 | 0 => rfl | 1 => rfl | 2 => rfl | 3 => rfl | 4 => rfl | 5 => rfl | 6 => rfl | _ + 7 => rfl
def press (s : St) (m : Nat -> UInt8) : St := addSt s (rounds m s 64)
def blocks (s : List UInt8) : Nat -> St
 | 0 => init
 | n + 1 => press (blocks s n) (λi => s.getD (64 * n + i) 0)
def num (v : Nat) : Nat -> List UInt8
 | 0 => []
 | k + 1 => UInt8.ofNat (v / 256 ^ k) :: num v k
def pad (s : List UInt8) : List UInt8 := s ++ 128 :: List.replicate ((119 - s.length % 64) % 64) 0 ++ num (8 * s.length) 8
def St.out (s : St) : List UInt8 := wordBytes s.a ++ wordBytes s.b ++ wordBytes s.c ++ wordBytes s.d ++ wordBytes s.e ++ wordBytes s.f ++ wordBytes s.g ++ wordBytes s.h
def sha (s : List UInt8) : List UInt8 := (blocks (pad s) ((pad s).length / 64)).out
theorem num_length (v : Nat) : ∀ k, (num v k).length = k
 | 0 => rfl
 | k + 1 => by simp [num, num_length v k]
def text (s : String) : List UInt8 := s.toUTF8.data.toList
theorem back_congr {m m' : Nat -> UInt8} (h : ∀ j, j < 64 -> m j = m' j) : ∀ k, back m k = back m' k := by
 intro k
 induction k with
 | zero => rfl
 | succ k ih =>
  have hf : k < 16 -> first m k = first m' k := λhk => by
   unfold first
   rw [h (4 * k) (by omega), h (4 * k + 1) (by omega), h (4 * k + 2) (by omega), h (4 * k + 3) (by omega)]
  simp only [back]
  rw [ih]
  by_cases hk : k < 16
  ·rw [if_pos hk, if_pos hk, hf hk]
  ·rw [if_neg hk, if_neg hk]
theorem press_congr {m m' : Nat -> UInt8} (h : ∀ j, j < 64 -> m j = m' j) (s : St) : press s m = press s m' := by
 have hw : ∀ k, wd m k = wd m' k := λk => by unfold wd; rw [back_congr h]
 have hr : ∀ k, rounds m s k = rounds m' s k := by
  intro k
  induction k with
  | zero => rfl
  | succ k ih => show round _ _ _ = round _ _ _; rw [ih, hw]
 unfold press; rw [hr]
theorem getD_append_left (F G : List UInt8) (i : Nat) (h : i < F.length) : (F ++ G).getD i 0 = F.getD i 0 := by
 simp [List.getD, List.getElem?_append_left h]
theorem getD_append_right (F G : List UInt8) (i : Nat) : (F ++ G).getD (F.length + i) 0 = G.getD i 0 := by
 simp [List.getD, List.getElem?_append_right (Nat.le_add_right _ _)]
theorem blocks_append (F G : List UInt8) : ∀ n, 64 * n <= F.length -> blocks (F ++ G) n = blocks F n := by
 intro n
 induction n with
 | zero => intro _; rfl
 | succ n ih =>
  intro h
  show press _ _ = press _ _
  rw [ih (by omega)]
  exact press_congr (λj hj => getD_append_left F G _ (by omega)) _
structure Holds (S : List UInt8) (st : St) (m : Nat -> UInt8) (held : Nat) : Prop where
 words : st = blocks S (S.length / 64)
 place : held = S.length % 64
 rest : ∀ j, j < held -> m j = S.getD (64 * (S.length / 64) + j) 0
def over (m : Nat -> UInt8) (h n : Nat) (r : List UInt8) (j : Nat) : UInt8 := if h <= j /\ j < h + n then r.getD (j - h) 0 else m j
theorem Holds.nil (m : Nat -> UInt8) : Holds [] init m 0 := ⟨rfl, rfl, λj h => by omega⟩
theorem Holds.less {S : List UInt8} {st : St} {m : Nat -> UInt8} {h : Nat} (hs : Holds S st m h) (r : List UInt8) (hr : h + r.length < 64) : Holds (S ++ r) st (over m h r.length r) (h + r.length) := by
 have h1 := hs.place
 have hl : (S ++ r).length = S.length + r.length := by simp
 have hd : (S.length + r.length) / 64 = S.length / 64 := by omega
 refine ⟨?_, by rw [hl]; omega, λj hj => ?_⟩
 ·rw [hl, hd, blocks_append S r _ (by omega)]; exact hs.words
 ·rw [hl, hd]
  unfold over
  by_cases hc : h <= j
  ·rw [if_pos ⟨hc, hj⟩, show 64 * (S.length / 64) + j = S.length + (j - h) by omega, getD_append_right]
  ·rw [if_neg (by omega), getD_append_left S r _ (by omega)]
   exact hs.rest j (by omega)
theorem Holds.full {S : List UInt8} {st : St} {m : Nat -> UInt8} {h : Nat} (hs : Holds S st m h) (r : List UInt8) (m' : Nat -> UInt8) (hr : 64 - h <= r.length) :
  Holds (S ++ r.take (64 - h)) (press st (over m h (64 - h) r)) m' 0 := by
 have h1 := hs.place
 have ht : (r.take (64 - h)).length = 64 - h := by simp; omega
 have hl : (S ++ r.take (64 - h)).length = S.length + (64 - h) := by simp; omega
 have hd : (S.length + (64 - h)) / 64 = S.length / 64 + 1 := by omega
 refine ⟨?_, by rw [hl]; omega, λj hj => by omega⟩
 rw [hl, hd]
 show _ = press (blocks _ _) _
 rw [blocks_append S _ _ (by omega), <- hs.words]
 refine press_congr (λj hj => ?_) _
 unfold over
 by_cases hc : h <= j
 ·rw [if_pos ⟨hc, by omega⟩, show 64 * (S.length / 64) + j = S.length + (j - h) by omega, getD_append_right]
  simp only [List.getD, List.getElem?_take]
  rw [if_pos (by omega)]
 ·rw [if_neg (by omega), getD_append_left S _ _ (by omega)]
  exact hs.rest j (by omega)
theorem byte_congr {a b : Nat} (h : a % 256 = b % 256) : UInt8.ofNat a = UInt8.ofNat b := by
 rw [<- UInt8.toNat_inj, UInt8.toNat_ofNat', UInt8.toNat_ofNat']; exact h
theorem b8_shr (v n : Nat) : b8 (BitVec.ofNat 32 v >>> n) = UInt8.ofNat (v % 4294967296 / 2 ^ n) := by
 unfold b8
 rw [BitVec.toNat_ushiftRight, Nat.shiftRight_eq_div_pow, BitVec.toNat_ofNat]
theorem num4 (v : Nat) : num v 4 = wordBytes (BitVec.ofNat 32 v) := by
 have h0 : b8 (BitVec.ofNat 32 v) = UInt8.ofNat (v % 4294967296) := by unfold b8; rw [BitVec.toNat_ofNat]
 unfold wordBytes
 rw [b8_shr, b8_shr, b8_shr, h0]
 show [UInt8.ofNat (v / 16777216), UInt8.ofNat (v / 65536), UInt8.ofNat (v / 256), UInt8.ofNat (v / 1)] = [UInt8.ofNat (v % 4294967296 / 16777216), UInt8.ofNat (v % 4294967296 / 65536), UInt8.ofNat (v % 4294967296 / 256), UInt8.ofNat (v % 4294967296)]
 rw [byte_congr (a := v / 16777216) (b := v % 4294967296 / 16777216) (by omega), byte_congr (a := v / 65536) (b := v % 4294967296 / 65536) (by omega),
  byte_congr (a := v / 256) (b := v % 4294967296 / 256) (by omega), byte_congr (a := v / 1) (b := v % 4294967296) (by omega)]
theorem num8 (v : Nat) : num v 8 = num (v / 4294967296) 4 ++ num v 4 := by
 show [UInt8.ofNat (v / 72057594037927936), UInt8.ofNat (v / 281474976710656), UInt8.ofNat (v / 1099511627776), UInt8.ofNat (v / 4294967296)] ++ num v 4 =
  [UInt8.ofNat (v / 4294967296 / 16777216), UInt8.ofNat (v / 4294967296 / 65536), UInt8.ofNat (v / 4294967296 / 256), UInt8.ofNat (v / 4294967296 / 1)] ++ num v 4
 rw [Nat.div_div_eq_div_mul, Nat.div_div_eq_div_mul, Nat.div_div_eq_div_mul, Nat.div_one]
theorem num_words (v : Nat) : num v 8 = wordBytes (BitVec.ofNat 32 (v / 4294967296)) ++ wordBytes (BitVec.ofNat 32 v) := by rw [num8, num4, num4]
def St.outK (s : St) : Nat -> List UInt8
 | 0 => []
 | k + 1 => s.outK k ++ wordBytes (s.get k)
theorem outK_eight (s : St) : s.outK 8 = s.out := by
 show ((((((([] ++ wordBytes s.a) ++ wordBytes s.b) ++ wordBytes s.c) ++ wordBytes s.d) ++ wordBytes s.e) ++ wordBytes s.f) ++ wordBytes s.g) ++ wordBytes s.h = _
 rfl
theorem outK_length (s : St) : ∀ k, (s.outK k).length = 4 * k
 | 0 => rfl
 | k + 1 => by rw [show s.outK (k + 1) = s.outK k ++ wordBytes (s.get k) from rfl, List.length_append, outK_length s k]; rfl
end Sha
