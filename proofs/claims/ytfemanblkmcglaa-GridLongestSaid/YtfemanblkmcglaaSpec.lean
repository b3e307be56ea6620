/- Two rows held against each other, plainly: how many can stay, the best path, what it makes. -/
namespace Grid
section
variable {α : Type} [DecidableEq α]

/-- How many can stay. -/
def lcs : List α → List α → Nat
  | [], _ => 0
  | _ :: _, [] => 0
  | x :: a, y :: b => if x = y then lcs a b + 1 else max (lcs a (y :: b)) (lcs (x :: a) b)
  termination_by a b => a.length + b.length
  decreasing_by all_goals simp only [List.length_cons]; all_goals omega

theorem lcs_nil (b : List α) : lcs [] b = 0 := by rw [lcs]
theorem lcs_nil' (a : List α) : lcs a [] = 0 := by cases a <;> rw [lcs]
theorem lcs_same (x : α) (a b : List α) : lcs (x :: a) (x :: b) = lcs a b + 1 := by rw [lcs, if_pos rfl]
theorem lcs_other {x y : α} (h : x ≠ y) (a b : List α) : lcs (x :: a) (y :: b) = max (lcs a (y :: b)) (lcs (x :: a) b) := by rw [lcs, if_neg h]

/-- Some row in both is as long as what stays. -/
theorem lcs_some (a b : List α) : ∃ l, List.Sublist l a ∧ List.Sublist l b ∧ l.length = lcs a b := by
  induction a, b using lcs.induct with
  | case1 b => exact ⟨[], List.nil_sublist _, List.nil_sublist _, by rw [lcs_nil]; rfl⟩
  | case2 x a => exact ⟨[], List.nil_sublist _, List.nil_sublist _, by rw [lcs_nil']; rfl⟩
  | case3 a x b ih =>
    obtain ⟨l, h1, h2, h3⟩ := ih
    exact ⟨x :: l, h1.cons_cons x, h2.cons_cons x, by rw [lcs_same, List.length_cons, h3]⟩
  | case4 x a y b h ih1 ih2 =>
    obtain ⟨l, h1, h2, h3⟩ := ih1
    obtain ⟨m, k1, k2, k3⟩ := ih2
    rw [lcs_other h]
    by_cases hm : lcs (x :: a) b ≤ lcs a (y :: b)
    · exact ⟨l, h1.cons x, h2, by rw [h3, Nat.max_eq_left hm]⟩
    · exact ⟨m, k1, k2.cons y, by rw [k3, Nat.max_eq_right (by omega)]⟩


/-- No row in both is longer. -/
theorem lcs_most {l a b : List α} (h1 : List.Sublist l a) (h2 : List.Sublist l b) : l.length ≤ lcs a b := by
  induction a, b using lcs.induct generalizing l with
  | case1 b => rw [List.sublist_nil.1 h1]; exact Nat.zero_le _
  | case2 x a => rw [List.sublist_nil.1 h2]; exact Nat.zero_le _
  | case3 a x b ih =>
    rw [lcs_same]
    cases l with
    | nil => exact Nat.zero_le _
    | cons z l =>
      have k1 : List.Sublist l a := by
        cases h1 with
        | cons _ h => exact (List.sublist_cons_self z l).trans h
        | cons_cons _ h => exact h
      have k2 : List.Sublist l b := by
        cases h2 with
        | cons _ h => exact (List.sublist_cons_self z l).trans h
        | cons_cons _ h => exact h
      exact Nat.succ_le_succ (ih k1 k2)
  | case4 x a y b h ih1 ih2 =>
    rw [lcs_other h]
    cases h1 with
    | cons _ h1 => exact Nat.le_trans (ih1 h1 h2) (Nat.le_max_left _ _)
    | cons_cons _ h1' =>
      cases h2 with
      | cons _ h2 => exact Nat.le_trans (ih2 (h1'.cons_cons x) h2) (Nat.le_max_right _ _)
      | cons_cons _ h2' => exact absurd rfl h

theorem lcs_comm (a b : List α) : lcs a b = lcs b a := by
  obtain ⟨l, h1, h2, h3⟩ := lcs_some a b
  obtain ⟨m, k1, k2, k3⟩ := lcs_some b a
  have := lcs_most h2 h1
  have := lcs_most k2 k1
  omega
theorem lcs_le_left (a b : List α) : lcs a b ≤ a.length := by obtain ⟨l, h1, _, h3⟩ := lcs_some a b; rw [← h3]; exact h1.length_le
theorem lcs_le_right (a b : List α) : lcs a b ≤ b.length := by obtain ⟨l, _, h2, h3⟩ := lcs_some a b; rw [← h3]; exact h2.length_le
theorem lcs_self (a : List α) : lcs a a = a.length := Nat.le_antisymm (lcs_le_left a a) (lcs_most (List.Sublist.refl a) (List.Sublist.refl a))
theorem lcs_mono {a b c d : List α} (h1 : List.Sublist a c) (h2 : List.Sublist b d) : lcs a b ≤ lcs c d := by
  obtain ⟨l, k1, k2, k3⟩ := lcs_some a b; rw [← k3]; exact lcs_most (k1.trans h1) (k2.trans h2)
/-- A row in both without its last one. -/
theorem lcs_pos (a b : List α) : 0 < lcs a b ↔ ∃ x, x ∈ a ∧ x ∈ b := by
  constructor
  · intro h
    obtain ⟨l, h1, h2, h3⟩ := lcs_some a b
    cases l with
    | nil => simp only [List.length_nil] at h3; omega
    | cons x l => exact ⟨x, h1.subset (List.mem_cons_self ..), h2.subset (List.mem_cons_self ..)⟩
  · rintro ⟨x, h1, h2⟩
    have := lcs_most (List.singleton_sublist.2 h1) (List.singleton_sublist.2 h2)
    simp only [List.length_singleton] at this; omega

theorem init_sub {β : Type} {l a : List β} {s : β} (h : List.Sublist l (a ++ [s])) : List.Sublist l a ∨ ∃ m, l = m ++ [s] ∧ List.Sublist m a := by
  rw [List.sublist_append_iff] at h
  obtain ⟨l1, l2, rfl, h1, h2⟩ := h
  cases h2 with
  | cons _ h2 => rw [List.sublist_nil.1 h2, List.append_nil]; exact Or.inl h1
  | cons_cons _ h2 => rw [List.sublist_nil.1 h2]; exact Or.inr ⟨l1, rfl, h1⟩

theorem lcs_one (a b : List α) (s : α) : lcs a b ≤ lcs (a ++ [s]) b ∧ lcs (a ++ [s]) b ≤ lcs a b + 1 := by
  refine ⟨lcs_mono (List.sublist_append_left a [s]) (List.Sublist.refl b), ?_⟩
  obtain ⟨l, h1, h2, h3⟩ := lcs_some (a ++ [s]) b
  rcases init_sub h1 with h | ⟨m, rfl, h⟩
  · have := lcs_most h h2; omega
  · have := lcs_most h ((List.sublist_append_left m [s]).trans h2)
    simp only [List.length_append, List.length_singleton] at h3
    omega

theorem lcs_both (a b : List α) (s : α) : lcs (a ++ [s]) (b ++ [s]) = lcs a b + 1 := by
  apply Nat.le_antisymm
  · obtain ⟨l, h1, h2, h3⟩ := lcs_some (a ++ [s]) (b ++ [s])
    rcases init_sub h1 with h | ⟨m, rfl, h⟩
    · rcases init_sub h2 with k | ⟨m, rfl, k⟩
      · have := lcs_most h k; omega
      · have := lcs_most ((List.sublist_append_left m [s]).trans h) k
        simp only [List.length_append, List.length_singleton] at h3
        omega
    · have hm : List.Sublist m b := by
        rcases init_sub h2 with k | ⟨m', e, k⟩
        · exact (List.sublist_append_left m [s]).trans k
        · rw [(List.append_inj' e rfl).1]; exact k
      have := lcs_most h hm
      simp only [List.length_append, List.length_singleton] at h3
      omega
  · obtain ⟨l, h1, h2, h3⟩ := lcs_some a b
    have := lcs_most (h1.append (List.Sublist.refl [s])) (h2.append (List.Sublist.refl [s]))
    simp only [List.length_append, List.length_singleton] at this
    omega

/-- From a place on. -/
def at_ (a b : List α) (x y : Nat) : Nat := lcs (a.drop x) (b.drop y)
theorem at_zero (a b : List α) : at_ a b 0 0 = lcs a b := by unfold at_; rw [List.drop_zero, List.drop_zero]
theorem at_left {a b : List α} {x : Nat} (y : Nat) (h : a.length ≤ x) : at_ a b x y = 0 := by unfold at_; rw [List.drop_eq_nil_of_le h, lcs_nil]
theorem at_right {a b : List α} (x : Nat) {y : Nat} (h : b.length ≤ y) : at_ a b x y = 0 := by unfold at_; rw [List.drop_eq_nil_of_le h, lcs_nil']
theorem at_same {a b : List α} {x y : Nat} (hx : x < a.length) (hy : y < b.length) (h : a[x] = b[y]) : at_ a b x y = at_ a b (x + 1) (y + 1) + 1 := by
  unfold at_; rw [List.drop_eq_getElem_cons hx, List.drop_eq_getElem_cons hy, h, lcs_same]
theorem at_other {a b : List α} {x y : Nat} (hx : x < a.length) (hy : y < b.length) (h : a[x] ≠ b[y]) : at_ a b x y = max (at_ a b (x + 1) y) (at_ a b x (y + 1)) := by
  unfold at_; rw [List.drop_eq_getElem_cons hx, List.drop_eq_getElem_cons hy, lcs_other h]
theorem at_le_left (a b : List α) (x y : Nat) : at_ a b x y ≤ a.length - x := by unfold at_; have := lcs_le_left (a.drop x) (b.drop y); rwa [List.length_drop] at this
theorem at_le_right (a b : List α) (x y : Nat) : at_ a b x y ≤ b.length - y := by unfold at_; have := lcs_le_right (a.drop x) (b.drop y); rwa [List.length_drop] at this
theorem drop_sub {β : Type} (a : List β) (x : Nat) : List.Sublist (a.drop (x + 1)) (a.drop x) := by
  rw [show a.drop (x + 1) = (a.drop x).drop 1 from by rw [List.drop_drop]]
  exact List.drop_sublist 1 _
theorem at_down_left (a b : List α) (x y : Nat) : at_ a b (x + 1) y ≤ at_ a b x y := lcs_mono (drop_sub a x) (List.Sublist.refl _)
theorem at_down_right (a b : List α) (x y : Nat) : at_ a b x (y + 1) ≤ at_ a b x y := lcs_mono (List.Sublist.refl _) (drop_sub b y)
theorem at_diag (a b : List α) {x y : Nat} (hx : x < a.length) (hy : y < b.length) : at_ a b x y ≤ at_ a b (x + 1) (y + 1) + 1 := by
  unfold at_
  rw [List.drop_eq_getElem_cons hx, List.drop_eq_getElem_cons hy]
  obtain ⟨l, h1, h2, h3⟩ := lcs_some (a[x] :: a.drop (x + 1)) (b[y] :: b.drop (y + 1))
  cases l with
  | nil => simp only [List.length_nil] at h3; omega
  | cons z l =>
    have k1 : List.Sublist l (a.drop (x + 1)) := by
      cases h1 with
      | cons _ h => exact (List.sublist_cons_self z l).trans h
      | cons_cons _ h => exact h
    have k2 : List.Sublist l (b.drop (y + 1)) := by
      cases h2 with
      | cons _ h => exact (List.sublist_cons_self z l).trans h
      | cons_cons _ h => exact h
    have := lcs_most k1 k2
    simp only [List.length_cons] at h3
    omega
/-- The most of the three, as the document's own answer takes it. -/
theorem at_three {a b : List α} {x y : Nat} (hx : x < a.length) (hy : y < b.length) :
    at_ a b x y = max (max (at_ a b (x + 1) y) (at_ a b x (y + 1))) (if a[x] = b[y] then at_ a b (x + 1) (y + 1) + 1 else 0) := by
  by_cases h : a[x] = b[y]
  · rw [if_pos h]
    have h1 := at_same hx hy h
    have h2 := at_down_left a b x y
    have h3 := at_down_right a b x y
    omega
  · rw [if_neg h, at_other hx hy h, Nat.max_eq_left (Nat.zero_le _)]

/-- The best path: 0 both stay, 1 one goes, 2 one comes. -/
def path : List α → List α → List Nat
  | [], [] => []
  | [], _ :: b => 2 :: path [] b
  | _ :: a, [] => 1 :: path a []
  | x :: a, y :: b => if x = y then 0 :: path a b else if lcs (x :: a) b ≤ lcs a (y :: b) then 1 :: path a (y :: b) else 2 :: path (x :: a) b
  termination_by a b => a.length + b.length
  decreasing_by all_goals simp only [List.length_cons]; all_goals omega

theorem path_nil : path ([] : List α) [] = [] := by rw [path]
theorem path_left (y : α) (b : List α) : path [] (y :: b) = 2 :: path [] b := by rw [path]
theorem path_right (x : α) (a : List α) : path (x :: a) [] = 1 :: path a [] := by rw [path]
theorem path_same (x : α) (a b : List α) : path (x :: a) (x :: b) = 0 :: path a b := by rw [path, if_pos rfl]
theorem path_other {x y : α} (h : x ≠ y) (a b : List α) : path (x :: a) (y :: b) = if lcs (x :: a) b ≤ lcs a (y :: b) then 1 :: path a (y :: b) else 2 :: path (x :: a) b := by rw [path, if_neg h]

def path_at (a b : List α) (x y : Nat) : List Nat := path (a.drop x) (b.drop y)
theorem path_zero (a b : List α) : path_at a b 0 0 = path a b := by unfold path_at; rw [List.drop_zero, List.drop_zero]
theorem path_end {a b : List α} {x y : Nat} (hx : a.length ≤ x) (hy : b.length ≤ y) : path_at a b x y = [] := by
  unfold path_at; rw [List.drop_eq_nil_of_le hx, List.drop_eq_nil_of_le hy, path_nil]
theorem path_stay {a b : List α} {x y : Nat} (hx : x < a.length) (hy : y < b.length) (h : a[x] = b[y]) : path_at a b x y = 0 :: path_at a b (x + 1) (y + 1) := by
  unfold path_at; rw [List.drop_eq_getElem_cons hx, List.drop_eq_getElem_cons hy, h, path_same]
theorem path_goes {a b : List α} {x y : Nat} (hx : x < a.length) (h : y < b.length → (∀ hy : y < b.length, a[x] ≠ b[y]) ∧ at_ a b x (y + 1) ≤ at_ a b (x + 1) y) : path_at a b x y = 1 :: path_at a b (x + 1) y := by
  unfold path_at
  by_cases hy : y < b.length
  · obtain ⟨h1, h2⟩ := h hy
    unfold at_ at h2
    rw [List.drop_eq_getElem_cons hx, List.drop_eq_getElem_cons hy] at h2
    rw [List.drop_eq_getElem_cons hx, List.drop_eq_getElem_cons hy, path_other (h1 hy), if_pos h2]
  · rw [List.drop_eq_getElem_cons hx, List.drop_eq_nil_of_le (Nat.le_of_not_lt hy), path_right]
theorem path_comes {a b : List α} {x y : Nat} (hy : y < b.length) (h : x < a.length → (∀ hx : x < a.length, a[x] ≠ b[y]) ∧ at_ a b (x + 1) y < at_ a b x (y + 1)) : path_at a b x y = 2 :: path_at a b x (y + 1) := by
  unfold path_at
  by_cases hx : x < a.length
  · obtain ⟨h1, h2⟩ := h hx
    unfold at_ at h2
    rw [List.drop_eq_getElem_cons hx, List.drop_eq_getElem_cons hy] at h2
    rw [List.drop_eq_getElem_cons hx, List.drop_eq_getElem_cons hy, path_other (h1 hx), if_neg (by omega)]
  · rw [List.drop_eq_getElem_cons hy, List.drop_eq_nil_of_le (Nat.le_of_not_lt hx), path_left]

/-- A path of two rows, the best one or not. -/
inductive Good : List α → List α → List Nat → Prop
  | done : Good [] [] []
  | stay (x : α) {a b : List α} {p : List Nat} : Good a b p → Good (x :: a) (x :: b) (0 :: p)
  | goes (x : α) {a b : List α} {p : List Nat} : Good a b p → Good (x :: a) b (1 :: p)
  | comes (y : α) {a b : List α} {p : List Nat} : Good a b p → Good a (y :: b) (2 :: p)

theorem path_good (a b : List α) : Good a b (path a b) := by
  induction a, b using path.induct with
  | case1 => rw [path_nil]; exact .done
  | case2 y b ih => rw [path_left]; exact .comes y ih
  | case3 x a ih => rw [path_right]; exact .goes x ih
  | case4 a x b ih => rw [path_same]; exact .stay x ih
  | case5 x a y b h hle ih => rw [path_other h, if_pos hle]; exact .goes x ih
  | case6 x a y b h hle ih => rw [path_other h, if_neg hle]; exact .comes y ih

theorem path_stays (a b : List α) : (path a b).count 0 = lcs a b := by
  induction a, b using path.induct with
  | case1 => rw [path_nil, lcs_nil]; rfl
  | case2 y b ih => rw [path_left, lcs_nil, List.count_cons_of_ne (by decide), ih, lcs_nil]
  | case3 x a ih => rw [path_right, lcs_nil', List.count_cons_of_ne (by decide), ih, lcs_nil']
  | case4 a x b ih => rw [path_same, lcs_same, List.count_cons_self, ih]
  | case5 x a y b h hle ih => rw [path_other h, if_pos hle, lcs_other h, List.count_cons_of_ne (by decide), ih, Nat.max_eq_left hle]
  | case6 x a y b h hle ih => rw [path_other h, if_neg hle, lcs_other h, List.count_cons_of_ne (by decide), ih, Nat.max_eq_right (by omega)]
end

section
variable {α : Type}
/-- How far a path goes along the one row, and along the other. -/
def xs (p : List Nat) : Nat := (p.filter (fun k => k < 2)).length
def ys (p : List Nat) : Nat := (p.filter (fun k => k ≠ 1)).length
theorem xs_nil : xs [] = 0 := rfl
theorem ys_nil : ys [] = 0 := rfl
theorem xs_cons (k : Nat) (p : List Nat) : xs (k :: p) = (if k < 2 then 1 else 0) + xs p := by
  unfold xs; rw [List.filter_cons]; split <;> rename_i h <;> simp at h <;> simp [h] <;> omega
theorem ys_cons (k : Nat) (p : List Nat) : ys (k :: p) = (if k ≠ 1 then 1 else 0) + ys p := by
  unfold ys; rw [List.filter_cons]; split <;> rename_i h <;> simp at h <;> simp [h] <;> omega

theorem good_xs {a b : List α} {p : List Nat} (h : Good a b p) : xs p = a.length := by
  induction h with
  | done => rfl
  | stay x _ ih => rw [xs_cons, if_pos (by decide), ih, List.length_cons]; omega
  | goes x _ ih => rw [xs_cons, if_pos (by decide), ih, List.length_cons]; omega
  | comes y _ ih => rw [xs_cons, if_neg (by decide), ih]; omega
theorem good_ys {a b : List α} {p : List Nat} (h : Good a b p) : ys p = b.length := by
  induction h with
  | done => rfl
  | stay x _ ih => rw [ys_cons, if_pos (by decide), ih, List.length_cons]; omega
  | goes x _ ih => rw [ys_cons, if_neg (by decide), ih]; omega
  | comes y _ ih => rw [ys_cons, if_pos (by decide), ih, List.length_cons]; omega
theorem good_length {a b : List α} {p : List Nat} (h : Good a b p) : p.length + p.count 0 = a.length + b.length := by
  induction h with
  | done => rfl
  | stay x _ ih => rw [List.count_cons_self, List.length_cons, List.length_cons, List.length_cons]; omega
  | goes x _ ih => rw [List.count_cons_of_ne (by decide), List.length_cons, List.length_cons]; omega
  | comes y _ ih => rw [List.count_cons_of_ne (by decide), List.length_cons, List.length_cons]; omega
theorem good_small {a b : List α} {p : List Nat} (h : Good a b p) : ∀ k ∈ p, k < 3 := by
  induction h with
  | done => intro k hk; cases hk
  | stay x _ ih => intro k hk; rcases List.mem_cons.1 hk with rfl | hk; decide; exact ih k hk
  | goes x _ ih => intro k hk; rcases List.mem_cons.1 hk with rfl | hk; decide; exact ih k hk
  | comes y _ ih => intro k hk; rcases List.mem_cons.1 hk with rfl | hk; decide; exact ih k hk

/-- What becomes of a row; none: the path isn't one of it. -/
def apply : List Nat → List α → List α → Option (List α)
  | [], [], [] => some []
  | [], _ :: _, _ => none
  | [], [], _ :: _ => none
  | k :: p, a, c =>
    if k = 0 then (match a with | [] => none | x :: a => (apply p a c).map (x :: ·))
    else if k = 1 then (match a with | [] => none | _ :: a => apply p a c)
    else if k = 2 then (match c with | [] => none | y :: c => (apply p a c).map (y :: ·))
    else none
/-- What comes. -/
def comes : List Nat → List α → List α
  | [], _ => []
  | k :: p, b => if k = 1 then comes p b else if k = 2 then (match b with | [] => [] | y :: b => y :: comes p b) else comes p (b.drop 1)

theorem apply_done : apply [] ([] : List α) [] = some [] := rfl
theorem apply_rest {a c : List α} (h : a ≠ [] ∨ c ≠ []) : apply [] a c = none := by
  cases a <;> cases c <;> first | rfl | (rcases h with h | h <;> exact absurd rfl h)
theorem apply_zero (x : α) (a : List α) (p : List Nat) (c : List α) : apply (0 :: p) (x :: a) c = (apply p a c).map (x :: ·) := rfl
theorem apply_one (x : α) (a : List α) (p : List Nat) (c : List α) : apply (1 :: p) (x :: a) c = apply p a c := rfl
theorem apply_two (a : List α) (p : List Nat) (y : α) (c : List α) : apply (2 :: p) a (y :: c) = (apply p a c).map (y :: ·) := rfl
theorem apply_short {k : Nat} (hk : k < 2) (p : List Nat) (c : List α) : apply (k :: p) [] c = none := by
  match k, hk with
  | 0, _ => rfl
  | 1, _ => rfl
theorem apply_none (a : List α) (p : List Nat) : apply (2 :: p) a [] = none := rfl
theorem apply_odd {k : Nat} (hk : 2 < k) (a : List α) (p : List Nat) (c : List α) : apply (k :: p) a c = none := by
  unfold apply; rw [if_neg (by omega), if_neg (by omega), if_neg (by omega)]
theorem comes_zero (y : α) (b : List α) (p : List Nat) : comes (0 :: p) (y :: b) = comes p b := rfl
theorem comes_one (b : List α) (p : List Nat) : comes (1 :: p) b = comes p b := rfl
theorem comes_two (y : α) (b : List α) (p : List Nat) : comes (2 :: p) (y :: b) = y :: comes p b := rfl

/-- A path, with what comes, makes the one of the other. -/
theorem good_makes {a b : List α} {p : List Nat} (h : Good a b p) : apply p a (comes p b) = some b := by
  induction h with
  | done => rfl
  | stay x _ ih => rw [comes_zero, apply_zero, ih]; rfl
  | goes x _ ih => rw [comes_one, apply_one, ih]
  | comes y _ ih => rw [comes_two, apply_two, ih]; rfl
theorem good_comes {a b : List α} {p : List Nat} (h : Good a b p) : (comes p b).length + p.count 0 = b.length := by
  induction h with
  | done => rfl
  | stay x _ ih => rw [comes_zero, List.count_cons_self, List.length_cons]; omega
  | goes x _ ih => rw [comes_one, List.count_cons_of_ne (by decide)]; exact ih
  | comes y _ ih => rw [comes_two, List.count_cons_of_ne (by decide), List.length_cons, List.length_cons]; omega

/-- A path's places lie within the rows; where it stays both have the same. -/
theorem good_take {a b : List α} {p : List Nat} (h : Good a b p) : ∀ i, xs (p.take i) ≤ a.length ∧ ys (p.take i) ≤ b.length ∧
    (∀ hi : i < p.length, p[i] = 0 → ∃ (hx : xs (p.take i) < a.length) (hy : ys (p.take i) < b.length), a[xs (p.take i)] = b[ys (p.take i)]) := by
  induction h with
  | done => intro i; rw [List.take_nil]; exact ⟨Nat.le_refl _, Nat.le_refl _, fun hi => absurd hi (Nat.not_lt_zero _)⟩
  | stay x _ ih =>
    intro i
    cases i with
    | zero => rw [List.take_zero]; exact ⟨Nat.zero_le _, Nat.zero_le _, fun _ _ => ⟨Nat.zero_lt_succ _, Nat.zero_lt_succ _, rfl⟩⟩
    | succ i =>
      obtain ⟨h1, h2, h3⟩ := ih i
      simp only [List.take_succ_cons, xs_cons, ys_cons, if_pos (show (0 : Nat) < 2 by decide), if_pos (show (0 : Nat) ≠ 1 by decide), List.length_cons, List.getElem_cons_succ, Nat.add_comm 1]
      refine ⟨by omega, by omega, fun hi he => ?_⟩
      obtain ⟨hx, hy, hh⟩ := h3 (by omega) he
      exact ⟨by omega, by omega, by simpa only [List.getElem_cons_succ] using hh⟩
  | goes x _ ih =>
    intro i
    cases i with
    | zero => rw [List.take_zero]; exact ⟨Nat.zero_le _, Nat.zero_le _, fun _ h => absurd h (by show ¬ (1 : Nat) = 0; decide)⟩
    | succ i =>
      obtain ⟨h1, h2, h3⟩ := ih i
      simp only [List.take_succ_cons, xs_cons, ys_cons, if_pos (show (1 : Nat) < 2 by decide), if_neg (show ¬ (1 : Nat) ≠ 1 by decide), List.length_cons, List.getElem_cons_succ, Nat.add_comm 1, Nat.zero_add]
      refine ⟨by omega, by omega, fun hi he => ?_⟩
      obtain ⟨hx, hy, hh⟩ := h3 (by omega) he
      exact ⟨by omega, by omega, by simpa only [List.getElem_cons_succ] using hh⟩
  | comes y _ ih =>
    intro i
    cases i with
    | zero => rw [List.take_zero]; exact ⟨Nat.zero_le _, Nat.zero_le _, fun _ h => absurd h (by show ¬ (2 : Nat) = 0; decide)⟩
    | succ i =>
      obtain ⟨h1, h2, h3⟩ := ih i
      simp only [List.take_succ_cons, xs_cons, ys_cons, if_neg (show ¬ (2 : Nat) < 2 by decide), if_pos (show (2 : Nat) ≠ 1 by decide), List.length_cons, List.getElem_cons_succ, Nat.add_comm 1, Nat.zero_add]
      refine ⟨by omega, by omega, fun hi he => ?_⟩
      obtain ⟨hx, hy, hh⟩ := h3 (by omega) he
      exact ⟨by omega, by omega, by simpa only [List.getElem_cons_succ] using hh⟩

/-- The same by places, as a loop goes: what is made so far, and the rest. -/
def Made (a c : List α) (p : List Nat) (i x y : Nat) (out : List α) : Prop := apply p a c = (apply (p.drop i) (a.drop x) (c.drop y)).map (out ++ ·)
theorem made_zero (a c : List α) (p : List Nat) : Made a c p 0 0 0 [] := by
  unfold Made
  rw [List.drop_zero, List.drop_zero, List.drop_zero]
  cases apply p a c <;> rfl
theorem map_append (o : Option (List α)) (out : List α) (x : α) : (o.map (x :: ·)).map (out ++ ·) = o.map ((out ++ [x]) ++ ·) := by
  cases o with
  | none => rfl
  | some l => show some (out ++ x :: l) = some (out ++ [x] ++ l); rw [List.append_assoc]; rfl
theorem made_stay {a c out : List α} {p : List Nat} {i x y : Nat} (h : Made a c p i x y out) (hi : i < p.length) (hk : p[i] = 0) (hx : x < a.length) : Made a c p (i + 1) (x + 1) y (out ++ [a[x]]) := by
  unfold Made at h ⊢
  rw [h, List.drop_eq_getElem_cons hi, hk, List.drop_eq_getElem_cons hx, apply_zero, map_append]
theorem made_goes {a c out : List α} {p : List Nat} {i x y : Nat} (h : Made a c p i x y out) (hi : i < p.length) (hk : p[i] = 1) (hx : x < a.length) : Made a c p (i + 1) (x + 1) y out := by
  unfold Made at h ⊢
  rw [h, List.drop_eq_getElem_cons hi, hk, List.drop_eq_getElem_cons hx, apply_one]
theorem made_comes {a c out : List α} {p : List Nat} {i x y : Nat} (h : Made a c p i x y out) (hi : i < p.length) (hk : p[i] = 2) (hy : y < c.length) : Made a c p (i + 1) x (y + 1) (out ++ [c[y]]) := by
  unfold Made at h ⊢
  rw [h, List.drop_eq_getElem_cons hi, hk, List.drop_eq_getElem_cons hy, apply_two, map_append]
theorem made_short {a c out : List α} {p : List Nat} {i x y : Nat} (h : Made a c p i x y out) (hi : i < p.length) (hk : p[i] < 2) (hx : a.length ≤ x) : apply p a c = none := by
  unfold Made at h
  rw [h, List.drop_eq_getElem_cons hi, List.drop_eq_nil_of_le hx, apply_short hk]; rfl
theorem made_none {a c out : List α} {p : List Nat} {i x y : Nat} (h : Made a c p i x y out) (hi : i < p.length) (hk : p[i] = 2) (hy : c.length ≤ y) : apply p a c = none := by
  unfold Made at h
  rw [h, List.drop_eq_getElem_cons hi, hk, List.drop_eq_nil_of_le hy, apply_none]; rfl
theorem made_odd {a c out : List α} {p : List Nat} {i x y : Nat} (h : Made a c p i x y out) (hi : i < p.length) (hk : 2 < p[i]) : apply p a c = none := by
  unfold Made at h
  rw [h, List.drop_eq_getElem_cons hi, apply_odd hk]; rfl
theorem made_rest {a c out : List α} {p : List Nat} {i x y : Nat} (h : Made a c p i x y out) (hi : p.length ≤ i) (hr : x < a.length ∨ y < c.length) : apply p a c = none := by
  unfold Made at h
  rw [h, List.drop_eq_nil_of_le hi, apply_rest]
  · rfl
  · rcases hr with hr | hr
    · exact .inl fun e => by have := congrArg List.length e; rw [List.length_drop, List.length_nil] at this; omega
    · exact .inr fun e => by have := congrArg List.length e; rw [List.length_drop, List.length_nil] at this; omega
theorem made_end {a c out : List α} {p : List Nat} {i x y : Nat} (h : Made a c p i x y out) (hi : p.length ≤ i) (hx : a.length ≤ x) (hy : c.length ≤ y) : apply p a c = some out := by
  unfold Made at h
  rw [h, List.drop_eq_nil_of_le hi, List.drop_eq_nil_of_le hx, List.drop_eq_nil_of_le hy]
  show some (out ++ []) = some out
  rw [List.append_nil]

theorem xs_append (p q : List Nat) : xs (p ++ q) = xs p + xs q := by unfold xs; rw [List.filter_append, List.length_append]
theorem ys_append (p q : List Nat) : ys (p ++ q) = ys p + ys q := by unfold ys; rw [List.filter_append, List.length_append]
theorem xs_take {p : List Nat} {i : Nat} (hi : i < p.length) : xs (p.take (i + 1)) = xs (p.take i) + if p[i] < 2 then 1 else 0 := by
  rw [← List.take_append_getElem hi, xs_append, xs_cons, xs_nil]; rfl
theorem ys_take {p : List Nat} {i : Nat} (hi : i < p.length) : ys (p.take (i + 1)) = ys (p.take i) + if p[i] ≠ 1 then 1 else 0 := by
  rw [← List.take_append_getElem hi, ys_append, ys_cons, ys_nil]; rfl
/-- What comes, by places: along a path of a and b a step 2 takes b's text at the place's y. -/
def Came (b : List α) (p : List Nat) (i : Nat) (out : List α) : Prop := comes p b = out ++ comes (p.drop i) (b.drop (ys (p.take i)))
theorem came_zero (b : List α) (p : List Nat) : Came b p 0 [] := by unfold Came; rw [List.drop_zero, List.take_zero, ys_nil, List.drop_zero]; rfl
theorem came_comes {b out : List α} {p : List Nat} {i : Nat} (h : Came b p i out) (hi : i < p.length) (hk : p[i] = 2) (hy : ys (p.take i) < b.length) : Came b p (i + 1) (out ++ [b[ys (p.take i)]]) := by
  unfold Came at h ⊢
  rw [h, ys_take hi, hk, if_pos (by decide), List.drop_eq_getElem_cons hi, hk, List.drop_eq_getElem_cons hy, comes_two, List.append_assoc]; rfl
theorem came_goes {b out : List α} {p : List Nat} {i : Nat} (h : Came b p i out) (hi : i < p.length) (hk : p[i] = 1) : Came b p (i + 1) out := by
  unfold Came at h ⊢
  rw [h, ys_take hi, hk, if_neg (by decide), List.drop_eq_getElem_cons hi, hk, comes_one]; rfl
theorem came_stay {b out : List α} {p : List Nat} {i : Nat} (h : Came b p i out) (hi : i < p.length) (hk : p[i] = 0) (hy : ys (p.take i) < b.length) : Came b p (i + 1) out := by
  unfold Came at h ⊢
  rw [h, ys_take hi, hk, if_pos (by decide), List.drop_eq_getElem_cons hi, hk, List.drop_eq_getElem_cons hy, comes_zero]
theorem came_end {b out : List α} {p : List Nat} {i : Nat} (h : Came b p i out) (hi : p.length ≤ i) : comes p b = out := by
  unfold Came at h
  rw [h, List.drop_eq_nil_of_le hi]; exact List.append_nil _
end
end Grid
