/- Names and paths of them, plainly: over rows of bytes. -/
namespace Nm
/-- Is it a name? -/
def right (l : List UInt8) : Bool := l.all (fun x => x != 47 && x != 0) && decide (1 ≤ l.length) && decide (l.length ≤ 16) && (l != [46]) && (l != [46, 46])
/-- The pieces between the bytes 47. -/
def pieces : List UInt8 → List (List UInt8)
  | [] => [[]]
  | x :: l => if x = 47 then [] :: pieces l else match pieces l with
    | [] => [[x]]
    | c :: cs => (x :: c) :: cs
theorem pieces_ne (l : List UInt8) : pieces l ≠ [] := by
  cases l with
  | nil => simp [pieces]
  | cons x l =>
    unfold pieces
    split
    · simp
    · split <;> simp
theorem pieces_none {c : List UInt8} (h : ∀ x ∈ c, x ≠ 47) : pieces c = [c] := by
  induction c with
  | nil => rfl
  | cons x c ih =>
    rw [pieces, if_neg (h x (by simp)), ih (fun y hy => h y (by simp [hy]))]
theorem pieces_cut {c l : List UInt8} (h : ∀ x ∈ c, x ≠ 47) : pieces (c ++ 47 :: l) = c :: pieces l := by
  induction c with
  | nil => rw [List.nil_append, pieces, if_pos rfl]
  | cons x c ih =>
    rw [List.cons_append, pieces, if_neg (h x (by simp)), ih (fun y hy => h y (by simp [hy]))]
/-- A path's names. -/
def split (p : List UInt8) : Option (List (List UInt8)) :=
  if p = [47] then some [] else match p with
  | [] => none
  | x :: l => if x = 47 ∧ (pieces l).all right = true ∧ (pieces l).length ≤ 8 then some (pieces l) else none
/-- Names' path. -/
def pathOf (ns : List (List UInt8)) : List UInt8 := if ns = [] then [47] else (ns.map (47 :: ·)).flatten
def join (ns : List (List UInt8)) : Option (List UInt8) := if ns.length ≤ 8 ∧ ns.all right = true then some (pathOf ns) else none
theorem right_none {c : List UInt8} (h : right c = true) : ∀ x ∈ c, x ≠ 47 := by
  intro x hx e
  unfold right at h
  simp only [Bool.and_eq_true, List.all_eq_true] at h
  have := h.1.1.1.1 x hx
  subst e; simp at this
theorem right_ne {c : List UInt8} (h : right c = true) : c ≠ [] := by
  rintro rfl; simp [right] at h
/-- The pieces of a path are its names. -/
theorem pieces_flat {n : List UInt8} {ns : List (List UInt8)} (h : ∀ c ∈ n :: ns, right c = true) : pieces (n ++ (ns.map (47 :: ·)).flatten) = n :: ns := by
  induction ns generalizing n with
  | nil => rw [List.map_nil, List.flatten_nil, List.append_nil]; exact pieces_none (right_none (h n (by simp)))
  | cons m ns ih =>
    rw [List.map_cons, List.flatten_cons, List.cons_append, pieces_cut (right_none (h n (by simp))), ih (fun c hc => h c (by simp [List.mem_cons] at hc ⊢; exact .inr hc))]
theorem flat_pieces (l : List UInt8) : 47 :: l = ((pieces l).map (47 :: ·)).flatten := by
  induction l with
  | nil => rfl
  | cons x l ih =>
    unfold pieces
    split
    · rename_i hx
      subst hx
      rw [List.map_cons, List.flatten_cons, ← ih]; rfl
    · cases hp : pieces l with
      | nil => exact absurd hp (pieces_ne l)
      | cons c cs =>
        rw [hp] at ih
        simp only [List.map_cons, List.flatten_cons, List.cons_append, List.cons.injEq, true_and] at ih ⊢
        exact ih
/-- What was split is joined. -/
theorem join_split {p : List UInt8} {ns : List (List UInt8)} (h : split p = some ns) : join ns = some p := by
  unfold split at h
  split at h
  · rename_i hp
    cases h; subst hp; rfl
  · split at h
    · cases h
    · rename_i x l _
      split at h
      · rename_i hx
        obtain ⟨rfl, hr, hl⟩ := hx
        cases h
        unfold join pathOf
        rw [if_pos ⟨hl, hr⟩, if_neg (pieces_ne l), ← flat_pieces]
      · cases h
/-- What was joined is split. -/
theorem split_join {ns : List (List UInt8)} {p : List UInt8} (h : join ns = some p) : split p = some ns := by
  unfold join at h
  split at h
  · rename_i hx
    obtain ⟨hl, hr⟩ := hx
    cases h
    cases ns with
    | nil => rfl
    | cons n ns =>
      have hr' : ∀ c ∈ n :: ns, right c = true := List.all_eq_true.1 hr
      have e : pathOf (n :: ns) = 47 :: (n ++ (ns.map (47 :: ·)).flatten) := by
        unfold pathOf; rw [if_neg (by simp), List.map_cons, List.flatten_cons]; rfl
      rw [e]
      unfold split
      rw [if_neg (by
        intro h2
        have h3 := congrArg List.tail h2
        simp only [List.tail_cons] at h3
        exact right_ne (hr' n (by simp)) (List.append_eq_nil_iff.1 h3).1)]
      show (if _ then _ else _) = _
      rw [pieces_flat hr', if_pos ⟨rfl, hr, hl⟩]
  · cases h
theorem split_top : split [47] = some [] := by unfold split; rw [if_pos rfl]
/-- Is b within a? -/
def within (a b : List UInt8) : Bool := match split a, split b with
  | some x, some y => x.isPrefixOf y
  | _, _ => false
/-- So much of a row from a place on. -/
def seg (p : List UInt8) (f i : Nat) : List UInt8 := (p.drop f).take (i - f)
theorem seg_none {p : List UInt8} {f i : Nat} (h : ∀ j, f ≤ j → j < i → p.getD j 0 ≠ 47) : ∀ x ∈ seg p f i, x ≠ 47 := by
  intro x hx
  unfold seg at hx
  obtain ⟨k, hk, rfl⟩ := List.getElem_of_mem hx
  rw [List.length_take, List.length_drop] at hk
  have := h (f + k) (by omega) (by omega)
  rw [List.getD, List.getElem?_eq_getElem (by omega)] at this
  simpa using this
theorem seg_cut {p : List UInt8} {f i : Nat} (hf : f ≤ i) (hi : i < p.length) (hp : p.getD i 0 = 47) : p.drop f = seg p f i ++ 47 :: p.drop (i + 1) := by
  unfold seg
  have h1 : p.drop i = 47 :: p.drop (i + 1) := by
    rw [List.drop_eq_getElem_cons hi]
    rw [List.getD, List.getElem?_eq_getElem hi] at hp
    simp only [Option.getD_some] at hp
    rw [hp]
  rw [← h1, show i = f + (i - f) from by omega, ← List.drop_drop, show f + (i - f) - f = i - f from by omega, List.take_append_drop]
theorem seg_end {p : List UInt8} {f : Nat} : p.drop f = seg p f p.length := by
  unfold seg
  rw [List.take_of_length_le (by rw [List.length_drop]; omega)]
/-- How far the splitting has come: what is out, where the piece begins, how far it is looked at. -/
structure At (p : List UInt8) (f i : Nat) (out : List (List UInt8)) : Prop where
  one : 1 ≤ f
  le : f ≤ i
  len : i ≤ p.length
  none : ∀ j, f ≤ j → j < i → p.getD j 0 ≠ 47
  all : pieces (p.drop 1) = out ++ pieces (p.drop f)
theorem At.start {p : List UInt8} (h : 1 ≤ p.length) : At p 1 1 [] := ⟨Nat.le_refl _, Nat.le_refl _, h, fun j h1 h2 => by omega, rfl⟩
theorem At.more {p : List UInt8} {f i : Nat} {out : List (List UInt8)} (h : At p f i out) (hi : i < p.length) (hp : p.getD i 0 ≠ 47) : At p f (i + 1) out :=
  ⟨h.one, by have := h.le; omega, hi, fun j h1 h2 => by
    rcases Nat.eq_or_lt_of_le (Nat.le_of_lt_succ h2) with e | e
    · rw [e]; exact hp
    · exact h.none j h1 e, h.all⟩
theorem At.cut {p : List UInt8} {f i : Nat} {out : List (List UInt8)} (h : At p f i out) (hi : i < p.length) (hp : p.getD i 0 = 47) : At p (i + 1) (i + 1) (out ++ [seg p f i]) :=
  ⟨by omega, Nat.le_refl _, hi, fun j h1 h2 => by omega, by
    rw [h.all, seg_cut h.le hi hp, pieces_cut (seg_none h.none), List.append_assoc]; rfl⟩
theorem At.last {p : List UInt8} {f : Nat} {out : List (List UInt8)} (h : At p f p.length out) : pieces (p.drop 1) = out ++ [seg p f p.length] := by
  rw [h.all, seg_end, pieces_none (seg_none h.none)]
/-- A piece that is looked at is one of them. -/
theorem At.mem {p : List UInt8} {f i : Nat} {out : List (List UInt8)} (h : At p f i out) (hi : i = p.length ∨ p.getD i 0 = 47) : seg p f i ∈ pieces (p.drop 1) := by
  by_cases h2 : i < p.length
  · have hp : p.getD i 0 = 47 := by rcases hi with e | e; omega; exact e
    rw [(h.cut h2 hp).all]; simp
  · obtain rfl : i = p.length := by have := h.len; omega
    rw [h.last]; simp
/-- What Split answers, of a row that begins with 47 and is not that alone. -/
theorem split_is {p : List UInt8} (h0 : p.getD 0 0 = 47) (hl : 1 ≤ p.length) (h1 : p ≠ [47]) : split p = if (pieces (p.drop 1)).all right = true ∧ (pieces (p.drop 1)).length ≤ 8 then some (pieces (p.drop 1)) else none := by
  cases p with
  | nil => simp at hl
  | cons x l =>
    simp only [List.getD_cons_zero] at h0
    subst h0
    unfold split
    rw [if_neg h1]
    simp
theorem split_no {p : List UInt8} (h1 : p ≠ [47]) (h : p.length = 0 ∨ p.getD 0 0 ≠ 47) : split p = none := by
  unfold split
  rw [if_neg h1]
  cases p with
  | nil => rfl
  | cons x l =>
    simp only [List.getD_cons_zero, List.length_cons] at h
    show (if _ then _ else _) = _
    rw [if_neg (by rintro ⟨e, _⟩; rcases h with h | h; omega; exact h e)]
end Nm
