/- A file's bytes, plainly: cut into chunks, put, cut off, asked, copied. -/
namespace Chk
/-- The byte of a place; nought behind the end. -/
def b (l : List UInt8) (i : Nat) : UInt8 := l.getD i 0
theorem ext {l m : List UInt8} (hl : l.length = m.length) (h : ∀ i, i < l.length → b l i = b m i) : l = m := by
  apply List.ext_getElem hl
  intro i h1 h2
  have := h i h1
  unfold b at this
  rwa [List.getD, List.getD, List.getElem?_eq_getElem h1, List.getElem?_eq_getElem h2] at this
/-- So many bytes, by a rule. -/
def rule (n : Nat) (f : Nat → UInt8) : List UInt8 := (List.range n).map f
theorem rule_length (n : Nat) (f : Nat → UInt8) : (rule n f).length = n := by unfold rule; rw [List.length_map, List.length_range]
theorem rule_b {n i : Nat} (f : Nat → UInt8) (h : i < n) : b (rule n f) i = f i := by
  unfold b rule
  rw [List.getD, List.getElem?_map, List.getElem?_range h]; rfl
theorem rule_is {l : List UInt8} {n : Nat} {f : Nat → UInt8} (hl : l.length = n) (h : ∀ i, i < n → b l i = f i) : l = rule n f :=
  ext (by rw [rule_length]; exact hl) fun i hi => by rw [h i (by omega), rule_b f (by omega)]
theorem rule_succ (n : Nat) (f : Nat → UInt8) : rule (n + 1) f = rule n f ++ [f n] := by unfold rule; rw [List.range_succ, List.map_append]; rfl
theorem b_over {l : List UInt8} {i : Nat} (h : l.length ≤ i) : b l i = 0 := by unfold b; rw [List.getD, List.getElem?_eq_none h]; rfl
theorem b_append_left {l m : List UInt8} {i : Nat} (h : i < l.length) : b (l ++ m) i = b l i := by unfold b; rw [List.getD, List.getD, List.getElem?_append_left h]
theorem b_append_right {l m : List UInt8} {i : Nat} (h : l.length ≤ i) : b (l ++ m) i = b m (i - l.length) := by unfold b; rw [List.getD, List.getD, List.getElem?_append_right h]
theorem b_set {l : List UInt8} {k i : Nat} {v : UInt8} (h : k < l.length) : b (l.set k v) i = if i = k then v else b l i := by
  unfold b
  by_cases hi : i = k
  · subst hi; rw [if_pos rfl, List.getD, List.getElem?_set_self h]; rfl
  · rw [if_neg hi, List.getD, List.getD, List.getElem?_set_ne (by omega)]
theorem b_drop (l : List UInt8) (k i : Nat) : b (l.drop k) i = b l (k + i) := by unfold b; rw [List.getD, List.getD, List.getElem?_drop]
theorem b_take {l : List UInt8} {k i : Nat} (h : i < k) : b (l.take k) i = b l i := by unfold b; rw [List.getD, List.getD, List.getElem?_take, if_pos h]

/-- Cut off, or filled up. -/
def trunc (l : List UInt8) (n : Nat) : List UInt8 := rule n (b l)
/-- Put. -/
def put (l : List UInt8) (off : Nat) (d : List UInt8) : List UInt8 := if d = [] then l else rule (max l.length (off + d.length)) fun i => if off ≤ i ∧ i < off + d.length then b d (i - off) else b l i
/-- Those of n bytes that there are. -/
def get (l : List UInt8) (off n : Nat) : List UInt8 := rule (min n (l.length - off)) fun i => b l (off + i)
theorem get_take (l : List UInt8) (off n : Nat) : get l off n = (l.drop off).take n :=
  (rule_is (by rw [List.length_take, List.length_drop]) fun i hi => by rw [b_take (by omega), b_drop]).symm
theorem put_nil (l : List UInt8) (off : Nat) : put l off [] = l := by unfold put; rw [if_pos rfl]
theorem put_is {l d : List UInt8} {off : Nat} (h : d ≠ []) : put l off d = rule (max l.length (off + d.length)) fun i => if off ≤ i ∧ i < off + d.length then b d (i - off) else b l i := by unfold put; rw [if_neg h]
theorem put_length {l d : List UInt8} {off : Nat} (h : d ≠ []) : (put l off d).length = max l.length (off + d.length) := by rw [put_is h, rule_length]
theorem put_b {l d : List UInt8} {off i : Nat} (h : d ≠ []) (hi : i < max l.length (off + d.length)) : b (put l off d) i = if off ≤ i ∧ i < off + d.length then b d (i - off) else b l i := by
  rw [put_is h, rule_b _ hi]
theorem trunc_length (l : List UInt8) (n : Nat) : (trunc l n).length = n := rule_length _ _
theorem trunc_b {l : List UInt8} {n i : Nat} (h : i < n) : b (trunc l n) i = b l i := rule_b _ h
theorem trunc_same (l : List UInt8) : trunc l l.length = l := (rule_is rfl fun _ _ => rfl).symm
theorem get_length (l : List UInt8) (off n : Nat) : (get l off n).length = min n (l.length - off) := rule_length _ _
theorem get_b {l : List UInt8} {off n i : Nat} (h : i < min n (l.length - off)) : b (get l off n) i = b l (off + i) := rule_b _ h
/-- What was put is got. -/
theorem get_put (l d : List UInt8) (off : Nat) (ho : d = [] → True) : get (put l off d) off d.length = d := by
  by_cases hd : d = []
  · subst hd
    exact ext (by rw [get_length]; simp) fun i hi => by rw [get_length] at hi; simp at hi
  · have hp := put_length (l := l) (off := off) hd
    refine ext (by rw [get_length, hp]; omega) fun i hi => ?_
    rw [get_length, hp] at hi
    rw [get_b (by rw [hp]; exact hi), put_b hd (by omega), if_pos (by omega), show off + i - off = i from by omega]
/-- Some bytes of the row are set, so far. -/
def puts (l : List UInt8) (off : Nat) (d : List UInt8) (k : Nat) : List UInt8 := rule (max l.length (off + d.length)) fun i => if off ≤ i ∧ i < off + k then b d (i - off) else b l i
theorem puts_length (l d : List UInt8) (off k : Nat) : (puts l off d k).length = max l.length (off + d.length) := rule_length _ _
theorem puts_zero (l d : List UInt8) (off : Nat) : puts l off d 0 = trunc l (max l.length (off + d.length)) := by
  unfold puts trunc
  exact congrArg _ (funext fun i => by rw [if_neg (by omega)])
theorem puts_step (l d : List UInt8) (off : Nat) {k : Nat} (hk : k < d.length) : puts l off d (k + 1) = (puts l off d k).set (off + k) (b d k) := by
  refine (rule_is (by rw [List.length_set, puts_length]) fun i hi => ?_).symm
  rw [b_set (by rw [puts_length]; omega)]
  by_cases h : i = off + k
  · subst h; rw [if_pos rfl, if_pos (by omega), show off + k - off = k from by omega]
  · rw [if_neg h]
    unfold puts
    rw [rule_b _ hi]
    by_cases h2 : off ≤ i ∧ i < off + k
    · rw [if_pos h2, if_pos (by omega)]
    · rw [if_neg h2, if_neg (by omega)]
theorem puts_all {l d : List UInt8} {off : Nat} (h : d ≠ []) : puts l off d d.length = put l off d := by rw [put_is h]; rfl
theorem trunc_succ (l : List UInt8) {n : Nat} (h : l.length ≤ n) : trunc l (n + 1) = trunc l n ++ [0] := by
  unfold trunc; rw [rule_succ, b_over h]

/-- The chunks. -/
def cut (l : List UInt8) : List (List UInt8) := match l with
  | [] => []
  | x :: l => (x :: l).take 16 :: cut ((x :: l).drop 16)
  termination_by l.length
  decreasing_by rw [List.length_drop, List.length_cons]; omega
theorem cut_nil : cut [] = [] := by rw [cut]
theorem cut_cons {l : List UInt8} (h : l ≠ []) : cut l = l.take 16 :: cut (l.drop 16) := by
  cases l with
  | nil => exact absurd rfl h
  | cons x l => rw [cut]
theorem cut_join (l : List UInt8) : (cut l).flatten = l := by
  induction l using cut.induct with
  | case1 => rw [cut_nil]; rfl
  | case2 x l ih => rw [cut_cons (by simp), List.flatten_cons, ih, List.take_append_drop]
theorem cut_length (l : List UInt8) : (cut l).length = (l.length + 15) / 16 := by
  induction l using cut.induct with
  | case1 => rw [cut_nil]; rfl
  | case2 x l ih => rw [cut_cons (by simp), List.length_cons, ih, List.length_drop, List.length_cons]; omega
theorem cut_get {l : List UInt8} {k : Nat} (h : k < (cut l).length) : (cut l)[k] = (l.drop (16 * k)).take 16 := by
  induction k generalizing l with
  | zero =>
    have hl : l ≠ [] := by rintro rfl; simp [cut_nil] at h
    simp only [cut_cons hl, List.getElem_cons_zero, Nat.mul_zero, List.drop_zero]
  | succ k ih =>
    have hl : l ≠ [] := by rintro rfl; simp [cut_nil] at h
    have h' : k < (cut (l.drop 16)).length := by
      have := cut_length l
      have := cut_length (l.drop 16)
      rw [List.length_drop] at this
      omega
    simp only [cut_cons hl, List.getElem_cons_succ]
    rw [ih h', List.drop_drop, show 16 + 16 * k = 16 * (k + 1) from by omega]
/-- One byte more: a new chunk, or one byte more of the last one. -/
theorem cut_new {l : List UInt8} (h : l.length % 16 = 0) (x : UInt8) : cut (l ++ [x]) = cut l ++ [[x]] := by
  induction l using cut.induct with
  | case1 => rw [List.nil_append, cut_cons (by simp), cut_nil]; simp [cut_nil]
  | case2 y l ih =>
    have hl : 16 ≤ (y :: l).length := by have : 0 < (y :: l).length := by simp
                                         omega
    rw [cut_cons (l := y :: l ++ [x]) (by simp), cut_cons (l := y :: l) (by simp), List.take_append_of_le_length hl, List.drop_append_of_le_length hl, ih (by rw [List.length_drop]; omega)]; rfl
theorem cut_more {l : List UInt8} (h : l.length % 16 ≠ 0) (x : UInt8) : ∃ cs c, cut l = cs ++ [c] ∧ cut (l ++ [x]) = cs ++ [c ++ [x]] := by
  induction l using cut.induct with
  | case1 => exact absurd rfl h
  | case2 y l ih =>
    by_cases hl : 16 ≤ (y :: l).length
    · obtain ⟨cs, c, h1, h2⟩ := ih (by rw [List.length_drop]; omega)
      refine ⟨(y :: l).take 16 :: cs, c, ?_, ?_⟩
      · rw [cut_cons (by simp), h1]; rfl
      · rw [cut_cons (l := y :: l ++ [x]) (by simp), List.take_append_of_le_length hl, List.drop_append_of_le_length hl, h2]; rfl
    · refine ⟨[], y :: l, ?_, ?_⟩
      · rw [cut_cons (by simp), List.take_of_length_le (by omega), List.drop_eq_nil_of_le (by omega), cut_nil]; rfl
      · rw [cut_cons (l := y :: l ++ [x]) (by simp), List.take_of_length_le (by rw [List.length_append]; simp at hl ⊢; omega), List.drop_eq_nil_of_le (by rw [List.length_append]; simp at hl ⊢; omega), cut_nil]; rfl
/-- Noughts alone? -/
def blank (l : List UInt8) : Bool := l.all (· == 0)
theorem blank_take {l : List UInt8} {k : Nat} (h : k < l.length) : blank (l.take (k + 1)) = (blank (l.take k) && (l.getD k 0 == 0)) := by
  unfold blank
  rw [List.take_succ_eq_append_getElem h, List.all_append, List.getD, List.getElem?_eq_getElem h]
  simp
theorem blank_no {l : List UInt8} {k : Nat} (h : k < l.length) (h0 : l.getD k 0 ≠ 0) : blank l = false := by
  unfold blank
  rw [List.all_eq_false]
  refine ⟨l[k], List.getElem_mem h, ?_⟩
  rw [List.getD, List.getElem?_eq_getElem h] at h0
  simpa using h0
theorem blank_zeros {l : List UInt8} (h : blank l = true) : l = List.replicate l.length 0 := by
  rw [List.eq_replicate_iff]
  refine ⟨rfl, fun x hx => ?_⟩
  have := List.all_eq_true.1 h x hx
  simpa using this
end Chk
