/- Where an entry stands, plainly. No program in it. -/
import Derived.Test.YteieehjggiiljaaNe
namespace Nd
/-- The place of the first one that passes; the length, if there is none. -/
def place (p : En → Bool) : List En → Nat
  | [] => 0
  | x :: l => if p x = true then 0 else place p l + 1
section
variable {p : En → Bool}
theorem place_le (l : List En) : place p l ≤ l.length := by
  induction l with
  | nil => exact Nat.le_refl _
  | cons x l ih => unfold place; split <;> simp only [List.length_cons] <;> omega
theorem place_append (a b : List En) : place p (a ++ b) = if place p a < a.length then place p a else a.length + place p b := by
  induction a with
  | nil => simp [place]
  | cons x a ih =>
    rw [List.cons_append, place, place, ih]
    by_cases h : p x = true
    · rw [if_pos h, if_pos h, if_pos (by simp)]
    · rw [if_neg h, if_neg h, List.length_cons]
      by_cases h2 : place p a < a.length
      · rw [if_pos h2, if_pos (by omega)]
      · rw [if_neg h2, if_neg (by omega)]; omega
theorem place_split {l : List En} {k : Nat} (h : k < l.length) (z : En) : l = l.take k ++ (l.getD k z :: l.drop (k + 1)) := by
  conv => lhs; rw [← List.take_append_drop k l]
  rw [List.drop_eq_getElem_cons h]
  simp [List.getD, List.getElem?_eq_getElem h]
theorem place_more {l : List En} {k : Nat} {z : En} (h : place p (l.take k) = k) (hk : k < l.length) (hp : p (l.getD k z) = false) : place p (l.take (k + 1)) = k + 1 := by
  have e : l.take (k + 1) = l.take k ++ [l.getD k z] := by
    rw [List.take_succ_eq_append_getElem hk]; simp [List.getD, List.getElem?_eq_getElem hk]
  have hl : (l.take k).length = k := by rw [List.length_take]; omega
  rw [e, place_append, if_neg (by omega), hl, place, hp]; rfl
theorem place_hit {l : List En} {k : Nat} {z : En} (h : place p (l.take k) = k) (hk : k < l.length) (hp : p (l.getD k z) = true) : place p l = k := by
  have hl : (l.take k).length = k := by rw [List.length_take]; omega
  rw [place_split hk z, place_append, if_neg (by omega), hl, place, hp]; rfl
theorem place_end {l : List En} (h : place p (l.take l.length) = l.length) : place p l = l.length := by rwa [List.take_length] at h
end
theorem find_place (l : List En) (k : ByteArray) (z : En) : find l k = if place (fun x => decide (x.1 = k)) l < l.length then some (l.getD (place (fun x => decide (x.1 = k)) l) z).2 else none := by
  induction l with
  | nil => rfl
  | cons x l ih =>
    by_cases h : x.1 = k
    · have e : place (fun x => decide (x.1 = k)) (x :: l) = 0 := by rw [place, if_pos (decide_eq_true h)]
      rw [find, if_pos h, e, if_pos (by simp)]; rfl
    · have e : place (fun x => decide (x.1 = k)) (x :: l) = place (fun x => decide (x.1 = k)) l + 1 := by rw [place, if_neg (by simpa using h)]
      rw [find, if_neg h, ih, e, List.length_cons]
      by_cases h2 : place (fun x => decide (x.1 = k)) l < l.length
      · rw [if_pos h2, if_pos (by omega)]; rfl
      · rw [if_neg h2, if_neg (by omega)]
theorem find_is (l : List En) (k : ByteArray) : (find l k).isSome = decide (place (fun x => decide (x.1 = k)) l < l.length) := by
  rw [find_place l k (k, 0)]
  by_cases h : place (fun x => decide (x.1 = k)) l < l.length
  · rw [if_pos h, decide_eq_true h]; rfl
  · rw [if_neg h, decide_eq_false h]; rfl
theorem cut_place (l : List En) (k : ByteArray) : cut l k = l.take (place (fun x => decide (x.1 = k)) l) ++ l.drop (place (fun x => decide (x.1 = k)) l + 1) := by
  induction l with
  | nil => rfl
  | cons x l ih =>
    rw [cut, place]
    by_cases h : x.1 = k
    · rw [if_pos h, if_pos (by simpa using h)]; rfl
    · rw [if_neg h, if_neg (by simpa using h), ih]; rfl
theorem ins_place (lt : ByteArray → ByteArray → Bool) (l : List En) (k : ByteArray) (i : Int) : ins lt l k i = l.take (place (fun x => !lt x.1 k) l) ++ (k, i) :: l.drop (place (fun x => !lt x.1 k) l) := by
  induction l with
  | nil => rfl
  | cons x l ih =>
    rw [ins, place]
    by_cases h : lt x.1 k = true
    · rw [if_pos h, if_neg (by simp [h]), ih]; rfl
    · rw [if_neg h, if_pos (by simpa using h)]; rfl
end Nd
