/- A text read entry by entry, plainly. No program in it. -/
import Derived.Test.YteieehjggiiljaaOk
namespace Nd
/-- A number's bytes read, the highest first. -/
def val (l : List UInt8) : Nat := l.foldl (fun a c => a * 256 + c.toNat) 0
theorem val_snoc (l : List UInt8) (c : UInt8) : val (l ++ [c]) = val l * 256 + c.toNat := by unfold val; rw [List.foldl_append]; rfl
theorem val_lt (l : List UInt8) : val l < 256 ^ l.length := by
  induction l using snoc_rec with
  | nil => decide
  | append_singleton l c ih =>
    have := c.toNat_lt
    rw [val_snoc, List.length_append, List.length_singleton, Nat.pow_succ]
    omega
theorem v4_val {l : List UInt8} (h : l.length = 4) : v4 l = val l := by
  match l, h with
  | [a, b, c, d], _ => simp [v4, val]
/-- How far a text's entries have been read. -/
structure EAt (r : List UInt8) (i : Nat) (es : List En) : Prop where
  le : i ≤ r.length
  all : ents r = (ents (r.drop i)).map (es ++ ·)
theorem EAt.start (r : List UInt8) : EAt r 0 [] := ⟨Nat.zero_le _, by rw [List.drop_zero]; cases ents r <;> simp⟩
theorem EAt.stop {r : List UInt8} {i : Nat} {es : List En} (h : EAt r i es) (hi : i < r.length) (hb : r.length < i + 1 + (r.getD i 0).toNat + 4) : ents r = none := by
  rw [h.all, List.drop_eq_getElem_cons hi, ents]
  rw [List.getD, List.getElem?_eq_getElem hi, Option.getD_some] at hb
  rw [if_neg (by rw [List.length_drop]; omega)]; rfl
theorem EAt.more {r : List UInt8} {i : Nat} {es : List En} (h : EAt r i es) (hi : i < r.length) (hb : i + 1 + (r.getD i 0).toNat + 4 ≤ r.length) :
    EAt r (i + (r.getD i 0).toNat + 5) (es ++ [(Nd.mk ((r.drop (i + 1)).take (r.getD i 0).toNat), (val ((r.drop (i + 1 + (r.getD i 0).toNat)).take 4) : Int))]) := by
  refine ⟨by omega, ?_⟩
  have hall := h.all
  rw [List.drop_eq_getElem_cons hi, ents] at hall
  have e : r[i] = r.getD i 0 := by rw [List.getD, List.getElem?_eq_getElem hi]; rfl
  rw [e, if_pos (by rw [List.length_drop]; omega), List.drop_drop, List.drop_drop] at hall
  rw [hall, v4_val (by rw [List.length_take, List.length_drop]; omega), show i + 1 + ((r.getD i 0).toNat + 4) = i + (r.getD i 0).toNat + 5 by omega]
  cases ents (r.drop (i + (r.getD i 0).toNat + 5)) <;> simp
theorem EAt.done {r : List UInt8} {i : Nat} {es : List En} (h : EAt r i es) (hi : i = r.length) : ents r = some es := by
  rw [h.all, hi, List.drop_length, ents]; simp
theorem EAt.long {r : List UInt8} {i : Nat} {es es' : List En} (h : EAt r i es) (hi : i < r.length) (hs : ents r = some es') : es.length < es'.length := by
  rw [h.all, List.drop_eq_getElem_cons hi, ents] at hs
  split at hs
  · cases hd : ents ((r.drop (i + 1)).drop (r[i].toNat + 4)) with
    | none => rw [hd] at hs; cases hs
    | some z => rw [hd] at hs; simp at hs; rw [← hs]; simp
  · cases hs
section
variable {lt : ByteArray → ByteArray → Bool} {nm : List UInt8 → Bool}
theorem parse_short {l : List UInt8} (h : l.length < 3) : parse lt nm l = none := by
  match l, h with
  | [], _ => rfl
  | [_], _ => rfl
  | [_, _], _ => rfl
theorem parse_is {l : List UInt8} (h : 3 ≤ l.length) : parse lt nm l =
    match (if (l.getD 0 0).toNat = 2 then ents (l.drop 3) else some []) with
    | none => none
    | some es => if right lt nm (nodeOf (l.getD 0 0) (l.getD 1 0) (l.getD 2 0) (l.drop 3) es) = true then some (nodeOf (l.getD 0 0) (l.getD 1 0) (l.getD 2 0) (l.drop 3) es) else none := by
  match l, h with
  | a :: b :: c :: r, _ => rfl
theorem parse_no {l : List UInt8} (h : 3 ≤ l.length) (hk : (l.getD 0 0).toNat = 2) (he : ents (l.drop 3) = none) : parse lt nm l = none := by
  rw [parse_is h, if_pos hk, he]
theorem parse_yes {l : List UInt8} (h : 3 ≤ l.length) {es : List En} (he : (if (l.getD 0 0).toNat = 2 then ents (l.drop 3) else some []) = some es) :
    parse lt nm l = if right lt nm (nodeOf (l.getD 0 0) (l.getD 1 0) (l.getD 2 0) (l.drop 3) es) = true then some (nodeOf (l.getD 0 0) (l.getD 1 0) (l.getD 2 0) (l.drop 3) es) else none := by
  rw [parse_is h, he]
end
end Nd
