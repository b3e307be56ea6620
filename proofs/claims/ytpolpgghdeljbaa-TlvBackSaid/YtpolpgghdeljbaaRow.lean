/- Rows of records: their bytes, cut off, turned. -/
import Derived.Test.YtpolpgghdeljbaaFacts
namespace Tlv
open Crc

def allBytes (xs : List R) : List UInt8 := xs.flatMap bytes
theorem allBytes_append (xs ys : List R) : allBytes (xs ++ ys) = allBytes xs ++ allBytes ys := by unfold allBytes; rw [List.flatMap_append]
theorem allBytes_cons (x : R) (xs : List R) : allBytes (x :: xs) = bytes x ++ allBytes xs := rfl
/-- Records that can be printed, numbered from n on. -/
def Good : Int → List R → Prop
  | _, [] => True
  | n, x :: xs => fits x ∧ x.2.1 = n ∧ Good (n + 1) xs
theorem Good.snoc : ∀ {xs : List R} {n : Int} {x : R}, Good n xs → fits x → x.2.1 = n + xs.length → Good n (xs ++ [x])
  | [], n, x, _, hx, hn => ⟨hx, by simpa using hn, trivial⟩
  | y :: ys, n, x, h, hx, hn => ⟨h.1, h.2.1, Good.snoc h.2.2 hx (by simp at hn; omega)⟩
theorem Good.drop : ∀ {xs : List R} {n : Int} (k : Nat), Good n xs → Good (n + k) (xs.drop k)
  | _, n, 0, h => by simpa using h
  | [], n, k + 1, _ => by simp [Good]
  | y :: ys, n, k + 1, h => by
    have := Good.drop k h.2.2
    rw [List.drop_succ_cons]
    rwa [show n + ((k + 1 : Nat) : Int) = n + 1 + (k : Int) by omega]
theorem Good.take : ∀ {xs : List R} {n : Int} (k : Nat), Good n xs → Good n (xs.take k)
  | _, n, 0, _ => by simp [Good]
  | [], n, k + 1, _ => by simp [Good]
  | y :: ys, n, k + 1, h => ⟨h.1, h.2.1, Good.take k h.2.2⟩
theorem feed_good : ∀ (xs : List R) (n : Int) (m : List UInt8), Good n xs → feed n (allBytes xs ++ m) = (xs ++ (feed (n + xs.length) m).1, (feed (n + xs.length) m).2)
  | [], n, m, _ => by simp [allBytes]
  | x :: xs, n, m, h => by
    obtain ⟨hx, hn, hr⟩ := h
    subst hn
    rw [allBytes_cons, List.append_assoc, feed_bytes x hx, feed_good xs _ m hr, List.length_cons, show x.2.1 + ((xs.length + 1 : Nat) : Int) = x.2.1 + 1 + (xs.length : Int) by omega]
    simp
theorem feed_all (xs : List R) (h : Good 0 xs) : feed 0 (allBytes xs) = (xs, [], (xs.length : Int), 0) := by
  have := feed_good xs 0 [] h
  rw [List.append_nil, feed_nil] at this
  rw [this]; simp
/-- How the bytes part at record k. -/
theorem all_part (xs : List R) (k : Nat) (hk : k < xs.length) : allBytes xs = allBytes (xs.take k) ++ (bytes (xs[k]) ++ allBytes (xs.drop (k + 1))) := by
  have e : xs = xs.take k ++ xs[k] :: xs.drop (k + 1) := by rw [List.getElem_cons_drop, List.take_append_drop]
  conv => lhs; rw [e]
  rw [allBytes_append, allBytes_cons]
theorem all_end (xs : List R) (k : Nat) (hk : k < xs.length) : (allBytes (xs.take (k + 1))).length = (allBytes (xs.take k)).length + (xs[k].2.2.length + 11) := by
  rw [List.take_succ_eq_append_getElem hk, allBytes_append, List.length_append]
  show _ + (bytes xs[k] ++ []).length = _
  rw [List.append_nil, bytes_len]
theorem good_at {xs : List R} {n : Int} (h : Good n xs) (k : Nat) (hk : k < xs.length) : fits xs[k] ∧ xs[k].2.1 = n + k := by
  have := h.drop k
  rw [List.drop_eq_getElem_cons hk] at this
  exact ⟨this.1, this.2.1⟩
/-- Cut off within record k. -/
theorem feed_cut (xs : List R) (h : Good 0 xs) (k j : Nat) (hk : k < xs.length) (h1 : (allBytes (xs.take k)).length ≤ j) (h2 : j < (allBytes (xs.take (k + 1))).length) :
    (feed 0 ((allBytes xs).take j)).1 = xs.take k ∧ (feed 0 ((allBytes xs).take j)).2.2.2 = 0 := by
  rw [all_end xs k hk] at h2
  obtain ⟨hf, hn⟩ := good_at h k hk
  have e : (allBytes xs).take j = allBytes (xs.take k) ++ (bytes xs[k]).take (j - (allBytes (xs.take k)).length) := by
    rw [all_part xs k hk, List.take_append, List.take_of_length_le h1, List.take_append_of_le_length (by rw [bytes_len]; omega)]
  rw [e, feed_good _ 0 _ (h.take k), feed_short _ _ hf _ (by omega)]
  simp
/-- A byte of record k is turned, but for its length. -/
theorem feed_turn (xs : List R) (h : Good 0 xs) (k j : Nat) (hk : k < xs.length) (h1 : (allBytes (xs.take k)).length ≤ j) (h2 : j < (allBytes (xs.take (k + 1))).length)
    (h5 : j - (allBytes (xs.take k)).length ≠ 5) (h6 : j - (allBytes (xs.take k)).length ≠ 6) (t : UInt8) (ht : t ≠ 0) :
    feed 0 ((allBytes xs).set j ((allBytes xs).getD j 0 ^^^ t)) = (xs.take k, [], (k : Int), 8) := by
  rw [all_end xs k hk] at h2
  obtain ⟨hf, hn⟩ := good_at h k hk
  have hl : (bytes xs[k]).length = xs[k].2.2.length + 11 := bytes_len _
  have eg : (allBytes xs).getD j 0 = (bytes xs[k]).getD (j - (allBytes (xs.take k)).length) 0 := by
    rw [all_part xs k hk]
    simp only [List.getD]
    rw [List.getElem?_append_right h1, List.getElem?_append_left (by omega)]
  have e : (allBytes xs).set j ((allBytes xs).getD j 0 ^^^ t) = allBytes (xs.take k) ++ ((bytes xs[k]).set (j - (allBytes (xs.take k)).length) ((bytes xs[k]).getD (j - (allBytes (xs.take k)).length) 0 ^^^ t) ++ allBytes (xs.drop (k + 1))) := by
    rw [eg]
    conv => lhs; arg 1; rw [all_part xs k hk]
    rw [List.set_append_right _ _ h1, List.set_append_left _ _ (by omega)]
  rw [e, feed_good _ 0 _ (h.take k), feed_turned _ _ hf _ (by omega) h5 h6 t ht]
  simp; omega
end Tlv
