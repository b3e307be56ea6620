/- The one tree of some pairs, by rows alone. No walk in it. -/
import Derived.Test.YtheobkepoocamaaGreatDoorMem
namespace Tr
section
variable {α β ρ : Type} [DecidableEq ρ] {lt : α → α → Bool} {rl : ρ → ρ → Bool} {rank : α → ρ}
theorem heap_top (S : Rising rl) (t : T α β) (hs : Sorted lt t.rows) (h : t.Heap rl rank) : t.Top lt rl rank := by
  induction t with
  | leaf => trivial
  | node l k v r ih1 ih2 =>
    have hs' : Sorted lt (l.rows ++ (k, v) :: r.rows) := hs
    obtain ⟨s1, s2, s3, s4⟩ := sorted_parts hs'
    obtain ⟨h1, h2, h3, h4⟩ := h
    refine ⟨fun z hz => ?_, fun z hz => ?_, ih1 s1 h3, ih2 s2 h4⟩
    · have ha := h1 z hz
      unfold ahead
      rw [if_neg (fun e => by rw [e, S.irr] at ha; cases ha)]; exact ha
    · have ha := h2 z hz
      unfold ahead
      split
      · exact s4 z hz
      · rename_i e
        cases hq : rl (rank z.1) (rank k)
        · exact absurd (S.tot _ _ ha hq) e
        · rfl
end
end Tr
namespace Go.Proofs.YtheobkepoocamaaGreatDoor
set_option maxRecDepth 100000
open Go.RowKit Go.Less
abbrev Pr := ByteArray × ByteArray
/-- The tree of some pairs. Closed to the walk's simp. -/
def cn (l : List Pr) : Tt := Tr.canon less rk l
abbrev Srt (l : List Pr) : Prop := Tr.Sorted less l
theorem cn_rows (l : List Pr) : (cn l).rows = l := Tr.canon_rows rising l
theorem cn_len (l : List Pr) : (cn l).len = l.length := by rw [← Tr.T.len_rows, cn_rows]
theorem cn_top {l : List Pr} (h : Srt l) : (cn l).Top less less rk := Tr.heap_top rising _ (by rw [cn_rows]; exact h) (Tr.canon_heap rising l)
theorem cn_of {t : Tt} (hs : Srt t.rows) (ht : t.Top less less rk) : t = cn t.rows := (Tr.canon_of_heap (Tr.top_heap rising rising t hs ht)).symm
theorem cn_nil : cn [] = .leaf := rfl
theorem cn_put {l : List Pr} (h : Srt l) (x y : ByteArray) : (cn l).put less less rk x y = cn (Tr.put less l x y) := by
  obtain ⟨e, p⟩ := Tr.tree_put rising rising (cn l) x y (by rw [cn_rows]; exact h) (cn_top h)
  rw [cn_rows] at e
  have := cn_of (t := (cn l).put less less rk x y) (by rw [e]; exact Tr.sorted_put rising h x y) p
  rw [this, e]
theorem cn_drop {l : List Pr} (h : Srt l) (x : ByteArray) : (cn l).drop less less rk x = cn (Tr.del l x) := by
  obtain ⟨e, p⟩ := Tr.tree_drop rising rising (cn l) x (by rw [cn_rows]; exact h) (cn_top h)
  rw [cn_rows] at e
  have := cn_of (t := (cn l).drop less less rk x) (by rw [e]; exact Tr.sorted_del h x) p
  rw [this, e]
theorem cn_find {l : List Pr} (h : Srt l) (x : ByteArray) : ((cn l).find less x).val = Tr.get l x := by
  have := Tr.find_get rising (cn l) x (by rw [cn_rows]; exact h)
  rw [cn_rows] at this
  exact this
theorem ap_some (b : Nat) : ap (some b) = some ⟨b, 0, none⟩ := rfl
theorem ap_none : ap none = none := rfl
/-- A map in memory, of some pairs. -/
structure Rp (w : World) (m : Option Nat) (l : List Pr) : Prop where
  sorted : Srt l
  map : IsMap w m (cn l)
theorem Rp.below {w w' : World} {m : Option Nat} {l : List Pr} (h : Rp w m l) (hb : Below w.heap.size w w') : Rp w' m l := ⟨h.sorted, h.map.below hb⟩
theorem rp_nil (w : World) : Rp w none [] := ⟨List.Pairwise.nil, rfl⟩
theorem rput_len (l : List Pr) (k v : ByteArray) : (Tr.put less l k v).length ≤ l.length + 1 := by
  induction l with
  | nil => simp [Tr.put]
  | cons x l ih =>
    simp only [Tr.put]
    split
    · simp only [List.length_cons]; exact Nat.succ_le_succ ih
    · simp only [List.length_cons]; exact Nat.succ_le_succ (List.length_filter_le _ (x :: l))
theorem rdel_len (l : List Pr) (k : ByteArray) : (Tr.del l k).length ≤ l.length := List.length_filter_le _ _
end Go.Proofs.YtheobkepoocamaaGreatDoor
