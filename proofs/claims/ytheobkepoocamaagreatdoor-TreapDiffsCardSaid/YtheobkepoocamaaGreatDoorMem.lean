/- Trees of pairs in memory. -/
import Derived.Test.YtheobkepoocamaaGreatDoorProg
import Derived.Test.YtheobkepoocamaaGreatDoorTr
import Derived.Test.YtheobkepoocamaaGreatDoorLess
import Derived.Test.YtheobkepoocamaaGreatDoorSpec
import Derived.WalkKit
import Derived.WalkSpells
import Derived.WalkLawsBesides
import Derived.Below
import Derived.Lib.Hide
import Derived.Deep.RegionHeld3
import Derived.Deep.QuietTactic
import Derived.Deep.LoopGhost
import Derived.BigQuiet
import Derived.IntWalk
namespace Go.Proofs.YtheobkepoocamaaGreatDoor
set_option maxRecDepth 100000
open Go.RowKit Go.Less
/-- A key's rank. -/
def rk (k : ByteArray) : ByteArray := ⟨(Sha.sha (2 :: [k].flatMap fun s => Sha.num s.size 4 ++ s.data.toList)).toArray⟩
/-- The name of a tree of a key, its value, two trees' names. -/
def jn (k v a b : ByteArray) : ByteArray := ⟨(Sha.sha (1 :: [k, v, a, b].flatMap fun s => Sha.num s.size 4 ++ s.data.toList)).toArray⟩
abbrev Tt := Tr.T ByteArray ByteArray
def nm (t : Tt) : ByteArray := t.name ⟨#[]⟩ jn
theorem nm_size (t : Tt) : (nm t).size ≤ 32 := by
  cases t with
  | leaf => exact Nat.zero_le _
  | node l k v r => exact Nat.le_of_eq rfl
theorem rk_size (k : ByteArray) : (rk k).size = 32 := rfl
theorem nm_leaf : nm .leaf = ⟨#[]⟩ := rfl
theorem nm_node (l : Tt) (k v : ByteArray) (r : Tt) : nm (.node l k v r) = jn k v (nm l) (nm r) := rfl
/-- A block's first cell. Closed to the walk's simp. -/
def ap : Option Nat → Option Addr
  | none => none
  | some b => some ⟨b, 0, none⟩
abbrev pv (p : Option Nat) : Value := .pointer (ap p)
def ncells (k v : ByteArray) (n : ByteArray) (c : Nat) (pl pr : Option Nat) : Array Value := #[.string k, .string (rk k), .string v, .string n, .int .i64 (c : Int), pv pl, pv pr]
/-- A pointer to a tree. -/
def Tree (w : World) : Option Nat → Tt → Prop
  | p, .leaf => p = none
  | p, .node l k v r => ∃ b pl pr, p = some b ∧ w.heap[b]? = some (.cells (ncells k v (nm (.node l k v r)) (Tr.T.len (.node l k v r)) pl pr) 56 (0, 0)) ∧ k.size ≤ 100 ∧ v.size ≤ 200 ∧ Tree w pl l ∧ Tree w pr r
theorem lt_of_obj {w : World} {b : Nat} {o : Obj} (h : w.heap[b]? = some o) : b < w.heap.size := (Array.getElem?_eq_some_iff.1 h).1
theorem Tree.below {w w' : World} (hb : Below w.heap.size w w') : ∀ {t : Tt} {p : Option Nat}, Tree w p t → Tree w' p t
  | .leaf, _, h => h
  | .node _ _ _ _, _, ⟨b, pl, pr, e, hc, hk, hv, hl, hr⟩ => ⟨b, pl, pr, e, (hb.block b (lt_of_obj hc)).trans hc, hk, hv, Tree.below hb hl, Tree.below hb hr⟩
theorem pv_inj {a b : Option Nat} (h : pv a = pv b) : a = b := by
  cases a <;> cases b <;> simp [pv, ap] at h ⊢
  exact h
theorem Tree.inj {w : World} : ∀ {t u : Tt} {p : Option Nat}, Tree w p t → Tree w p u → t = u
  | .leaf, .leaf, _, _, _ => rfl
  | .leaf, .node _ _ _ _, _, h, ⟨_, _, _, e, _⟩ => by rw [show _ = none from h] at e; cases e
  | .node _ _ _ _, .leaf, _, ⟨_, _, _, e, _⟩, h => by rw [show _ = none from h] at e; cases e
  | .node l k v r, .node l' k' v' r', _, ⟨b, pl, pr, e, hc, _, _, hl, hr⟩, ⟨b', pl', pr', e', hc', _, _, hl', hr'⟩ => by
    rw [e] at e'
    injection e' with e'
    subst e'
    rw [hc] at hc'
    injection hc' with hc'
    injection hc' with hc' _
    unfold ncells at hc'
    have hc' := congrArg Array.toList hc'
    simp only [List.cons.injEq, Value.string.injEq, and_true] at hc'
    obtain ⟨e1, _, e2, _, _, e3, e4⟩ := hc'
    obtain rfl := pv_inj e3
    obtain rfl := pv_inj e4
    rw [e1, e2, Tree.inj hl hl', Tree.inj hr hr']
theorem tree_none {w : World} {t : Tt} (h : Tree w none t) : t = .leaf := by
  cases t with
  | leaf => rfl
  | node l k v r => obtain ⟨b, _, _, e, _⟩ := h; cases e
/-- A tree that isn't empty, cell by cell. -/
structure Node (w : World) (b : Nat) (l : Tt) (k v : ByteArray) (r : Tt) (pl pr : Option Nat) : Prop where
  obj : w.heap[b]? = some (.cells (ncells k v (nm (.node l k v r)) (Tr.T.len (.node l k v r)) pl pr) 56 (0, 0))
  key : k.size ≤ 100
  val : v.size ≤ 200
  left : Tree w pl l
  right : Tree w pr r
theorem Node.tree {w : World} {b : Nat} {l : Tt} {k v : ByteArray} {r : Tt} {pl pr : Option Nat} (h : Node w b l k v r pl pr) : Tree w (some b) (.node l k v r) := ⟨b, pl, pr, rfl, h.obj, h.key, h.val, h.left, h.right⟩
theorem tree_node {w : World} {p : Option Nat} {l : Tt} {k v : ByteArray} {r : Tt} (h : Tree w p (.node l k v r)) : ∃ b pl pr, p = some b ∧ Node w b l k v r pl pr := by
  obtain ⟨b, pl, pr, e, h1, h2, h3, h4, h5⟩ := h
  exact ⟨b, pl, pr, e, ⟨h1, h2, h3, h4, h5⟩⟩
theorem tree_some {w : World} {b : Nat} {t : Tt} (h : Tree w (some b) t) : ∃ l k v r pl pr, t = .node l k v r ∧ Node w b l k v r pl pr := by
  cases t with
  | leaf => cases h
  | node l k v r =>
    obtain ⟨b', pl, pr, e, hn⟩ := tree_node h
    injection e with e
    subst e
    exact ⟨l, k, v, r, pl, pr, rfl, hn⟩
section
variable {w : World} {b : Nat} {l : Tt} {k v : ByteArray} {r : Tt} {pl pr : Option Nat} (h : Node w b l k v r pl pr)
include h
theorem Node.lt : b < w.heap.size := lt_of_obj h.obj
theorem Node.below {w' : World} (hb : Below w.heap.size w w') : Node w' b l k v r pl pr := ⟨(hb.block b h.lt).trans h.obj, h.key, h.val, h.left.below hb, h.right.below hb⟩
theorem Node.cell (j : Nat) : w.cell? ⟨b, j, none⟩ = (ncells k v (nm (.node l k v r)) (Tr.T.len (.node l k v r)) pl pr)[j]? := by simp [World.cell?, h.obj]
theorem Node.c0 : w.cell? ⟨b, 0, none⟩ = some (.string k) := h.cell 0
theorem Node.c1 : w.cell? ⟨b, 1, none⟩ = some (.string (rk k)) := h.cell 1
theorem Node.c2 : w.cell? ⟨b, 2, none⟩ = some (.string v) := h.cell 2
theorem Node.c3 : w.cell? ⟨b, 3, none⟩ = some (.string (nm (.node l k v r))) := h.cell 3
theorem Node.c4 : w.cell? ⟨b, 4, none⟩ = some (.int .i64 ((Tr.T.len (.node l k v r) : Nat) : Int)) := h.cell 4
theorem Node.c5 : w.cell? ⟨b, 5, none⟩ = some (pv pl) := h.cell 5
theorem Node.c6 : w.cell? ⟨b, 6, none⟩ = some (pv pr) := h.cell 6
end
/-- A map: nil, or a struct with the tree's pointer. -/
def IsMap (w : World) (m : Option Nat) (t : Tt) : Prop :=
  match m with
  | none => t = .leaf
  | some b => ∃ p, w.heap[b]? = some (.cells #[pv p] 75 (0, 0)) ∧ Tree w p t
theorem IsMap.below {w w' : World} {m : Option Nat} {t : Tt} (h : IsMap w m t) (hb : Below w.heap.size w w') : IsMap w' m t := by
  cases m with
  | none => exact h
  | some b => obtain ⟨p, h1, h2⟩ := h; exact ⟨p, (hb.block b (lt_of_obj h1)).trans h1, h2.below hb⟩
theorem below_one (w : World) (o : Obj) : Below w.heap.size w (w.alloc o) := (Below.refl _ _).alloc (Nat.le_refl _) o
end Go.Proofs.YtheobkepoocamaaGreatDoor
