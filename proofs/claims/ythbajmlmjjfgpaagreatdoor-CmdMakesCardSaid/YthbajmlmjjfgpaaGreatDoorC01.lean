/- A part of the proofs. -/
import Derived.Test.YthbajmlmjjfgpaaGreatDoorProg
import Derived.WalkLawsBesides
import Derived.Below
import Derived.Lib.Hide
import Derived.Deep.RegionHeld3
import Derived.Deep.QuietTactic
import Derived.Deep.LoopGhost
import Derived.BigQuiet
import Derived.IntWalk
import Derived.Test.YthbajmlmjjfgpaaGreatDoorRows
import Derived.BigRegion
import Derived.StillTailTactics
import Derived.Laws.CopyOwn
import Derived.Test.YthbajmlmjjfgpaaGreatDoorC00
set_option maxRecDepth 1000000
set_option maxHeartbeats 16000000
open Go.Lib (hid)
open Go.Proofs.Tryz
namespace Go.Proofs.YthbajmlmjjfgpaaGreatDoor.T8
open Go.RowKit Go.Less
def rk (k : ByteArray) : ByteArray := ⟨(Sha.sha (2 :: [k].flatMap λs => Sha.num s.size 4 ++ s.data.toList)).toArray⟩
def jn (k v a b : ByteArray) : ByteArray := ⟨(Sha.sha (1 :: [k, v, a, b].flatMap λs => Sha.num s.size 4 ++ s.data.toList)).toArray⟩
abbrev Tt := Tr.T ByteArray ByteArray
def nm (t : Tt) : ByteArray := t.name ⟨#[]⟩ jn
theorem nm_size (t : Tt) : (nm t).size <= 32 := by
 cases t with
 | leaf => exact Nat.zero_le _
 | node l k v r => exact Nat.le_of_eq rfl
theorem nm_node (l : Tt) (k v : ByteArray) (r : Tt) : nm (.node l k v r) = jn k v (nm l) (nm r) := rfl
def ap : Option Nat -> Option Addr
 | none => none
 | some b => some ⟨b, 0, none⟩
abbrev pv (p : Option Nat) : Value := .pointer (ap p)
def ncells (k v : ByteArray) (n : ByteArray) (c : Nat) (pl pr : Option Nat) : Array Value := #[.string k, .string (rk k), .string v, .string n, .int .i64 (c : Int), pv pl, pv pr]
def Tree (w : World) : Option Nat -> Tt -> Prop
 | p, .leaf => p = none
 | p, .node l k v r => ∃ b pl pr, p = some b /\ w.heap[b]? = some (.cells (ncells k v (nm (.node l k v r)) (Tr.T.len (.node l k v r)) pl pr) 156 (0, 0)) /\ k.size <= 100 /\ v.size <= 10000 /\ Tree w pl l /\ Tree w pr r
theorem lt_of_obj {w : World} {b : Nat} {o : Obj} (h : w.heap[b]? = some o) : b < w.heap.size := (Array.getElem?_eq_some_iff.1 h).1
theorem Tree.below {w w' : World} (hb : Below w.heap.size w w') : ∀ {t : Tt} {p : Option Nat}, Tree w p t -> Tree w' p t
 | .leaf, _, h => h
 | .node _ _ _ _, _, ⟨b, pl, pr, e, hc, hk, hv, hl, hr⟩ => ⟨b, pl, pr, e, (hb.block b (lt_of_obj hc)).trans hc, hk, hv, Tree.below hb hl, Tree.below hb hr⟩
theorem pv_inj {a b : Option Nat} (h : pv a = pv b) : a = b := by
 cases a <;> cases b <;> simp [pv, ap] at h |-
 exact h
theorem Tree.inj {w : World} : ∀ {t u : Tt} {p : Option Nat}, Tree w p t -> Tree w p u -> t = u
 | .leaf, .leaf, _, _, _ => rfl
 | .leaf, .node _ _ _ _, _, h, ⟨_, _, _, e, _⟩ => by rw [show _ = none from h] at e; cases e
 | .node _ _ _ _, .leaf, _, ⟨_, _, _, e, _⟩, h => by rw [show _ = none from h] at e; cases e
 | .node l k v r, .node l' k' v' r', _, ⟨b, pl, pr, e, hc, _, _, hl, hr⟩, ⟨b', pl', pr', e', hc', _, _, hl', hr'⟩ => by
  rw [e] at e'
  injection e' with e'
  subst e'
  rw [hc] at hc'
  injection hc' with hc'
  injection hc' with hc' _
  unfold ncells at hc'
  have hc' := congrArg Array.toList hc'
  simp only [List.cons.injEq, Value.string.injEq, and_true] at hc'
  obtain ⟨e1, _, e2, _, _, e3, e4⟩ := hc'
  obtain rfl := pv_inj e3
  obtain rfl := pv_inj e4
  rw [e1, e2, Tree.inj hl hl', Tree.inj hr hr']
theorem tree_none {w : World} {t : Tt} (h : Tree w none t) : t = .leaf := by
 cases t with
 | leaf => rfl
 | node l k v r => obtain ⟨b, _, _, e, _⟩ := h; cases e
structure Node (w : World) (b : Nat) (l : Tt) (k v : ByteArray) (r : Tt) (pl pr : Option Nat) : Prop where
 obj : w.heap[b]? = some (.cells (ncells k v (nm (.node l k v r)) (Tr.T.len (.node l k v r)) pl pr) 156 (0, 0))
 key : k.size <= 100
 val : v.size <= 10000
 left : Tree w pl l
 right : Tree w pr r
theorem Node.tree {w : World} {b : Nat} {l : Tt} {k v : ByteArray} {r : Tt} {pl pr : Option Nat} (h : Node w b l k v r pl pr) : Tree w (some b) (.node l k v r) := ⟨b, pl, pr, rfl, h.obj, h.key, h.val, h.left, h.right⟩
theorem tree_node {w : World} {p : Option Nat} {l : Tt} {k v : ByteArray} {r : Tt} (h : Tree w p (.node l k v r)) : ∃ b pl pr, p = some b /\ Node w b l k v r pl pr := by
 obtain ⟨b, pl, pr, e, h1, h2, h3, h4, h5⟩ := h
 exact ⟨b, pl, pr, e, ⟨h1, h2, h3, h4, h5⟩⟩
theorem tree_some {w : World} {b : Nat} {t : Tt} (h : Tree w (some b) t) : ∃ l k v r pl pr, t = .node l k v r /\ Node w b l k v r pl pr := by
 cases t with
 | leaf => cases h
 | node l k v r =>
  obtain ⟨b', pl, pr, e, hn⟩ := tree_node h
  injection e with e
  subst e
  exact ⟨l, k, v, r, pl, pr, rfl, hn⟩
section
variable {w : World} {b : Nat} {l : Tt} {k v : ByteArray} {r : Tt} {pl pr : Option Nat} (h : Node w b l k v r pl pr)
include h
theorem Node.lt : b < w.heap.size := lt_of_obj h.obj
theorem Node.below {w' : World} (hb : Below w.heap.size w w') : Node w' b l k v r pl pr := ⟨(hb.block b h.lt).trans h.obj, h.key, h.val, h.left.below hb, h.right.below hb⟩
theorem Node.cell (j : Nat) : w.cell? ⟨b, j, none⟩ = (ncells k v (nm (.node l k v r)) (Tr.T.len (.node l k v r)) pl pr)[j]? := by simp [World.cell?, h.obj]
theorem Node.c0 : w.cell? ⟨b, 0, none⟩ = some (.string k) := h.cell 0
theorem Node.c1 : w.cell? ⟨b, 1, none⟩ = some (.string (rk k)) := h.cell 1
theorem Node.c2 : w.cell? ⟨b, 2, none⟩ = some (.string v) := h.cell 2
theorem Node.c3 : w.cell? ⟨b, 3, none⟩ = some (.string (nm (.node l k v r))) := h.cell 3
theorem Node.c4 : w.cell? ⟨b, 4, none⟩ = some (.int .i64 ((Tr.T.len (.node l k v r) : Nat) : Int)) := h.cell 4
theorem Node.c5 : w.cell? ⟨b, 5, none⟩ = some (pv pl) := h.cell 5
theorem Node.c6 : w.cell? ⟨b, 6, none⟩ = some (pv pr) := h.cell 6
end
def IsMap (w : World) (m : Option Nat) (t : Tt) : Prop :=
 match m with
 | none => t = .leaf
 | some b => ∃ p, w.heap[b]? = some (.cells #[pv p] 168 (0, 0)) /\ Tree w p t
theorem IsMap.below {w w' : World} {m : Option Nat} {t : Tt} (h : IsMap w m t) (hb : Below w.heap.size w w') : IsMap w' m t := by
 cases m with
 | none => exact h
 | some b => obtain ⟨p, h1, h2⟩ := h; exact ⟨p, (hb.block b (lt_of_obj h1)).trans h1, h2.below hb⟩
theorem below_one (w : World) (o : Obj) : Below w.heap.size w (w.alloc o) := (Below.refl _ _).alloc (Nat.le_refl _) o
end Go.Proofs.YthbajmlmjjfgpaaGreatDoor.T8
namespace Tr
section
variable {α β ρ : Type} [DecidableEq ρ] {lt : α -> α -> Bool} {rl : ρ -> ρ -> Bool} {rank : α -> ρ}
theorem heap_top (S : Rising rl) (t : T α β) (hs : Sorted lt t.rows) (h : t.Heap rl rank) : t.Top lt rl rank := by
 induction t with
 | leaf => trivial
 | node l k v r ih1 ih2 =>
  have hs' : Sorted lt (l.rows ++ (k, v) :: r.rows) := hs
  obtain ⟨s1, s2, s3, s4⟩ := sorted_parts hs'
  obtain ⟨h1, h2, h3, h4⟩ := h
  refine ⟨λz hz => ?_, λz hz => ?_, ih1 s1 h3, ih2 s2 h4⟩
  ·have ha := h1 z hz
   unfold ahead
   rw [if_neg (λe => by rw [e, S.irr] at ha; cases ha)]; exact ha
  ·have ha := h2 z hz
   unfold ahead
   split
   ·exact s4 z hz
   ·rename_i e
    cases hq : rl (rank z.1) (rank k)
    ·exact absurd (S.tot _ _ ha hq) e
    ·rfl
end
end Tr
namespace Go.Proofs.YthbajmlmjjfgpaaGreatDoor.T8
open Go.RowKit Go.Less
abbrev Pr := ByteArray × ByteArray
def cn (l : List Pr) : Tt := Tr.canon less rk l
abbrev Srt (l : List Pr) : Prop := Tr.Sorted less l
theorem cn_rows (l : List Pr) : (cn l).rows = l := Tr.canon_rows rising l
theorem cn_len (l : List Pr) : (cn l).len = l.length := by rw [<- Tr.T.len_rows, cn_rows]
theorem cn_top {l : List Pr} (h : Srt l) : (cn l).Top less less rk := Tr.heap_top rising _ (by rw [cn_rows]; exact h) (Tr.canon_heap rising l)
theorem cn_of {t : Tt} (hs : Srt t.rows) (ht : t.Top less less rk) : t = cn t.rows := (Tr.canon_of_heap (Tr.top_heap rising rising t hs ht)).symm
theorem cn_put {l : List Pr} (h : Srt l) (x y : ByteArray) : (cn l).put less less rk x y = cn (Tr.put less l x y) := by
 obtain ⟨e, p⟩ := Tr.tree_put rising rising (cn l) x y (by rw [cn_rows]; exact h) (cn_top h)
 rw [cn_rows] at e
 have := cn_of (t := (cn l).put less less rk x y) (by rw [e]; exact Tr.sorted_put rising h x y) p
 rw [this, e]
theorem cn_drop {l : List Pr} (h : Srt l) (x : ByteArray) : (cn l).drop less less rk x = cn (Tr.del l x) := by
 obtain ⟨e, p⟩ := Tr.tree_drop rising rising (cn l) x (by rw [cn_rows]; exact h) (cn_top h)
 rw [cn_rows] at e
 have := cn_of (t := (cn l).drop less less rk x) (by rw [e]; exact Tr.sorted_del h x) p
 rw [this, e]
theorem cn_find {l : List Pr} (h : Srt l) (x : ByteArray) : ((cn l).find less x).val = Tr.get l x := by
 have := Tr.find_get rising (cn l) x (by rw [cn_rows]; exact h)
 rw [cn_rows] at this
 exact this
theorem ap_some (b : Nat) : ap (some b) = some ⟨b, 0, none⟩ := rfl
theorem ap_none : ap none = none := rfl
structure Rp (w : World) (m : Option Nat) (l : List Pr) : Prop where
 sorted : Srt l
 map : IsMap w m (cn l)
theorem Rp.below {w w' : World} {m : Option Nat} {l : List Pr} (h : Rp w m l) (hb : Below w.heap.size w w') : Rp w' m l := ⟨h.sorted, h.map.below hb⟩
theorem rp_nil (w : World) : Rp w none [] := ⟨List.Pairwise.nil, rfl⟩
end Go.Proofs.YthbajmlmjjfgpaaGreatDoor.T8
namespace Go.Proofs.YthbajmlmjjfgpaaGreatDoor.T8
open Go.RowKit Go.Less
attribute [local go_sem 9000] sem_eql sem_neq sem_lss sem_leq sem_gtr sem_geq
def Points (t : Tt) (w : World) (e : Ending) (w' : World) : Prop := ∃ p, e = .returned (pv p) /\ Tree w p t /\ w = w'
theorem treeOf_any {w : World} {m : Option Nat} {t : Tt} (h : IsMap w m t) : Calls prog 51 #[pv m] w (Points t w) := by
 cases m with
 | none =>
  show Calls prog 51 #[.pointer none] w _
  go_enter func51, ntmps51
  go_wp2_with fail
  go_ret
  exact ⟨none, rfl, h.symm ▸ rfl, rfl⟩
 | some b =>
  obtain ⟨p, h1, h2⟩ := h
  have c0 : w.cell? ⟨b, 0, none⟩ = some (pv p) := by simp [World.cell?, h1]
  have H := hid h2
  clear h1 h2
  show Calls prog 51 #[.pointer (some ⟨b, 0, none⟩)] w _
  go_enter func51, ntmps51
  go_wp2_with fail
  go_ret
  exact ⟨p, rfl, H.out, rfl⟩
theorem mapOf_any {w : World} {p : Option Nat} {t : Tt} (h : Tree w p t) : Calls prog 144 #[pv p] w λe w' => ∃ m, e = .returned (pv m) /\ IsMap w' m t /\ Below w.heap.size w w' := by
 cases p with
 | none =>
  obtain rfl := tree_none h
  show Calls prog 144 #[.pointer none] w _
  go_enter func144, ntmps144
  go_wp2_with fail
  go_ret
  exact ⟨none, rfl, rfl, Below.refl _ _⟩
 | some b =>
  have H := hid h
  clear h
  show Calls prog 144 #[.pointer (some ⟨b, 0, none⟩)] w _
  go_enter func144, ntmps144
  go_wp2_with fail
  go_ret
  have hw := below_one w (.cells #[.pointer (some ⟨b, 0, none⟩)] 168)
  exact ⟨some w.heap.size, rfl, ⟨some b, heap_alloc_new w _, H.out.below hw⟩, hw⟩
def ld : Tt -> Value
 | .leaf => .agg #[.string ⟨#[]⟩, .string ⟨#[]⟩, .int .i64 0]
 | .node l k v r => .agg #[.string v, .string (nm (.node l k v r)), .int .i64 ((Tr.T.len (.node l k v r) : Nat) : Int)]
theorem zero51 : ∀ w : World, (zeroValue 112).run prog w = .ok (.agg #[.string ⟨#[]⟩, .string ⟨#[]⟩, .int .i64 0]) w := λ_ => by kernel_rfl
theorem loadOf_any {w : World} {p : Option Nat} {t : Tt} (h : Tree w p t) : Calls prog 50 #[pv p] w λe w' => e = .returned (ld t) /\ Below w.heap.size w w' := by
 have hz := zero51
 cases t with
 | leaf =>
  obtain rfl : p = none := h
  show Calls prog 50 #[.pointer none] w _
  go_enter func50, ntmps50
  go_wp2_with fail
  refine bodyPost_ret (v := ld .leaf) (by simp [results, Tryz.results50, go_sem, ld]) rfl ⟨rfl, ?_⟩
  exact (below_one w _).alloc (by simp) _
 | node l k v r =>
  obtain ⟨b, pl, pr, rfl, hN⟩ := tree_node h
  have c2 := hN.c2
  have c3 := hN.c3
  have c4 := hN.c4
  have hlt := hN.lt
  clear hN h
  show Calls prog 50 #[.pointer (some ⟨b, 0, none⟩)] w _
  go_enter func50, ntmps50
  go_wp2_with fail
  refine bodyPost_ret (v := ld (.node l k v r)) (by simp [results, Tryz.results50, go_sem, ld]) rfl ⟨rfl, ?_⟩
  exact below_one w _
def ahd (a b : ByteArray) : Bool := Tr.ahead less less rk a b
theorem ahd_alike {a b : ByteArray} (h : alike (rk a) (rk b) = true) : ahd a b = less a b := by
 unfold ahd Tr.ahead; rw [if_pos (alike_eq.1 h)]
theorem ahd_unlike {a b : ByteArray} (h : alike (rk a) (rk b) = false) : ahd a b = less (rk b) (rk a) := by
 unfold ahd Tr.ahead
 rw [if_neg (λe => by rw [alike_eq.2 e] at h; cases h)]
theorem bdn {B : Nat} {w w1 : World} (h : Below B w w1) (n : Nat) : Below B w (w1.drewN n) := by
 induction n with
 | zero => exact h
 | succ n ih => exact ih.drew
theorem ahead_any {w : World} {b b' : Nat} {l r l' r' : Tt} {k v k' v' : ByteArray} {pl pr pl' pr' : Option Nat} (hN : Node w b l k v r pl pr) (hN' : Node w b' l' k' v' r' pl' pr') :
  Calls prog 196 #[.pointer (some ⟨b, 0, none⟩), .pointer (some ⟨b', 0, none⟩)] w λe w' => e = .returned (.bool (ahd k k')) /\ Below w.heap.size w w' := by
 have c0 := hN.c0
 have c1 := hN.c1
 have c0' := hN'.c0
 have c1' := hN'.c1
 clear hN hN'
 cases hr : alike (rk k) (rk k')
 ·have HA := hid (ahd_unlike hr)
  go_enter func196, ntmps196
  go_wp2_with fail
  go_quiet (fail)
  go_wp2_with fail
  go_quiet (fail)
  go_wp2_with fail
  go_ret
  exact ⟨by rw [HA.out]; rfl, bdn (bdn (Below.refl _ _) _) _⟩
 ·have HA := hid (ahd_alike hr)
  go_enter func196, ntmps196
  go_wp2_with fail
  go_quiet (fail)
  go_wp2_with fail
  go_quiet (fail)
  go_wp2_with fail
  go_ret
  exact ⟨by rw [HA.out]; rfl, bdn (bdn (Below.refl _ _) _) _⟩
theorem find_here {l r : Tt} {k v x : ByteArray} (h : alike k x = true) : (Tr.T.node l k v r).find less x = .node l k v r := by unfold Tr.T.find; rw [if_pos (alike_eq.1 h)]
theorem find_left {l r : Tt} {k v x : ByteArray} (h : alike k x = false) (h2 : less x k = true) : (Tr.T.node l k v r).find less x = l.find less x := by
 conv => lhs; unfold Tr.T.find
 rw [if_neg (λe => by rw [alike_eq.2 e] at h; cases h), if_pos h2]
theorem find_right {l r : Tt} {k v x : ByteArray} (h : alike k x = false) (h2 : less x k = false) : (Tr.T.node l k v r).find less x = r.find less x := by
 conv => lhs; unfold Tr.T.find
 rw [if_neg (λe => by rw [alike_eq.2 e] at h; cases h), if_neg (by simp [h2])]
theorem find_any {w : World} {p : Option Nat} {t : Tt} (h : Tree w p t) (x : ByteArray) : Calls prog 85 #[pv p, .string x] w (Points (t.find less x) w) := by
 have HT := hid h
 go_enter func85, ntmps85
 go_wp2_with fail
 go_loopg [0] t.len (λg p' wr => w = wr /\ ∃ (q : Option Nat) (u : Tt), p' = pv q /\ Tree w q u /\ u.len = g /\ u.find less x = t.find less x)
 case atStart => exact ⟨rfl, p, t, rfl, HT.out, rfl, rfl⟩
 case round =>
  obtain ⟨rfl, q, u, rfl, hu, hg, hf⟩ := hrel
  have HF := hid hf
  clear hf h
  cases u with
  | leaf =>
   obtain rfl : q = none := hu
   clear hg
   simp only [pv, ap]
   go_wp2_with fail
   go_ret
   exact ⟨none, rfl, by rw [<- HF.out]; rfl, rfl⟩
  | node l k v r =>
   obtain ⟨b, pl, pr, rfl, hN⟩ := tree_node hu
   have HN := hid hN
   have HG := hid hg
   have c0 := hN.c0
   have c5 := hN.c5
   have c6 := hN.c6
   clear hN hu hg
   simp only [pv, ap]
   cases hx : alike k x
   ·cases hl : less x k
    ·have HR := hid (find_right (l := l) (r := r) (v := v) hx hl)
     go_wp2_with fail
     go_roundg r.len
     case rel => exact ⟨rfl, pr, r, rfl, HN.out.right, rfl, HR.out.symm.trans HF.out⟩
     case measure => have := HG.out; simp only [Tr.T.len] at this; omega
    ·have HR := hid (find_left (l := l) (r := r) (v := v) hx hl)
     go_wp2_with fail
     go_roundg l.len
     case rel => exact ⟨rfl, pl, l, rfl, HN.out.left, rfl, HR.out.symm.trans HF.out⟩
     case measure => have := HG.out; simp only [Tr.T.len] at this; omega
   ·have HR := hid (find_here (l := l) (r := r) (v := v) hx)
    go_wp2_with fail
    go_ret
    exact ⟨some b, rfl, by rw [<- HF.out, HR.out]; exact HN.out.tree, rfl⟩
end Go.Proofs.YthbajmlmjjfgpaaGreatDoor.T8
namespace Go.Proofs.YthbajmlmjjfgpaaGreatDoor.T8
open Go.RowKit Sha
def u32 (x : BitVec 32) : Int := (x.toNat : Int)
abbrev wv (x : BitVec 32) : Value := .int .u32 (u32 x)
abbrev bv (x : UInt8) : Value := .int .u8 (x.toNat : Int)
theorem w8_toNat (x : UInt8) : (w8 x).toNat = x.toNat := by
 simp [w8]
theorem b8_toNat (x : BitVec 32) : (b8 x).toNat = x.toNat % 256 := by simp [b8]
theorem wrap_add32 (x y : BitVec 32) : IntKind.u32.wrap (u32 x + u32 y) = u32 (x + y) := by
 unfold u32; rw [IntKind.wrap_u32', BitVec.toNat_add]; omega
theorem bits_xor32 (x y : BitVec 32) : bits .xor .u32 (u32 x) (u32 y) = u32 (x ^^^ y) := by
 unfold u32; rw [u32_xor_nat _ _ x.isLt y.isLt, BitVec.toNat_xor]
theorem bits_and32 (x y : BitVec 32) : bits .and .u32 (u32 x) (u32 y) = u32 (x &&& y) := by
 unfold u32; rw [u32_and_nat _ _ x.isLt y.isLt, BitVec.toNat_and]
theorem bits_or32 (x y : BitVec 32) : bits .or .u32 (u32 x) (u32 y) = u32 (x ||| y) := by
 unfold u32; rw [u32_or_nat _ _ x.isLt y.isLt, BitVec.toNat_or]
theorem sem_add32 (t : TypeId) (x y : BitVec 32) : binOp .add t (.int .u32 (u32 x)) (.int .u32 (u32 y)) = pure (wv (x + y)) := by
 rw [binOp_add]; show pure _ = pure _; unfold wv; rw [<- wrap_add32]
theorem sem_xor32 (t : TypeId) (x y : BitVec 32) : binOp .xor t (.int .u32 (u32 x)) (.int .u32 (u32 y)) = pure (wv (x ^^^ y)) := by
 show pure (Value.int .u32 (bits .xor .u32 (u32 x) (u32 y))) = _; rw [bits_xor32]
theorem sem_and32 (t : TypeId) (x y : BitVec 32) : binOp .and t (.int .u32 (u32 x)) (.int .u32 (u32 y)) = pure (wv (x &&& y)) := by
 show pure (Value.int .u32 (bits .and .u32 (u32 x) (u32 y))) = _; rw [bits_and32]
theorem sem_or32 (t : TypeId) (x y : BitVec 32) : binOp .or t (.int .u32 (u32 x)) (.int .u32 (u32 y)) = pure (wv (x ||| y)) := by
 show pure (Value.int .u32 (bits .or .u32 (u32 x) (u32 y))) = _; rw [bits_or32]
theorem sem_not32 (x : BitVec 32) : Op.unary .xor (.int .u32 (u32 x)) = pure (wv (~~~x)) := by
 show pure (Value.int .u32 (bits .xor .u32 (u32 4294967295#32) (u32 x))) = _
 rw [bits_xor32, show (4294967295#32 : BitVec 32) = BitVec.allOnes 32 from rfl, BitVec.allOnes_xor]
theorem sem_shr32 (t : TypeId) (x : BitVec 32) (n : Int) (h0 : 0 <= n) : binOp .shr t (.int .u32 (u32 x)) (.int .u64 n) = pure (wv (x >>> n.toNat)) := by
 show Op.shift .shr .u32 (u32 x) .u64 n = _
 rw [shift_shr_any _ _ _ _ h0]; unfold wv u32; rw [BitVec.toNat_ushiftRight, Nat.shiftRight_eq_div_pow]
 show pure (Value.int .u32 ((x.toNat : Int) / ((2 ^ min n.toNat 32 : Nat) : Int))) = _
 rw [<- Int.natCast_ediv]
 rcases Nat.le_total n.toNat 32 with h | h
 ·rw [Nat.min_eq_left h]
 ·rw [Nat.min_eq_right h, Nat.div_eq_of_lt x.isLt, Nat.div_eq_of_lt (Nat.lt_of_lt_of_le x.isLt (Nat.pow_le_pow_right (by omega) h))]
theorem sem_shl32 (t : TypeId) (x : BitVec 32) (n : Int) (h0 : 0 <= n) : binOp .shl t (.int .u32 (u32 x)) (.int .u64 n) = pure (wv (x <<< n.toNat)) := by
 show Op.shift .shl .u32 (u32 x) .u64 n = _
 rw [shift_shl_any _ _ _ _ h0]; unfold wv u32; rw [BitVec.toNat_shiftLeft, Nat.shiftLeft_eq]
 show pure (Value.int .u32 (IntKind.u32.wrap ((x.toNat : Int) * ((2 ^ min n.toNat 32 : Nat) : Int)))) = _
 rw [IntKind.wrap_u32', <- Int.natCast_mul, show (4294967296 : Int) = ((2 ^ 32 : Nat) : Int) from rfl, <- Int.natCast_emod]
 rcases Nat.le_total n.toNat 32 with h | h
 ·rw [Nat.min_eq_left h]
 ·rw [Nat.min_eq_right h, show n.toNat = 32 + (n.toNat - 32) by omega, Nat.pow_add, <- Nat.mul_assoc, Nat.mul_mod_left, Nat.mul_right_comm, Nat.mul_mod_left]
section
variable (w : World)
theorem run_w8 (x : UInt8) : (convert 5 195 (bv x)).run prog w = .ok (wv (w8 x)) w := by
 have h : (convert 5 195 (bv x)).run prog w = .ok (.int .u32 (IntKind.u32.wrap (x.toNat : Int))) w := by rfl
 have := x.toNat_lt
 unfold wv bv u32 at *
 rw [h, w8_toNat, IntKind.wrap_u32', Int.emod_eq_of_lt (by omega) (by omega)]
theorem run_b8 (x : BitVec 32) : (convert 195 5 (wv x)).run prog w = .ok (bv (b8 x)) w := by
 have h : (convert 195 5 (wv x)).run prog w = .ok (.int .u8 (IntKind.u8.wrap (x.toNat : Int))) w := by rfl
 unfold wv bv at *
 rw [h, b8_toNat, IntKind.wrap_u8']; simp
theorem run_blockSlice (b o : Nat) (l : Int) (k : Nat) (hk : l = k) (h1 : k < 64) : (Instr.sliceAt 266 (.pointer (some ⟨b, o, none⟩)) (some (.int .i64 l)) none none).run prog w = .ok (.slice (some ⟨b, o + k, none⟩) (64 - k) (64 - k)) w := by
 subst hk
 have ht : prog.arrayLen 266 = 64 := by kernel_rfl
 have he : prog.elem 266 = 5 := by kernel_rfl
 have hz : (sizeOf 5).run prog w = .ok 1 w := by kernel_rfl
 rw [run_sliceAt_array_l (P := prog) w 266 ⟨b, o, none⟩ (by rw [ht, he]; exact underlying266) .i64 (k : Int) (by omega) (by rw [ht]; omega), he, hz, ht]
 have hne : ¬ 64 = k := by omega
 simp [Result.andThen, slicedAt, Addr.add, hne]
theorem run_bytes4 (a b c d : UInt8) : (convert 91 9 (.slice (some ⟨w.heap.size, 0, none⟩) 4 4)).run prog (w.alloc (.cells #[bv a, bv b, bv c, bv d] 5)) = .ok (.string ⟨#[a, b, c, d]⟩) (w.alloc (.cells #[bv a, bv b, bv c, bv d] 5)) := by
 rw [run_convert_bytes_arg (P := prog) (w.alloc (.cells #[bv a, bv b, bv c, bv d] 5)) 91 5 underlying91 underlying5 w.heap.size 0 4 4 [(a.toNat : Int), b.toNat, c.toNat, d.toNat] rfl ?_ 9 underlying9]
 ·simp [strOfNums]
 ·intro i hi
  rw [Nat.zero_add, World.cell?_alloc_new]
  match i, hi with
  | 0, _ => rfl
  | 1, _ => rfl
  | 2, _ => rfl
  | 3, _ => rfl
theorem run_bytes1 (a : UInt8) : (convert 91 9 (.slice (some ⟨w.heap.size, 0, none⟩) 1 1)).run prog (w.alloc (.cells #[bv a] 5)) = .ok (.string ⟨#[a]⟩) (w.alloc (.cells #[bv a] 5)) := by
 rw [run_convert_bytes_arg (P := prog) (w.alloc (.cells #[bv a] 5)) 91 5 underlying91 underlying5 w.heap.size 0 1 1 [(a.toNat : Int)] rfl ?_ 9 underlying9]
 ·simp [strOfNums]
 ·intro i hi
  rw [Nat.zero_add, World.cell?_alloc_new]
  match i, hi with
  | 0, _ => rfl
end
end Go.Proofs.YthbajmlmjjfgpaaGreatDoor.T8
namespace Go.Proofs.YthbajmlmjjfgpaaGreatDoor.T8
open Go.RowKit Sha
attribute [local go_sem 9000] sem_add32 sem_xor32 sem_and32 sem_or32 sem_not32 sem_shr32 sem_shl32 run_w8 run_b8 run_bytes4 run_bytes1
theorem turn_any (x : BitVec 32) (n : Int) (w : World) (h1 : 1 <= n) (h2 : n <= 31) :
  Calls prog 147 #[wv x, .int .u64 n] w λe w' => e = .returned (wv (rotr x n.toNat)) /\ w = w' := by
 have h0 : 0 <= n := by omega
 have h3 : n <= 32 := by omega
 have h4 : (32 - n).toNat = 32 - n.toNat := by omega
 go_enter func147, ntmps147
 go_wp2
 go_ret
 exact ⟨rfl, rfl⟩
theorem count_of (n : Int) (h1 : 1 <= n) (h2 : n <= 31) : bits .and .u64 (IntKind.u64.wrap (-n)) 31 = 32 - n := by
 have h : IntKind.u64.wrap (-n) = ((18446744073709551616 - n).toNat : Int) := by
  simp [IntKind.wrap, IntKind.bits, IntKind.signed]; omega
 rw [h, show (31 : Int) = ((31 : Nat) : Int) from rfl, u64_and_nat _ _ (by omega) (by omega), nat_mask5]
 omega
theorem rotl_any (x : BitVec 32) (n : Int) (w : World) (h1 : 1 <= n) (h2 : n <= 31) :
  Calls prog 264 #[wv x, .int .i64 (-n)] w λe w' => e = .returned (wv (rotr x n.toNat)) /\ w = w' := by
 have h0 : 0 <= n := by omega
 have h3 : n <= 32 := by omega
 have h4 : (32 - n).toNat = 32 - n.toNat := by omega
 have h6 : 32 - (32 - n) = n := by omega
 have h5 := count_of n h1 h2
 go_enter func264, ntmps264
 go_wp2
 go_ret
 exact ⟨congrArg (λx => Ending.returned (wv x)) (BitVec.or_comm _ _), rfl⟩
theorem turnRight_any (x : BitVec 32) (n : Int) (w : World) (h1 : 1 <= n) (h2 : n <= 31) :
  Calls prog 258 #[wv x, .int .i64 n] w λe w' => e = .returned (wv (rotr x n.toNat)) /\ w = w' := by
 go_enter func258, ntmps258
 go_wp2_with (go_at_call 264; refine (rotl_any _ _ _ h1 h2).mono ?_; rintro e w' ⟨rfl, rfl⟩)
 go_ret
 exact ⟨rfl, rfl⟩
theorem wordText_any (x : BitVec 32) (w : World) :
  Calls prog 225 #[wv x] w λe w' => e = .returned (.string ⟨(wordBytes x).toArray⟩) /\ Below w.heap.size w w' := by
 go_enter func225, ntmps225
 go_wp2
 go_ret
 exact ⟨rfl, (Below.refl _ _).alloc (Nat.le_refl _) _⟩
def wrow (f : Nat -> BitVec 32) : Array Value := ((List.range 64).map λj => wv (f j)).toArray
theorem wrow_size (f : Nat -> BitVec 32) : (wrow f).size = 64 := by simp [wrow]
theorem wrow_get (f : Nat -> BitVec 32) (j : Nat) (h : j < 64) : (wrow f)[j]? = some (wv (f j)) := by simp [wrow, h]
theorem wrow_set (f : Nat -> BitVec 32) (k : Nat) (x : BitVec 32) : (wrow f).setIfInBounds k (wv x) = wrow (λj => if j = k then x else f j) := by
 apply Array.ext
 ·simp [wrow]
 ·intro i h1 h2
  have h3 : i < 64 := by simpa [wrow] using h2
  rw [Array.getElem_setIfInBounds (by simpa using h1)]
  by_cases hk : k = i
  ·subst hk; simp [wrow]
  ·rw [if_neg hk]; simp [wrow, show ¬ i = k from λe => hk e.symm]
theorem wrow_congr (f g : Nat -> BitVec 32) (h : ∀ j, j < 64 -> f j = g j) : wrow f = wrow g := by
 unfold wrow
 rw [List.map_congr_left (λj hj => by rw [h j (List.mem_range.1 hj)])]
theorem wrow_one (f : Nat -> BitVec 32) : ((wrow f).all λx => x.oneCell') = true := by
 simp [wrow]; intros; rfl
def part (m : Nat -> UInt8) (k j : Nat) : BitVec 32 := if j < k then wd m j else 0
theorem part_succ (m : Nat -> UInt8) (k : Nat) : (λj => if j = k then wd m k else part m k j) = part m (k + 1) := by
 funext j
 unfold part
 by_cases h : j = k
 ·subst h; simp
 ·rw [if_neg h]
  by_cases h2 : j < k
  ·rw [if_pos h2, if_pos (by omega)]
  ·rw [if_neg h2, if_neg (by omega)]
theorem wrow_64 (m : Nat -> UInt8) : wrow (part m 64) = wrow (wd m) := wrow_congr _ _ λ_ hj => if_pos hj
structure SpreadW (m : Nat -> UInt8) (w : World) (k : Nat) (wr : World) : Prop where
 own : wr.heap[w.heap.size + 1]? = some (.cells (wrow (part m k)) 202 (0, 0))
 res : wr.heap[w.heap.size]? = some (.cells (wrow (λ_ => 0)) 202 (0, 0))
 below : Below w.heap.size w wr
theorem part_zero (m : Nat -> UInt8) : part m 0 = λ_ => 0 := by funext j; simp [part]
theorem SpreadW.cell {m : Nat -> UInt8} {w wr : World} {k : Nat} (h : SpreadW m w k wr) (j : Nat) (hj : j < 64) : wr.cell? ⟨w.heap.size + 1, j, none⟩ = some (wv (part m k j)) :=
 (cell_of_row wr (w.heap.size + 1) j _ _ _ h.own).trans (wrow_get _ j hj)
theorem SpreadW.free {m : Nat -> UInt8} {w wr : World} {k : Nat} (h : SpreadW m w k wr) (j : Nat) : wr.frozen? ⟨w.heap.size + 1, j, none⟩ = false :=
 frozen_of_row wr _ j _ _ h.own
theorem SpreadW.step {m : Nat -> UInt8} {w wr : World} {k : Nat} (h : SpreadW m w k wr) (x : BitVec 32) (hx : x = wd m k) :
  SpreadW m w (k + 1) (wr.setCell ⟨w.heap.size + 1, k, none⟩ (wv x)).drew := by
 subst hx
 refine ⟨?_, ?_, ?_⟩
 ·show (wr.setCell ⟨w.heap.size + 1, k, none⟩ (wv (wd m k))).heap[w.heap.size + 1]? = _
  rw [heap_setCell_same wr _ k _ _ _ h.own, wrow_set, part_succ]
 ·show (wr.setCell ⟨w.heap.size + 1, k, none⟩ (wv (wd m k))).heap[w.heap.size]? = _
  rw [heap_setCell_other wr _ _ _ (by simp)]; exact h.res
 ·exact (h.below.setCell (p := ⟨w.heap.size + 1, k, none⟩) (by simp) _).drew
theorem SpreadW.drewN {m : Nat -> UInt8} {w wr : World} {k : Nat} (h : SpreadW m w k wr) (n : Nat) : SpreadW m w k (wr.drewN n) :=
 ⟨by rw [<- h.own]; rfl, by rw [<- h.res]; rfl, h.below.trans ⟨rfl, rfl, rfl, Nat.le_refl _, λ_ _ => rfl⟩⟩
theorem SpreadW.start (m : Nat -> UInt8) (w : World) : SpreadW m w 0 ((w.alloc (.cells (wrow (λ_ => 0)) 202)).alloc (.cells (wrow (λ_ => 0)) 202)) := by
 refine ⟨?_, ?_, ?_⟩
 ·rw [heap_alloc2_new, part_zero]
 ·rw [heap_alloc2_old]
 ·exact ((Below.refl _ _).alloc (Nat.le_refl _) _).alloc (by simp) _
theorem spread_any (b : Nat) (m : Nat -> UInt8) (w : World) (hb : b < w.heap.size) (hm : ∀ j, j < 64 -> w.cell? ⟨b, 8 + j, none⟩ = some (bv (m j))) :
  Calls prog 257 #[.pointer (some ⟨b, 0, none⟩)] w λe w' => e = .returned (.agg (wrow (wd m))) /\ Below w.heap.size w w' := by
 have HM := hid hm
 clear hm
 go_enter func257, ntmps257
 go_wp2
 go_loopw [11] (λi wr => ∃ k : Nat, k <= 16 /\ i = .int .i64 k /\ SpreadW m w k wr) (λi _ => 16 - (intOf i).toNat)
 case atStart => exact ⟨0, by omega, rfl, SpreadW.start m w⟩
 case round =>
  obtain ⟨k, hk, rfl, hr⟩ := hrel
  by_cases hlt : k < 16
  ·have hs := run_blockSlice wr b 8 (4 * (k : Int)) (4 * k) (by omega) (by omega)
   have hc : ∀ j, j < 64 -> wr.cell? ⟨b, 8 + j, none⟩ = some (bv (m j)) := λj hj => (hr.below.cell (p := ⟨b, 8 + j, none⟩) hb).trans (HM.out j hj)
   have c0 := hc (4 * k) (by omega)
   have c1 := hc (4 * k + 1) (by omega)
   have c2 := hc (4 * k + 2) (by omega)
   have c3 := hc (4 * k + 3) (by omega)
   have hl : 4 <= 64 - 4 * k := by omega
   rw [<- Nat.add_assoc] at c1 c2 c3
   generalize 8 + 4 * k = o at hs c0 c1 c2 c3
   generalize 64 - 4 * k = L at hs hl
   clear hc
   have hl0 : 0 < L := by omega
   have hl1 : (1 : Int) < (L : Int) := by omega
   have hl2 : (2 : Int) < (L : Int) := by omega
   have hl3 : (3 : Int) < (L : Int) := by omega
   have hk64 : (k : Int) < 64 := by omega
   have hd := hr.cell k (by omega)
   have hf := hr.free k
   go_wp2
   go_still_tail 24, (by kernel_rfl)
   change wpList _ _ _ _ _ wr.drew
   go_wp2
   go_roundw
   case rel => exact ⟨k + 1, by omega, by go_num, hr.step _ (by rw [wd_first _ _ hlt]; rfl)⟩
   case measure => simp [intOf]; omega
  ·replace hr : SpreadW m w 16 wr := by
    obtain rfl : k = 16 := by omega
    exact hr
   have hge : (16 : Int) <= (k : Int) := by omega
   clear hlt hk
   go_wp2
   clear hge
   obtain ⟨w2, rfl⟩ : ∃ w2 : World, w2 = wr := ⟨_, rfl⟩
   go_loopw [6] (λi wr => ∃ k : Nat, 16 <= k /\ k <= 64 /\ i = .int .i64 k /\ SpreadW m w k wr) (λi _ => 64 - (intOf i).toNat)
   case atStart => exact ⟨16, by omega, by omega, rfl, hr⟩
   case round =>
    clear hr
    obtain ⟨k, hk0, hk, rfl, hr⟩ := hrel
    by_cases hlt : k < 64
    ·have p16 : part m k (k - 16) = wd m (k - 16) := if_pos (by omega)
     have p15 : part m k (k - 15) = wd m (k - 15) := if_pos (by omega)
     have p2 : part m k (k - 2) = wd m (k - 2) := if_pos (by omega)
     have c15 := hr.cell (k - 15) (by omega)
     have c2 := hr.cell (k - 2) (by omega)
     rw [p15] at c15
     rw [p2] at c2
     clear p15 p2
     have hj15 : (k : Int) - 15 < 64 := by omega
     have hj16 : (k : Int) - 16 < 64 := by omega
     have hj7 : (k : Int) - 7 < 64 := by omega
     have hj2 : (k : Int) - 2 < 64 := by omega
     have hk64 : (k : Int) < 64 := by omega
     go_wp2
     go_quiet (fail)
     go_wp2_with (go_at_call 258; refine (turnRight_any _ _ _ (by omega) (by omega)).mono ?_; rintro e w' ⟨rfl, rfl⟩)
     replace hr : SpreadW m w k (wr.drewN nq) := hr.drewN nq
     clear c15 c2
     generalize wr.drewN nq = wq at *
     have p16 : part m k (k - 16) = wd m (k - 16) := if_pos (by omega)
     have p7 : part m k (k - 7) = wd m (k - 7) := if_pos (by omega)
     have c16 := hr.cell (k - 16) (by omega)
     have c7 := hr.cell (k - 7) (by omega)
     rw [p16] at c16
     rw [p7] at c7
     clear p16 p7
     have hd := hr.cell k (by omega)
     have hf := hr.free k
     have g16 : (16 : Int) <= (k : Int) := by omega
     have g7 : (7 : Int) <= (k : Int) := by omega
     have e16 : IntKind.i64.wrap ((k : Int) - 16) = (k : Int) - 16 := IntWalk.i64_in _ (by omega)
     have e7 : IntKind.i64.wrap ((k : Int) - 7) = (k : Int) - 7 := IntWalk.i64_in _ (by omega)
     have t16 : ((k : Int) - 16).toNat = k - 16 := by omega
     have t7 : ((k : Int) - 7).toNat = k - 7 := by omega
     go_still_tail 15, (by kernel_rfl)
     clear e16 e7 t16 t7
     change wpList _ _ _ _ _ wq.drew
     go_wp2
     go_roundw
     case rel => exact ⟨k + 1, by omega, by omega, by go_num, hr.step _ (wd_next m k hk0).symm⟩
     case measure => simp [intOf]; omega
    ·replace hr : SpreadW m w 64 wr := by
      obtain rfl : k = 64 := by omega
      exact hr
     have h64 := wrow_64 m
     go_wp2_with (first
      | (refine wpList_load_row rfl 202 _ rfl (w.heap.size + 1) rfl 202 (wrow (part m 64)) (0, 0) _ hr.own underlying202 rfl (by rw [wrow_size]; kernel_rfl) ?_)
      | (refine wpList_store_row rfl 202 _ _ rfl w.heap.size (wrow (part m 64)) rfl rfl 202 (wrow (λ_ => 0)) hr.res (by rw [wrow_size]; kernel_rfl) (by rw [wrow_size, wrow_size]) (wrow_one _) ?_))
     refine bodyPost_ret (v := .agg (wrow (wd m))) (results_cell_row (P := prog) Tryz.results257 _ _ w.heap.size 202 (wrow (wd m)) (0, 0) _ rfl ?_ underlying202 rfl (by rw [wrow_size]; kernel_rfl)) rfl ⟨rfl, below_setRow hr.below (Nat.le_refl _) _⟩
     rw [<- h64]
     exact setRow_heap _ _ _ _ _ _ hr.res
structure OnlyB (b : Nat) (w w' : World) : Prop where
 os : w'.os = w.os
 tape : w'.tape = w.tape
 output : w'.output = w.output
 size : w.heap.size <= w'.heap.size
 block : ∀ k, k < w.heap.size -> k ≠ b -> w'.heap[k]? = w.heap[k]?
theorem OnlyB.refl (b : Nat) (w : World) : OnlyB b w w := ⟨rfl, rfl, rfl, Nat.le_refl _, λ_ _ _ => rfl⟩
theorem OnlyB.trans {b : Nat} {x y z : World} (h : OnlyB b x y) (k : OnlyB b y z) : OnlyB b x z :=
 ⟨k.os.trans h.os, k.tape.trans h.tape, k.output.trans h.output, Nat.le_trans h.size k.size,
  λi hi hne => (k.block i (Nat.lt_of_lt_of_le hi h.size) hne).trans (h.block i hi hne)⟩
theorem OnlyB.of_below {b : Nat} {x y z : World} (h : OnlyB b x y) (k : Below y.heap.size y z) : OnlyB b x z :=
 h.trans ⟨k.os, k.tape, k.output, k.size, λi hi _ => k.block i hi⟩
theorem OnlyB.alloc {b : Nat} {x y : World} (h : OnlyB b x y) (o : Obj) : OnlyB b x (y.alloc o) := h.of_below ((Below.refl _ _).alloc (Nat.le_refl _) o)
theorem OnlyB.setCell {b : Nat} {x y : World} (h : OnlyB b x y) {p : Addr} (hp : p.block = b \/ x.heap.size <= p.block) (v : Value) : OnlyB b x (y.setCell p v) :=
 ⟨h.os, h.tape, h.output, Nat.le_trans h.size (by simp), λi hi hne => (heap_setCell_other y p i v (by omega)).trans (h.block i hi hne)⟩
theorem OnlyB.setRow {b : Nat} {x y : World} (h : OnlyB b x y) {g : Nat} (hp : g = b \/ x.heap.size <= g) (cs : Array Value) : OnlyB b x (y.setRow g cs) :=
 ⟨h.os, h.tape, h.output, Nat.le_trans h.size (by simp), λi hi hne => (setRow_other y g i cs (by omega)).trans (h.block i hi hne)⟩
theorem OnlyB.drewN {b : Nat} {x y : World} (h : OnlyB b x y) (n : Nat) : OnlyB b x (y.drewN n) := ⟨h.os, h.tape, h.output, h.size, h.block⟩
theorem OnlyB.below {b B : Nat} {x y : World} (h : OnlyB b x y) (hb : B <= b) (hB : B <= x.heap.size) : Below B x y :=
 ⟨h.os, h.tape, h.output, h.size, λk hk => h.block k (by omega) (by omega)⟩
theorem OnlyB.cell {b : Nat} {x y : World} (h : OnlyB b x y) (p : Addr) (hp : p.block < x.heap.size) (hne : p.block ≠ b) : y.cell? p = x.cell? p :=
 World.cell?_of_block (h.block p.block hp hne)
def pcL (ws : Nat -> BitVec 32) (m : Nat -> UInt8) (h t : Int) : List Value :=
 ((List.range 8).map λj => wv (ws j)) ++ (((List.range 64).map λj => bv (m j)) ++ [.int .i64 h, .int .u64 t])
def pc (ws : Nat -> BitVec 32) (m : Nat -> UInt8) (h t : Int) : Array Value := (pcL ws m h t).toArray
section
variable (ws : Nat -> BitVec 32) (m : Nat -> UInt8) (h t : Int)
theorem pc_word (j : Nat) (hj : j < 8) : (pc ws m h t)[j]? = some (wv (ws j)) := by
 simp only [pc, pcL, List.getElem?_toArray]
 rw [List.getElem?_append_left (by simpa using hj)]
 simp [hj]
theorem pc_byte (j : Nat) (hj : j < 64) : (pc ws m h t)[8 + j]? = some (bv (m j)) := by
 simp only [pc, pcL, List.getElem?_toArray]
 rw [List.getElem?_append_right (by simp), List.getElem?_append_left (by simp; omega)]
 simp [hj]
theorem pc_held : (pc ws m h t)[72]? = some (.int .i64 h) := rfl
theorem pc_total : (pc ws m h t)[73]? = some (.int .u64 t) := rfl
theorem pc_size : (pc ws m h t).size = 74 := by simp [pc, pcL]
theorem pc_setWord (k : Nat) (hk : k < 8) (x : BitVec 32) : (pc ws m h t).setIfInBounds k (wv x) = pc (λj => if j = k then x else ws j) m h t := by
 match k, hk with
 | 0, _ => rfl
 | 1, _ => rfl
 | 2, _ => rfl
 | 3, _ => rfl
 | 4, _ => rfl
 | 5, _ => rfl
 | 6, _ => rfl
 | 7, _ => rfl
theorem pc_setHeld (x : Int) : (pc ws m h t).setIfInBounds 72 (.int .i64 x) = pc ws m x t := rfl
theorem pc_setTotal (x : Int) : (pc ws m h t).setIfInBounds 73 (.int .u64 x) = pc ws m h x := rfl
end
structure RoundW (b g : Nat) (s : St) (m : Nat -> UInt8) (h t : Int) (w wr : World) : Prop where
 press : wr.heap[b]? = some (.cells (pc s.get m h t) 268 (0, 0))
 own : wr.heap[g]? = some (.cells (wrow (wd m)) 202 (0, 0))
 only : OnlyB b w wr
theorem RoundW.drewN {b g : Nat} {s : St} {m : Nat -> UInt8} {h t : Int} {w wr : World} (hr : RoundW b g s m h t w wr) (n : Nat) : RoundW b g s m h t w (wr.drewN n) :=
 ⟨hr.press, hr.own, hr.only.drewN n⟩
theorem lt_of_K {w : World} {f : Nat -> Value} (h : ∀ j, j < 64 -> w.cell? ⟨3, j, none⟩ = some (f j)) : 3 < w.heap.size := block_lt_of_cell (h 0 (by omega))
theorem RoundW.start {b : Nat} {s : St} {m : Nat -> UInt8} {h t : Int} {w w1 : World} (hp : w.heap[b]? = some (.cells (pc s.get m h t) 268 (0, 0))) (hw1 : Below w.heap.size w w1) :
  RoundW b w1.heap.size s m h t w ((w1.alloc (.cells (wrow (λ_ => 0)) 202)).setRow w1.heap.size (wrow (wd m))) := by
 have hb : b < w.heap.size := lt_of_block hp
 have hs := hw1.size
 refine ⟨?_, ?_, ?_⟩
 ·rw [setRow_other _ _ _ _ (by omega), Below.heap_alloc _ _ _ (by omega), hw1.block b hb, hp]
 ·exact setRow_heap _ _ _ _ _ _ (heap_alloc_new w1 _)
 ·exact (((OnlyB.refl b w).of_below hw1).alloc _).setRow (.inr hs) _
def mix (s f : St) (k j : Nat) : BitVec 32 := if j < k then s.get j + f.get j else s.get j
structure SumW (b : Nat) (s f : St) (m : Nat -> UInt8) (h t : Int) (w : World) (k : Nat) (wr : World) : Prop where
 press : wr.heap[b]? = some (.cells (pc (mix s f k) m h t) 268 (0, 0))
 only : OnlyB b w wr
theorem SumW.cell {b : Nat} {s f : St} {m : Nat -> UInt8} {h t : Int} {w wr : World} {k : Nat} (hr : SumW b s f m h t w k wr) (hk : k < 8) : wr.cell? ⟨b, k, none⟩ = some (wv (s.get k)) := by
 rw [cell_of_row wr b _ _ _ _ hr.press, pc_word _ _ _ _ k hk, mix, if_neg (by omega)]
theorem SumW.free {b : Nat} {s f : St} {m : Nat -> UInt8} {h t : Int} {w wr : World} {k : Nat} (hr : SumW b s f m h t w k wr) (j : Nat) : wr.frozen? ⟨b, j, none⟩ = false :=
 frozen_of_row wr b j _ _ hr.press
theorem SumW.step {b : Nat} {s f : St} {m : Nat -> UInt8} {h t : Int} {w wr : World} {k : Nat} (hr : SumW b s f m h t w k wr) (hk : k < 8) :
  SumW b s f m h t w (k + 1) (wr.setCell ⟨b, k, none⟩ (wv (s.get k + f.get k))).drew := by
 refine ⟨?_, (hr.only.setCell (p := ⟨b, k, none⟩) (.inl rfl) _).drewN 1⟩
 show (wr.setCell ⟨b, k, none⟩ (wv (s.get k + f.get k))).heap[b]? = _
 rw [heap_setCell_same wr b k _ _ _ hr.press, pc_setWord _ _ _ _ k hk]
 congr 3
 funext j
 unfold mix
 by_cases h1 : j = k
 ·subst h1; simp
 ·rw [if_neg h1]
  by_cases h2 : j < k
  ·rw [if_pos h2, if_pos (by omega)]
  ·rw [if_neg h2, if_neg (by omega)]
theorem pc_congr (f g : Nat -> BitVec 32) (m : Nat -> UInt8) (h t : Int) (hfg : ∀ j, j < 8 -> f j = g j) : pc f m h t = pc g m h t := by
 unfold pc pcL
 rw [List.map_congr_left (λj hj => by rw [hfg j (List.mem_range.1 hj)])]
theorem SumW.done {b : Nat} {s f : St} {m : Nat -> UInt8} {h t : Int} {w wr : World} (hr : SumW b s f m h t w 8 wr) :
  wr.heap[b]? = some (.cells (pc (addSt s f).get m h t) 268 (0, 0)) := by
 rw [hr.press, pc_congr (mix s f 8) (addSt s f).get m h t λj hj => (if_pos hj).trans (addSt_get s f j).symm]
theorem index_st (f : St) (k : Nat) (hk : k < 8) : ∀ w : World, (Instr.index 201 (.agg #[wv f.a, wv f.b, wv f.c, wv f.d, wv f.e, wv f.f, wv f.g, wv f.h]) (.int .i64 (k : Int))).run prog w = .ok (wv (f.get k)) w := by
 intro w
 match k, hk with
 | 0, _ => exact rfl
 | 1, _ => exact rfl
 | 2, _ => exact rfl
 | 3, _ => exact rfl
 | 4, _ => exact rfl
 | 5, _ => exact rfl
 | 6, _ => exact rfl
 | 7, _ => exact rfl
theorem pressBlock_any (b : Nat) (s : St) (m : Nat -> UInt8) (h t : Int) (w : World) (hb1 : b ≠ 3) (hp : w.heap[b]? = some (.cells (pc s.get m h t) 268 (0, 0)))
  (hK : ∀ j, j < 64 -> w.cell? ⟨3, j, none⟩ = some (wv (kAt j))) :
  Calls prog 246 #[.pointer (some ⟨b, 0, none⟩)] w λe w' => e = .returned (.tuple #[]) /\ OnlyB b w w' /\ w'.heap[b]? = some (.cells (pc (press s m).get m h t) 268 (0, 0)) := by
 have hb : b < w.heap.size := lt_of_block hp
 have hm : ∀ j, j < 64 -> w.cell? ⟨b, 8 + j, none⟩ = some (bv (m j)) := λj hj => (cell_of_row w b _ _ _ _ hp).trans (pc_byte _ _ _ _ j hj)
 have HS := hid (spread_any b m w hb hm)
 have HP := hid hp
 have HK := hid hK
 clear hK hm hp
 go_enter func246, ntmps246
 go_wp2_with (first
  | (go_at_call 257; refine HS.out.mono ?_; rintro e w1 ⟨rfl, hw1⟩)
  | (refine wpList_store_row rfl 202 _ _ rfl w1.heap.size (wrow (wd m)) rfl rfl 202 (wrow (λ_ => 0)) (heap_alloc_new w1 _) (by rw [wrow_size]; kernel_rfl) (by rw [wrow_size, wrow_size]) (wrow_one _) ?_
     change wpList _ _ _ _ _ ((w1.alloc (.cells (wrow (λ_ => 0)) 202)).setRow w1.heap.size (wrow (wd m)))
     have hr := RoundW.start HP.out hw1
     have hsz : b < w1.heap.size /\ w.heap.size <= w1.heap.size := ⟨Nat.lt_of_lt_of_le hb hw1.size, hw1.size⟩
     generalize World.setRow _ _ _ = w2 at hr |-
     generalize w1.heap.size = g at hr hsz |-
     clear hw1))
 dsimp only [Act.put]
 have hc : ∀ j, j < 8 -> w2.cell? ⟨b, j, none⟩ = some (wv (s.get j)) := λj hj => (cell_of_row w2 b _ _ _ _ hr.press).trans (pc_word _ _ _ _ j hj)
 have c0 := hc 0 (by omega)
 have c1 := hc 1 (by omega)
 have c2 := hc 2 (by omega)
 have c3 := hc 3 (by omega)
 have c4 := hc 4 (by omega)
 have c5 := hc 5 (by omega)
 have c6 := hc 6 (by omega)
 have c7 := hc 7 (by omega)
 simp only [St.get] at c0 c1 c2 c3 c4 c5 c6 c7
 clear hc
 go_quiet (fail)
 go_wp2
 go_quiet (fail)
 go_wp2
 clear c0 c1 c2 c3 c4 c5 c6 c7
 generalize hw3 : World.drewN w2 _ = w3
 replace hr : RoundW b g s m h t w w3 := by rw [<- hw3]; exact hr.drewN _
 clear hw3
 go_loopw [61, 3, 4, 5, 6, 7, 8, 9, 10] (λi va vb vc vd ve vf vg vh wr => ∃ k : Nat, k <= 64 /\ i = .int .i64 k /\ va = wv (rounds m s k).a /\ vb = wv (rounds m s k).b /\ vc = wv (rounds m s k).c /\ vd = wv (rounds m s k).d /\
   ve = wv (rounds m s k).e /\ vf = wv (rounds m s k).f /\ vg = wv (rounds m s k).g /\ vh = wv (rounds m s k).h /\ RoundW b g s m h t w wr) (λi _ _ _ _ _ _ _ _ _ => 64 - (intOf i).toNat)
 case atStart => exact ⟨0, by omega, rfl, rfl, rfl, rfl, rfl, rfl, rfl, rfl, rfl, hr.drewN _⟩
 case round =>
  clear hr
  obtain ⟨k, hk, rfl, rfl, rfl, rfl, rfl, rfl, rfl, rfl, rfl, hr⟩ := hrel
  by_cases hlt : k < 64
  ·have hst := hid (show rounds m s (k + 1) = round (rounds m s k) (kAt k) (wd m k) from rfl)
   generalize rounds m s k = st at hst |-
   have hck := (hr.only.cell ⟨3, k, none⟩ (lt_of_K HK.out) hb1.symm).trans (HK.out k hlt)
   have hcw := (cell_of_row wr g k _ _ _ hr.own).trans (wrow_get (wd m) k hlt)
   have hk0 : (k : Int) < 64 := by omega
   go_wp2_with (go_at_call 258; refine (turnRight_any _ _ _ (by omega) (by omega)).mono ?_; rintro e w' ⟨rfl, rfl⟩)
   go_quiet (fail)
   go_wp2_with (go_at_call 258; refine (turnRight_any _ _ _ (by omega) (by omega)).mono ?_; rintro e w' ⟨rfl, rfl⟩)
   go_roundw
   case rel =>
    refine ⟨k + 1, by omega, by go_num, ?_, ?_, ?_, ?_, ?_, ?_, ?_, ?_, hr.drewN _⟩ <;> (rw [hst.out]; rfl)
   case measure => simp [intOf]; omega
  ·have HF := hid (show Sha.press s m = addSt s (rounds m s k) by rw [show k = 64 by omega]; rfl)
   have hge : (64 : Int) <= (k : Int) := by omega
   clear hlt hk
   generalize rounds m s k = f at HF |-
   go_wp2
   clear hge
   have hr0 : SumW b s f m h t w 0 wr := ⟨hr.press, hr.only⟩
   clear hr
   go_loopw [136] (λi wr => ∃ k : Nat, k <= 8 /\ i = .int .i64 k /\ SumW b s f m h t w k wr) (λi _ => 8 - (intOf i).toNat)
   case atStart => exact ⟨0, by omega, rfl, hr0⟩
   case round =>
    clear hr0
    obtain ⟨k, hk, rfl, hr⟩ := hrel
    by_cases hlt : k < 8
    ·have hix := index_st f k hlt
     have hk0 : (k : Int) < 8 := by omega
     have hc := hr.cell hlt
     have hf := hr.free k
     go_wp2
     go_still_tail 11, (by kernel_rfl)
     change wpList _ _ _ _ _ wr.drew
     go_wp2
     go_roundw
     case rel => exact ⟨k + 1, by omega, by go_num, hr.step hlt⟩
     case measure => simp [intOf]; omega
    ·obtain rfl : k = 8 := by omega
     clear hlt hk
     go_wp2
     go_end0
     exact ⟨rfl, hr.only, by rw [HF.out]; exact hr.done⟩
end Go.Proofs.YthbajmlmjjfgpaaGreatDoor.T8
