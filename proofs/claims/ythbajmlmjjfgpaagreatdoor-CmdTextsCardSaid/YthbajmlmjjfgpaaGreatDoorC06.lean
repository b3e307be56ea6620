/- A part of the proofs. -/
import Derived.Lib.Strings
import Derived.Laws.StructEq
import Derived.Laws.ResultCell
import Derived.Laws.Rows
import Derived.Test.YthbajmlmjjfgpaaGreatDoorC05
set_option maxRecDepth 1000000
open Go.Proofs.Tryz
namespace Fs
open Nd (En Node none0)
abbrev Item := Int × Node
structure FS where
 l : List Item
 next : Int
structure Op where
 kind : Int
 a : ByteArray
 b : ByteArray
 off : Int
 from_ : Int
 n : Int
 data : ByteArray
structure Env where
 lt : ByteArray -> ByteArray -> Bool
 nm : List UInt8 -> Bool
 sp : ByteArray -> Option (List ByteArray)
 put : ByteArray -> Int -> ByteArray -> ByteArray × Int
 trunc : ByteArray -> Int -> ByteArray × Int
 copy : ByteArray -> Int -> ByteArray -> Int -> Int -> ByteArray × Int
 get : ByteArray -> Int -> Int -> ByteArray × Int
def node : List Item -> Int -> Option Node
 | [], _ => none
 | x :: l, i => if x.1 = i then some x.2 else node l i
def nodeD (l : List Item) (i : Int) : Node := (node l i).getD none0
def setL (l : List Item) (i : Int) (x : Node) : List Item := l.map (λy => if y.1 = i then (i, x) else y) ++ if (node l i).isSome = true then [] else [(i, x)]
def dropL (l : List Item) (i : Int) : List Item := l.filter λy => decide (y.1 ≠ i)
def step (l : List Item) : Gr.Step := λi n => (node l i).bind λx => Nd.find x.ents n
def isDir (l : List Item) (i : Int) : Prop := ∃ x, node l i = some x /\ x.kind = 2
def new : FS := ⟨[(1, ⟨2, 493, ByteArray.empty, ByteArray.empty, []⟩)], 2⟩
def walk (l : List Item) : Int -> List ByteArray -> Except Int Int
 | i, [] => .ok i
 | i, n :: ns => if (nodeD l i).kind ≠ 2 then .error 10 else match Nd.find (nodeD l i).ents n with
  | none => .error 4
  | some c => walk l c ns
def place (l : List Item) (ns : List ByteArray) : Except Int (Int × ByteArray) :=
 match ns.getLast? with
 | none => .error 5
 | some n => match walk l 1 ns.dropLast with
  | .error e => .error e
  | .ok d => if (nodeD l d).kind ≠ 2 then .error 10 else .ok (d, n)
def fresh (l : List Item) (ns : List ByteArray) : Except Int (Int × ByteArray) :=
 match place l ns with
 | .error e => .error e
 | .ok (d, n) => if (Nd.find (nodeD l d).ents n).isSome = true then .error 5 else .ok (d, n)
section
variable (E : Env)
def enter (l : List Item) (d : Int) (n : ByteArray) (i : Int) : List Item := setL l d (Nd.withE E.lt E.nm (nodeD l d) n i).1
def leave (l : List Item) (d : Int) (n : ByteArray) : List Item := setL l d (Nd.withoutE (nodeD l d) n).1
def links (l : List Item) (i : Int) : Nat := (l.map λy => y.2.ents.countP λe => decide (e.2 = i)).sum
def deep (l : List Item) : Nat -> Int -> Nat
 | 0, _ => 0
 | k + 1, i => (nodeD l i).ents.foldl (λn e => max n (1 + deep l k e.2)) 0
def file (l : List Item) (ns : List ByteArray) : Except Int (Int × Node) :=
 match walk l 1 ns with
 | .error e => .error e
 | .ok i => if (nodeD l i).kind = 2 then .error 11 else if (nodeD l i).kind = 3 then .error 16 else .ok (i, nodeD l i)
def madeNode (o : Op) : Node := if o.kind = 3 then ⟨3, 511, ByteArray.empty, o.data, []⟩ else ⟨o.kind, o.n, ByteArray.empty, ByteArray.empty, []⟩
def create (f : FS) (o : Op) (az : List ByteArray) : Except Int FS :=
 match fresh f.l az with
 | .error e => .error e
 | .ok (d, n) => if Nd.right E.lt E.nm (madeNode o) = false then .error 1 else if 64 <= (nodeD f.l d).ents.length then .error 3 else if 256 <= f.l.length then .error 6 else .ok ⟨enter E (setL f.l f.next (madeNode o)) d n f.next, f.next + 1⟩
def link (f : FS) (az bs : List ByteArray) : Except Int FS :=
 match walk f.l 1 az with
 | .error e => .error e
 | .ok i => if (nodeD f.l i).kind = 2 then .error 11 else match fresh f.l bs with
  | .error e => .error e
  | .ok (d, n) => if 64 <= (nodeD f.l d).ents.length then .error 3 else .ok ⟨enter E f.l d n i, f.next⟩
def unlink (f : FS) (az : List ByteArray) : Except Int FS :=
 match walk f.l 1 az with
 | .error e => .error e
 | .ok i => if (nodeD f.l i).kind = 2 then .error 11 else match place f.l az with
  | .error e => .error e
  | .ok (d, n) => .ok ⟨if links (leave f.l d n) i = 0 then dropL (leave f.l d n) i else leave f.l d n, f.next⟩
def rmdir (f : FS) (az : List ByteArray) : Except Int FS :=
 match walk f.l 1 az with
 | .error e => .error e
 | .ok i => if (nodeD f.l i).kind ≠ 2 then .error 10 else if i = 1 then .error 17 else if (nodeD f.l i).ents ≠ [] then .error 12 else match place f.l az with
  | .error e => .error e
  | .ok (d, n) => .ok ⟨dropL (leave f.l d n) i, f.next⟩
def rename (f : FS) (az bs : List ByteArray) : Except Int FS :=
 match walk f.l 1 az with
 | .error e => .error e
 | .ok i => if i = 1 then .error 17 else if (nodeD f.l i).kind = 2 /\ bs.take az.length = az then .error 15 else match fresh f.l bs with
  | .error e => .error e
  | .ok (d, n) => match place f.l az with
   | .error e => .error e
   | .ok (c, m) => if (64 <= (nodeD f.l d).ents.length /\ c ≠ d) \/ 8 < bs.length + deep f.l 9 i then .error 3 else .ok ⟨enter E (leave f.l c m) d n i, f.next⟩
def edit (f : FS) (az : List ByteArray) (g : Node -> Except Int ByteArray) : Except Int FS :=
 match file f.l az with
 | .error e => .error e
 | .ok (i, x) => match g x with
  | .error e => .error e
  | .ok s => .ok ⟨setL f.l i { x with data := s }, f.next⟩
def asked (r : ByteArray × Int) : Except Int ByteArray := if r.2 ≠ 0 then .error r.2 else .ok r.1
def bytes (f : FS) (o : Op) (az bs : List ByteArray) : Except Int FS :=
 edit f az λx =>
  if o.kind = 8 then asked (E.put x.data o.off o.data)
  else if o.kind = 9 then asked (E.trunc x.data o.n)
  else match file f.l bs with
   | .error e => .error e
   | .ok (_, y) => asked (E.copy x.data o.off y.data o.from_ o.n)
def chmod (f : FS) (o : Op) (az : List ByteArray) : Except Int FS :=
 match walk f.l 1 az with
 | .error e => .error e
 | .ok i => if o.n < 0 \/ 511 < o.n then .error 1 else .ok ⟨setL f.l i { nodeD f.l i with mode := o.n }, f.next⟩
def act (f : FS) (o : Op) : Except Int FS :=
 if o.kind < 1 \/ 11 < o.kind then .error 16
 else match E.sp o.a with
  | none => .error 14
  | some az =>
   if (o.kind = 4 \/ o.kind = 7 \/ o.kind = 10) /\ E.sp o.b = none then .error 14
   else if o.kind <= 3 then create E f o az
   else if 8 <= o.kind /\ o.kind <= 10 then bytes E f o az ((E.sp o.b).getD [])
   else if o.kind = 4 then link E f az ((E.sp o.b).getD [])
   else if o.kind = 5 then unlink f az
   else if o.kind = 6 then rmdir f az
   else if o.kind = 7 then rename E f az ((E.sp o.b).getD [])
   else chmod f o az
def doE (f : FS) (o : Op) : FS × Int := match act E f o with
 | .error e => (f, e)
 | .ok g => (g, 0)
end
theorem node_mem {l : List Item} {i : Int} {x : Node} (h : node l i = some x) : (i, x) ∈ l := by
 induction l with
 | nil => cases h
 | cons y l ih =>
  unfold node at h
  by_cases e : y.1 = i
  ·rw [if_pos e] at h; injection h with h; subst h; subst e; exact List.mem_cons_self
  ·rw [if_neg e] at h; exact List.mem_cons_of_mem _ (ih h)
abbrev Rising (l : List Item) : Prop := l.Pairwise λx y => x.1 < y.1
theorem node_at {l : List Item} (hl : Rising l) {i : Int} {x : Node} (h : (i, x) ∈ l) : node l i = some x := by
 induction l with
 | nil => cases h
 | cons y l ih =>
  obtain ⟨h1, h2⟩ := List.pairwise_cons.1 hl
  unfold node
  rcases List.mem_cons.1 h with rfl | h
  ·rw [if_pos rfl]
  ·rw [if_neg (λe => by have := h1 _ h; simp only at this; omega), ih h2 h]
theorem node_none {l : List Item} {i : Int} : node l i = none ↔ ∀ y ∈ l, y.1 ≠ i := by
 induction l with
 | nil => simp [node]
 | cons y l ih =>
  unfold node
  by_cases e : y.1 = i
  ·rw [if_pos e]; simp [e]
  ·rw [if_neg e, ih]; simp [e]
theorem nodeD_of {l : List Item} {i : Int} {x : Node} (h : node l i = some x) : nodeD l i = x := by unfold nodeD; rw [h]; rfl
theorem node_append (l m : List Item) (i : Int) : node (l ++ m) i = (node l i).or (node m i) := by
 induction l with
 | nil => rfl
 | cons y l ih =>
  rw [List.cons_append, node, node]
  split
  ·rfl
  ·exact ih
theorem node_map (l : List Item) (i k : Int) (x : Node) : node (l.map λy => if y.1 = i then (i, x) else y) k = if k = i then (node l i).map λ_ => x else node l k := by
 induction l with
 | nil => simp [node]
 | cons y l ih =>
  rw [List.map_cons, node, ih]
  by_cases hy : y.1 = i
  ·rw [if_pos hy]
   by_cases hk : k = i
   ·subst hk; simp [node, hy]
   ·have h1 : ¬ i = k := λe => hk e.symm
    have h2 : ¬ y.1 = k := λe => hk (e.symm.trans hy)
    simp [node, hk, h1, h2]
  ·rw [if_neg hy]
   by_cases hk : k = i
   ·subst hk; simp [node, hy]
   ·simp [node, hk]
theorem node_set (l : List Item) (i k : Int) (x : Node) : node (setL l i x) k = if k = i then some x else node l k := by
 unfold setL
 rw [node_append, node_map]
 by_cases hk : k = i
 ·subst hk
  rw [if_pos rfl, if_pos rfl]
  cases h : node l k with
  | none => simp [node]
  | some y => simp
 ·rw [if_neg hk, if_neg hk]
  split
  ·simp [node]
  ·simp [node, Ne.symm hk]
theorem node_drop (l : List Item) (i k : Int) : node (dropL l i) k = if k = i then none else node l k := by
 unfold dropL
 induction l with
 | nil => simp [node]
 | cons y l ih =>
  rw [List.filter_cons]
  by_cases hy : y.1 = i
  ·rw [if_neg (by simp [hy]), ih, node]
   by_cases hk : k = i
   ·rw [if_pos hk, if_pos hk]
   ·rw [if_neg hk, if_neg hk, if_neg (λe => hk (e.symm.trans hy))]
  ·rw [if_pos (by simp [hy]), node, ih, node]
   by_cases hk : k = i
   ·rw [if_pos hk, if_neg (λe => hy (e.trans hk)), if_pos hk]
   ·rw [if_neg hk, if_neg hk]
theorem len_set {l : List Item} {i : Int} {x : Node} : (setL l i x).length = l.length + if (node l i).isSome = true then 0 else 1 := by
 unfold setL
 rw [List.length_append, List.length_map]
 split <;> rfl
theorem len_drop (l : List Item) (i : Int) : (dropL l i).length <= l.length := List.length_filter_le _ _
theorem mem_set {l : List Item} {i : Int} {x : Node} {y : Item} (h : y ∈ setL l i x) : y = (i, x) \/ (y ∈ l /\ y.1 ≠ i) := by
 unfold setL at h
 rcases List.mem_append.1 h with h | h
 ·obtain ⟨z, hz, e⟩ := List.mem_map.1 h
  by_cases hi : z.1 = i
  ·rw [if_pos hi] at e; exact .inl e.symm
  ·rw [if_neg hi] at e; subst e; exact .inr ⟨hz, hi⟩
 ·split at h
  ·cases h
  ·exact .inl (List.mem_singleton.1 h)
theorem map_first {l : List Item} {i : Int} {x : Node} : (l.map λy => if y.1 = i then (i, x) else y).map (·.1) = l.map (·.1) := by
 rw [List.map_map]
 refine List.map_congr_left λy _ => ?_
 show (if y.1 = i then (i, x) else y).1 = y.1
 split
 ·rename_i h; exact h.symm
 ·rfl
theorem rising_iff {l : List Item} : Rising l ↔ (l.map (·.1)).Pairwise (· < ·) := by rw [List.pairwise_map]
theorem rising_set {l : List Item} (h : Rising l) {i : Int} {x : Node} (hi : (node l i).isSome = true \/ ∀ y ∈ l, y.1 < i) : Rising (setL l i x) := by
 unfold setL
 refine List.pairwise_append.2 ⟨rising_iff.2 (by rw [map_first]; exact rising_iff.1 h), ?_, λy hy z hz => ?_⟩
 ·split
  ·exact List.Pairwise.nil
  ·exact List.pairwise_singleton _ _
 ·split at hz
  ·cases hz
  ·rename_i hn
   rw [List.mem_singleton.1 hz]
   rcases hi with hi | hi
   ·exact absurd hi hn
   ·obtain ⟨u, hu, e⟩ := List.mem_map.1 hy
    have := hi u hu
    rw [<- e]
    split
    ·rename_i e; omega
    ·exact this
theorem rising_drop {l : List Item} (h : Rising l) (i : Int) : Rising (dropL l i) := h.filter _
theorem rising_ext {l m : List Item} (hl : Rising l) (hm : Rising m) (h : ∀ i, node l i = node m i) : l = m := by
 have key : ∀ {l m : List Item}, Rising l -> Rising m -> (∀ x, x ∈ l ↔ x ∈ m) -> l = m := by
  intro l
  induction l with
  | nil =>
   intro m _ _ h
   cases m with
   | nil => rfl
   | cons y m => have := (h y).2 List.mem_cons_self; cases this
  | cons x l ih =>
   intro m hl hm h
   cases m with
   | nil => have := (h x).1 List.mem_cons_self; cases this
   | cons y m =>
    obtain ⟨h1, h2⟩ := List.pairwise_cons.1 hl
    obtain ⟨h3, h4⟩ := List.pairwise_cons.1 hm
    have hxy : x = y := by
     rcases List.mem_cons.1 ((h x).1 List.mem_cons_self) with e | hx
     ·exact e
     rcases List.mem_cons.1 ((h y).2 List.mem_cons_self) with e | hy
     ·exact e.symm
     have a := h3 x hx
     have b := h1 y hy
     omega
    subst hxy
    refine congrArg _ (ih h2 h4 λz => ⟨λhz => ?_, λhz => ?_⟩)
    ·rcases List.mem_cons.1 ((h z).1 (List.mem_cons_of_mem _ hz)) with e | hz'
     ·subst e; have := h1 z hz; omega
     ·exact hz'
    ·rcases List.mem_cons.1 ((h z).2 (List.mem_cons_of_mem _ hz)) with e | hz'
     ·subst e; have := h3 z hz; omega
     ·exact hz'
 refine key hl hm λx => ⟨λhx => ?_, λhx => ?_⟩
 ·exact node_mem ((h x.1).symm.trans (node_at hl hx))
 ·exact node_mem ((h x.1).trans (node_at hm hx))
end Fs
namespace Fs
open Nd (Node)
open Go.Less (less less_is)
def key (i : Int) : ByteArray := Nd.mk (Nd.n4 i.toNat)
def txt (x : Node) : ByteArray := Nd.mk (Nd.text x)
def kv (l : List Item) : List (ByteArray × ByteArray) := l.map λy => (key y.1, txt y.2)
abbrev Ub (l : List Item) : Prop := ∀ y ∈ l, 0 <= y.1 /\ y.1 < 4294967296
theorem lex4 (a b c d a' b' c' d' : UInt8) : [a, b, c, d] < [a', b', c', d'] ↔ Nd.v4 [a, b, c, d] < Nd.v4 [a', b', c', d'] := by
 simp only [List.cons_lt_cons_iff, List.lt_irrefl, and_false, or_false, Nd.v4, UInt8.lt_iff_toNat_lt, <- UInt8.toNat_inj]
 have := b.toNat_lt; have := c.toNat_lt; have := d.toNat_lt
 have := b'.toNat_lt; have := c'.toNat_lt; have := d'.toNat_lt
 omega
theorem key_list (i : Int) : (key i).toList = Nd.n4 i.toNat := by rw [Go.ByteArray.toList_eq]; rfl
theorem key_less {i j : Int} (hi : 0 <= i /\ i < 4294967296) (hj : 0 <= j /\ j < 4294967296) : less (key i) (key j) = decide (i < j) := by
 rw [less_is, key_list, key_list]
 refine decide_eq_decide.2 ?_
 have h := lex4 (UInt8.ofNat (i.toNat / 16777216)) (UInt8.ofNat (i.toNat / 65536)) (UInt8.ofNat (i.toNat / 256)) (UInt8.ofNat i.toNat) (UInt8.ofNat (j.toNat / 16777216)) (UInt8.ofNat (j.toNat / 65536)) (UInt8.ofNat (j.toNat / 256)) (UInt8.ofNat j.toNat)
 have h1 : Nd.v4 (Nd.n4 i.toNat) = i.toNat := Nd.v4_n4 (by omega)
 have h2 : Nd.v4 (Nd.n4 j.toNat) = j.toNat := Nd.v4_n4 (by omega)
 unfold Nd.n4 at h1 h2 |-
 rw [h, h1, h2]
 omega
theorem key_inj {i j : Int} (hi : 0 <= i /\ i < 4294967296) (hj : 0 <= j /\ j < 4294967296) (h : key i = key j) : i = j := by
 have e := congrArg (λb : ByteArray => Nd.v4 (Nd.bs b)) h
 have h1 : Nd.v4 (Nd.n4 i.toNat) = i.toNat := Nd.v4_n4 (by omega)
 have h2 : Nd.v4 (Nd.n4 j.toNat) = j.toNat := Nd.v4_n4 (by omega)
 have e : Nd.v4 (Nd.n4 i.toNat) = Nd.v4 (Nd.n4 j.toNat) := e
 omega
theorem key_size (i : Int) : (key i).size = 4 := rfl
theorem get_kv {l : List Item} (hl : Ub l) {i : Int} (hi : 0 <= i /\ i < 4294967296) : Tr.get (kv l) (key i) = (node l i).map txt := by
 induction l with
 | nil => rfl
 | cons y l ih =>
  show (if key y.1 = key i then some (txt y.2) else Tr.get (kv l) (key i)) = _
  unfold node
  by_cases e : y.1 = i
  ·rw [if_pos (by rw [e]), if_pos e]; rfl
  ·rw [if_neg (λh => e (key_inj (hl y List.mem_cons_self) hi h)), if_neg e]
   exact ih λz hz => hl z (List.mem_cons_of_mem _ hz)
theorem del_kv {l : List Item} (hl : Ub l) {i : Int} (hi : 0 <= i /\ i < 4294967296) : Tr.del (kv l) (key i) = kv (dropL l i) := by
 unfold Tr.del kv dropL
 rw [List.filter_map]
 congr 1
 refine List.filter_congr λy hy => ?_
 show decide (key y.1 ≠ key i) = decide (y.1 ≠ i)
 refine decide_eq_decide.2 (not_congr ⟨λh => key_inj (hl y hy) hi h, λh => by rw [h]⟩)
theorem dropL_none {l : List Item} {i : Int} (h : ∀ y ∈ l, y.1 ≠ i) : dropL l i = l := List.filter_eq_self.2 λy hy => by simpa using h y hy
theorem setL_cons {y : Item} {l : List Item} {i : Int} {x : Node} (h : y.1 ≠ i) : setL (y :: l) i x = y :: setL l i x := by
 unfold setL
 rw [List.map_cons, if_neg h, node, if_neg h, List.cons_append]
theorem setL_no {l : List Item} {i : Int} {x : Node} (h : ∀ y ∈ l, y.1 ≠ i) : (l.map λy => if y.1 = i then (i, x) else y) = l := by
 conv => rhs; rw [<- List.map_id l]
 exact List.map_congr_left λy hy => if_neg (h y hy)
theorem put_kv {l : List Item} (hl : Ub l) (h : Rising l) {i : Int} (hi : 0 <= i /\ i < 4294967296) (x : Node) (hx : (node l i).isSome = true \/ ∀ y ∈ l, y.1 < i) : Tr.put less (kv l) (key i) (txt x) = kv (setL l i x) := by
 induction l with
 | nil => rfl
 | cons y l ih =>
  have hy := hl y List.mem_cons_self
  have hl' : Ub l := λz hz => hl z (List.mem_cons_of_mem _ hz)
  obtain ⟨h1, h2⟩ := List.pairwise_cons.1 h
  show (if less (key y.1) (key i) = true then (key y.1, txt y.2) :: Tr.put less (kv l) (key i) (txt x) else (key i, txt x) :: Tr.del (kv (y :: l)) (key i)) = _
  rw [key_less hy hi]
  by_cases e : y.1 < i
  ·rw [if_pos (decide_eq_true e), setL_cons (Int.ne_of_lt e), ih hl' h2 ?_]
   ·rfl
   ·rcases hx with hx | hx
    ·unfold node at hx
     rw [if_neg (Int.ne_of_lt e)] at hx
     exact .inl hx
    ·exact .inr λz hz => hx z (List.mem_cons_of_mem _ hz)
  ·rw [if_neg (by simpa using e), del_kv hl hi]
   rcases hx with hx | hx
   ·by_cases e2 : y.1 = i
    ·have hn : ∀ z ∈ l, z.1 ≠ i := λz hz => by have := h1 z hz; omega
     have hd : dropL (y :: l) i = l := by
      unfold dropL
      rw [List.filter_cons, if_neg (by simp [e2])]
      exact dropL_none hn
     have hs : setL (y :: l) i x = (i, x) :: l := by
      unfold setL
      rw [List.map_cons, if_pos e2, setL_no hn, node, if_pos e2]
      simp
     rw [hd, hs]; rfl
    ·have : node l i = none := node_none.2 λz hz => by have := h1 z hz; omega
     unfold node at hx
     rw [if_neg e2, this] at hx
     cases hx
   ·exact absurd (hx y List.mem_cons_self) e
theorem kv_len (l : List Item) : (kv l).length = l.length := List.length_map _
theorem kv_keys (l : List Item) : (kv l).map (·.1) = l.map λy => key y.1 := by unfold kv; rw [List.map_map]; rfl
end Fs
namespace Nm
def right (l : List UInt8) : Bool := l.all (λx => x != 47 && x != 0) && decide (1 <= l.length) && decide (l.length <= 16) && (l != [46]) && (l != [46, 46])
def pieces : List UInt8 -> List (List UInt8)
 | [] => [[]]
 | x :: l => if x = 47 then [] :: pieces l else match pieces l with
  | [] => [[x]]
  | c :: cs => (x :: c) :: cs
theorem pieces_ne (l : List UInt8) : pieces l ≠ [] := by
 cases l with
 | nil => simp [pieces]
 | cons x l =>
  unfold pieces
  split
  ·simp
  ·split <;> simp
theorem pieces_none {c : List UInt8} (h : ∀ x ∈ c, x ≠ 47) : pieces c = [c] := by
 induction c with
 | nil => rfl
 | cons x c ih =>
  rw [pieces, if_neg (h x (by simp)), ih (λy hy => h y (by simp [hy]))]
theorem pieces_cut {c l : List UInt8} (h : ∀ x ∈ c, x ≠ 47) : pieces (c ++ 47 :: l) = c :: pieces l := by
 induction c with
 | nil => rw [List.nil_append, pieces, if_pos rfl]
 | cons x c ih =>
  rw [List.cons_append, pieces, if_neg (h x (by simp)), ih (λy hy => h y (by simp [hy]))]
def split (p : List UInt8) : Option (List (List UInt8)) :=
 if p = [47] then some [] else match p with
 | [] => none
 | x :: l => if x = 47 /\ (pieces l).all right = true /\ (pieces l).length <= 8 then some (pieces l) else none
def pathOf (ns : List (List UInt8)) : List UInt8 := if ns = [] then [47] else (ns.map (47 :: ·)).flatten
def join (ns : List (List UInt8)) : Option (List UInt8) := if ns.length <= 8 /\ ns.all right = true then some (pathOf ns) else none
theorem right_none {c : List UInt8} (h : right c = true) : ∀ x ∈ c, x ≠ 47 := by
 intro x hx e
 unfold right at h
 simp only [Bool.and_eq_true, List.all_eq_true] at h
 have := h.1.1.1.1 x hx
 subst e; simp at this
theorem right_ne {c : List UInt8} (h : right c = true) : c ≠ [] := by
 rintro rfl; simp [right] at h
theorem pieces_flat {n : List UInt8} {ns : List (List UInt8)} (h : ∀ c ∈ n :: ns, right c = true) : pieces (n ++ (ns.map (47 :: ·)).flatten) = n :: ns := by
 induction ns generalizing n with
 | nil => rw [List.map_nil, List.flatten_nil, List.append_nil]; exact pieces_none (right_none (h n (by simp)))
 | cons m ns ih =>
  rw [List.map_cons, List.flatten_cons, List.cons_append, pieces_cut (right_none (h n (by simp))), ih (λc hc => h c (by simp [List.mem_cons] at hc |-; exact .inr hc))]
theorem flat_pieces (l : List UInt8) : 47 :: l = ((pieces l).map (47 :: ·)).flatten := by
 induction l with
 | nil => rfl
 | cons x l ih =>
  unfold pieces
  split
  ·rename_i hx
   subst hx
   rw [List.map_cons, List.flatten_cons, <- ih]; rfl
  ·cases hp : pieces l with
   | nil => exact absurd hp (pieces_ne l)
   | cons c cs =>
    rw [hp] at ih
    simp only [List.map_cons, List.flatten_cons, List.cons_append, List.cons.injEq, true_and] at ih |-
    exact ih
theorem join_split {p : List UInt8} {ns : List (List UInt8)} (h : split p = some ns) : join ns = some p := by
 unfold split at h
 split at h
 ·rename_i hp
  cases h; subst hp; rfl
 ·split at h
  ·cases h
  ·rename_i x l _
   split at h
   ·rename_i hx
    obtain ⟨rfl, hr, hl⟩ := hx
    cases h
    unfold join pathOf
    rw [if_pos ⟨hl, hr⟩, if_neg (pieces_ne l), <- flat_pieces]
   ·cases h
theorem split_join {ns : List (List UInt8)} {p : List UInt8} (h : join ns = some p) : split p = some ns := by
 unfold join at h
 split at h
 ·rename_i hx
  obtain ⟨hl, hr⟩ := hx
  cases h
  cases ns with
  | nil => rfl
  | cons n ns =>
   have hr' : ∀ c ∈ n :: ns, right c = true := List.all_eq_true.1 hr
   have e : pathOf (n :: ns) = 47 :: (n ++ (ns.map (47 :: ·)).flatten) := by
    unfold pathOf; rw [if_neg (by simp), List.map_cons, List.flatten_cons]; rfl
   rw [e]
   unfold split
   rw [if_neg (by
    intro h2
    have h3 := congrArg List.tail h2
    simp only [List.tail_cons] at h3
    exact right_ne (hr' n (by simp)) (List.append_eq_nil_iff.1 h3).1)]
   show (if _ then _ else _) = _
   rw [pieces_flat hr', if_pos ⟨rfl, hr, hl⟩]
 ·cases h
theorem split_top : split [47] = some [] := by unfold split; rw [if_pos rfl]
def within (a b : List UInt8) : Bool := match split a, split b with
 | some x, some y => x.isPrefixOf y
 | _, _ => false
theorem split_is {p : List UInt8} (h0 : p.getD 0 0 = 47) (hl : 1 <= p.length) (h1 : p ≠ [47]) : split p = if (pieces (p.drop 1)).all right = true /\ (pieces (p.drop 1)).length <= 8 then some (pieces (p.drop 1)) else none := by
 cases p with
 | nil => simp at hl
 | cons x l =>
  simp only [List.getD_cons_zero] at h0
  subst h0
  unfold split
  rw [if_neg h1]
  simp
theorem split_no {p : List UInt8} (h1 : p ≠ [47]) (h : p.length = 0 \/ p.getD 0 0 ≠ 47) : split p = none := by
 unfold split
 rw [if_neg h1]
 cases p with
 | nil => rfl
 | cons x l =>
  simp only [List.getD_cons_zero, List.length_cons] at h
  show (if _ then _ else _) = _
  rw [if_neg (by rintro ⟨e, _⟩; rcases h with h | h; omega; exact h e)]
end Nm
namespace Go.Proofs.YthbajmlmjjfgpaaGreatDoor
open Go.RowKit Go.Less
attribute [local go_sem 9000] sem_eql sem_neq sem_lss sem_leq sem_gtr sem_geq
abbrev En := Nd.En
def ecell (x : En) : List Value := [.string x.1, .int .i64 x.2]
def erow (l : List En) : List Value := l.flatMap ecell
theorem erow_length (l : List En) : (erow l).length = l.length * 2 := by
 induction l with
 | nil => rfl
 | cons x l ih => simp [erow, ecell] at ih |-; omega
theorem erow_append (a b : List En) : erow (a ++ b) = erow a ++ erow b := by simp [erow]
abbrev z0 : En := (⟨#[]⟩, 0)
theorem erow_get (l : List En) (i j : Nat) (hi : i < l.length) (hj : j < 2) : (erow l)[i * 2 + j]? = (ecell (l.getD i z0))[j]? := by
 induction l generalizing i with
 | nil => cases hi
 | cons x l ih =>
  have e : erow (x :: l) = ecell x ++ erow l := rfl
  rw [e]
  have hl : (ecell x).length = 2 := rfl
  cases i with
  | zero =>
   rw [List.getElem?_append_left (by rw [hl]; omega)]
   simp [List.getD]
  | succ i =>
   rw [List.getElem?_append_right (by rw [hl]; omega), hl, show (i + 1) * 2 + j - 2 = i * 2 + j by omega, ih i (by simpa using hi)]
   simp [List.getD]
structure Ents (a : Option Addr) (n : Nat) (l : List En) (w : World) : Prop where
 count : n = l.length
 cell : ∀ i, i < n -> ∃ b off, a = some ⟨b, off, none⟩ /\ w.cell? ⟨b, off + i * 2, none⟩ = some (.string (l.getD i z0).1) /\ w.cell? ⟨b, off + i * 2 + 1, none⟩ = some (.int .i64 (l.getD i z0).2)
theorem Ents.below {a : Option Addr} {n : Nat} {l : List En} {w w' : World} (h : Ents a n l w) (hb : Below w.heap.size w w') : Ents a n l w' :=
 ⟨h.count, λi hi => by
  obtain ⟨b, off, rfl, h0, h1⟩ := h.cell i hi
  have hl := block_lt_of_cell h0
  exact ⟨b, off, rfl, (hb.cell (p := ⟨b, off + i * 2, none⟩) hl).trans h0, (hb.cell (p := ⟨b, off + i * 2 + 1, none⟩) hl).trans h1⟩⟩
theorem own_ents {base : Nat} {a : Option Addr} {n cap : Nat} {l : List En} {w : World} (h : w.ownsRow base 146 2 (.slice a n cap) n (erow l)) : Ents a n l w := by
 have hn : n = l.length := by have := h.1; rw [erow_length] at this; omega
 refine ⟨hn, λi hi => ?_⟩
 have h2 := h
 obtain ⟨hl, ⟨e, h0⟩ | ⟨g, cap', cur, e, _⟩⟩ := h
 ·omega
 ·injection e with e1 e2 e3
  subst e1
  subst e3
  refine ⟨g, 0, rfl, ?_, ?_⟩
  ·rw [Nat.zero_add, World.ownsRow.cellAt h2 (i * 2) (by omega)]
   have := erow_get l i 0 (by omega) (by omega)
   rw [Nat.add_zero] at this
   rw [this]; rfl
  ·rw [Nat.zero_add, World.ownsRow.cellAt h2 (i * 2 + 1) (by omega), erow_get l i 1 (by omega) (by omega)]; rfl
abbrev nv (k m : Int) (d t : ByteArray) (a : Option Addr) (n cap : Nat) : Value := .agg #[.int .i64 k, .int .i64 m, .string d, .string t, .slice a n cap]
theorem take_snoc {α : Type} {l : List α} {i : Nat} (h : i < l.length) (z : α) : l.take (i + 1) = l.take i ++ [l.getD i z] := by
 rw [List.take_succ_eq_append_getElem h]; simp [List.getD, List.getElem?_eq_getElem h]
def Found (l : List En) (k : ByteArray) (w : World) (e : Ending) (w' : World) : Prop := e = .returned (.tuple #[.int .i64 ((Nd.find l k).getD 0), .bool (Nd.find l k).isSome]) /\ Below w.heap.size w w'
def sameE (x y : En) : Bool := decide (x = y)
theorem sameE_eq (a b : ByteArray) (p q : Int) : sameE (a, p) (b, q) = (alike a b && (p == q)) := by
 unfold sameE alike
 rw [Bool.eq_iff_iff]
 simp [Prod.ext_iff]
theorem fields46 : (prog.fieldsOf 146).toList.map (λf => (f.type, f.offset, decide (f.name ≠ "_"))) = [(9, 0, true), (3, 1, true)] := by kernel_rfl
theorem part_n (W : World) (a : ByteArray) (p : Int) : (part 9 #[.string a, .int .i64 p] 0).run prog W = .ok (.string a) W := by
 simp [part, Tryz.isAgg9, Tryz.sizeOf9]
theorem part_i (W : World) (a : ByteArray) (p : Int) : (part 3 #[.string a, .int .i64 p] 1).run prog W = .ok (.int .i64 p) W := by
 simp [part, Tryz.isAgg3, Tryz.sizeOf3]
theorem fld {P : Program} (d : Nat) (xs ys : Array Value) (f : Field) (fs : List Field) (hn : f.name ≠ "_") {a b : Value} {r : Bool} (W : World) (ha : (part f.type xs f.offset).run P W = .ok a W) (hb : (part f.type ys f.offset).run P W = .ok b W)
  (hr : (Op.equalIn d f.type a b).run P W = .ok r W) : (Op.eqFields d xs ys (f :: fs)).run P W = if r then (Op.eqFields d xs ys fs).run P W else .ok false W := by
 conv => lhs; rw [Op.eqFields]
 rw [if_pos hn]
 simp only [Sem.run_bind, ha, hb, hr, Result.andThen_ok]
 cases r <;> simp
theorem eq_fields (W : World) (fs : List Field) (h : fs.map (λf => (f.type, f.offset, decide (f.name ≠ "_"))) = [(9, 0, true), (3, 1, true)]) (a b : ByteArray) (p q : Int) :
  (Op.eqFields 9999 #[.string a, .int .i64 p] #[.string b, .int .i64 q] fs).run prog W = .ok (sameE (a, p) (b, q)) W := by
 obtain ⟨f0, fs, rfl, h0, h⟩ := List.map_eq_cons_iff.1 h
 obtain ⟨f1, fs, rfl, h1, h⟩ := List.map_eq_cons_iff.1 h
 obtain rfl := List.map_eq_nil_iff.1 h
 simp only [Prod.mk.injEq, decide_eq_true_eq] at h0 h1
 obtain ⟨t0, o0, n0⟩ := h0
 obtain ⟨t1, o1, n1⟩ := h1
 rw [fld _ _ _ _ _ n0 W (by rw [t0, o0]; exact part_n W a p) (by rw [t0, o0]; exact part_n W b q) (by rw [t0]; exact run_equalIn_string W 9998 9 _ _ underlying9), alike_is]
 rw [fld _ _ _ _ _ n1 W (by rw [t1, o1]; exact part_i W a p) (by rw [t1, o1]; exact part_i W b q) (by rw [t1]; exact run_equalIn_int W 9998 3 .i64 .i64 _ _ underlying3)]
 rw [sameE_eq]
 cases alike a b <;> cases (p == q) <;> simp [Op.eqFields]
theorem eq46 (W : World) (a b : ByteArray) (p q : Int) : (Op.equalIn 10000 146 (.agg #[.string a, .int .i64 p]) (.agg #[.string b, .int .i64 q])).run prog W = .ok (sameE (a, p) (b, q)) W := by
 rw [show (10000 : Nat) = 9999 + 1 from rfl, run_equalIn_struct W 9999 146 _ _ (by kernel_rfl) (by kernel_rfl)]
 exact eq_fields W _ fields46 a b p q
theorem neq_ent (W : World) (a b : ByteArray) (p q : Int) : (binOp .neq 146 (.agg #[.string a, .int .i64 p]) (.agg #[.string b, .int .i64 q])).run prog W = .ok (.bool (!sameE (a, p) (b, q))) W := by
 rw [run_neq_struct, eq46 W a b p q]; rfl
def Samed (b : Bool) (w : World) (e : Ending) (w' : World) : Prop := e = .returned (.bool b) /\ Below w.heap.size w w'
theorem bdn {B : Nat} {w w1 : World} (h : Below B w w1) (n : Nat) : Below B w (w1.drewN n) := by
 induction n with
 | zero => exact h
 | succ n ih => exact ih.drew
attribute [local go_sem 9000] neq_ent
end Go.Proofs.YthbajmlmjjfgpaaGreatDoor
namespace Go.Proofs.YthbajmlmjjfgpaaGreatDoor
open Go.RowKit Go.Less
theorem owns_form {w : World} {base : Nat} {e : TypeId} {size : Nat} {v : Value} {n : Nat} {xs : List Value} (h : w.ownsRow base e size v n xs) : ∃ a c, v = .slice a n c := by
 obtain ⟨_, ⟨rfl, rfl⟩ | ⟨g, cap, _, rfl, _⟩⟩ := h
 ·exact ⟨_, _, rfl⟩
 ·exact ⟨_, _, rfl⟩
theorem owns_lt {w : World} {base : Nat} {e : TypeId} {size : Nat} {v : Value} {n : Nat} {xs : List Value} (h : w.ownsRow base e size v n xs) : ∀ k, v.ownBlock = some k -> base <= k := λk hk => (World.ownsRow.lt h k hk).1
theorem owned_below {w w' : World} {base : Nat} {e : TypeId} {size : Nat} {v : Value} {n : Nat} {xs : List Value} (h : w.ownsRow base e size v n xs) (hb : Below w.heap.size w w') : w'.ownsRow base e size v n xs :=
 World.ownsRow.kept h (⟨hb.os, hb.tape, hb.output, hb.size, λk hk _ => hb.block k hk⟩ : w.grownBy w' none) (by cases v.ownBlock <;> simp)
abbrev Own (base : Nat) (v : Value) (l : List En) (w : World) : Prop := w.ownsRow base 146 2 v l.length (erow l)
theorem own_nil (w : World) (base : Nat) : Own base (.slice none 0 0) [] w := ⟨rfl, .inl ⟨rfl, rfl⟩⟩
theorem info46 : (prog.info? 146).map (λi => (i.zero, i.size, i.bytes)) = some (some (.agg #[.string ⟨#[]⟩, .int .i64 0]), 2, 24) := by kernel_rfl
theorem at_ent {ops : Array Oper} {rest : List Oper} {o : Oper} {a : Act} {Q : Exit -> Act -> World -> Prop} {w : World} (hgd : o.guard = none) (s x : Operand)
  (ho : o.op = .call { callee := .builtin .append, args := #[s, x], argTypes := #[65, 65] })
  (base : Nat) (v : Value) (l : List En) (hs : a.eval s = v) (hown : Own base v l w)
  (b : Nat) (u : En) (hx : a.eval x = .slice (some ⟨b, 0, none⟩) 1 1) (hc : w.heap[b]? = some (.cells #[.string u.1, .int .i64 u.2] 146 (0, 0))) (hn : l.length <= 1000000) (hbase : base <= w.heap.size)
  (h : ∀ ao' cap' w', Own base (.slice ao' (l.length + 1) cap') (l ++ [u]) w' -> w.grownBy w' v.ownBlock -> wpList prog ops Q rest (a.put o.dst (.slice ao' (l.length + 1) cap')) w') :
  wpList prog ops Q (o :: rest) a w := by
 obtain ⟨i0, hi, hz0, hz1, hz2⟩ := info_parts info46
 refine wpList_append_own w hgd s x 65 ho base 146 i0 (.agg #[.string ⟨#[]⟩, .int .i64 0]) 2 24 underlying65 hi hz0 hz1 hz2 rfl (by decide) v l.length (erow l) hs hown ⟨b, 0, none⟩ 1 1 (ecell u) hx rfl ?_ ?_ (by unfold maxLen; omega) (by omega) hbase ?_
 ·intro j y hj
  rw [show (⟨b, 0, none⟩ : Addr).add j = ⟨b, j, none⟩ by unfold Addr.add; split <;> simp_all]
  match j with
  | 0 => simp [ecell] at hj; subst hj; simp [World.cell?, hc]
  | 1 => simp [ecell] at hj; subst hj; simp [World.cell?, hc]
  | j + 2 => simp [ecell] at hj
 ·intro y hy
  simp [ecell] at hy
  rcases hy with rfl | rfl <;> rfl
 ·intro v' w' hown' hg _
  obtain ⟨ao', cap', rfl⟩ := owns_form hown'
  refine h ao' cap' w' ?_ hg
  unfold Own
  rw [List.length_append, erow_append]
  simpa [erow, ecell] using hown'
theorem size24 : (prog.info? 67).map (·.size) = some 5 := by kernel_rfl
theorem results_nd {fn : Func} {p u : Tmp} (h : fn.results = #[.cell p 67, .tmp u]) (tmps : Array Value) (w : World) (g : Nat) (k m d t e : Value)
  (hp : tmps.getD p undef = .pointer (some ⟨g, 0, none⟩)) (hg : w.heap[g]? = some (.cells #[k, m, d, t, e] 67 (0, 0))) :
  (results fn tmps).run prog w = .ok (.tuple #[.agg #[k, m, d, t, e], tmps.getD u undef]) w := by
 rw [results_cell_tmp h, hp]
 simp [asAddr, Result.andThen, run_loadVar_row (P := prog) w g 67 67 #[k, m, d, t, e] (0, 0) _ hg underlying67 rfl size24]
theorem cell_obj {w : World} {b : Nat} {cs : Array Value} {t : TypeId} {fr : Nat × Nat} (h : w.heap[b]? = some (.cells cs t fr)) (k : Nat) : w.cell? ⟨b, k, none⟩ = cs[k]? := by
 simp [World.cell?, h]
theorem free_obj {w : World} {b : Nat} {cs : Array Value} {t : TypeId} (h : w.heap[b]? = some (.cells cs t (0, 0))) (k : Nat) : w.frozen? ⟨b, k, none⟩ = false := by
 simp [World.frozen?, h]
theorem lt_of_obj {w : World} {b : Nat} {o : Obj} (h : w.heap[b]? = some o) : b < w.heap.size := (Array.getElem?_eq_some_iff.1 h).1
theorem grown_obj {w w' : World} {row : Option Nat} {b : Nat} {o : Obj} (hg : w.grownBy w' row) (h : w.heap[b]? = some o) (hne : some b ≠ row) : w'.heap[b]? = some o := (hg.block b (lt_of_obj h) hne).trans h
theorem cut_none {l : List En} {k : ByteArray} (h : Nd.find l k = none) : Nd.cut l k = l := by
 induction l with
 | nil => rfl
 | cons x l ih =>
  have hx : x.1 ≠ k := Nd.find_none.1 h x List.mem_cons_self
  have hl : Nd.find l k = none := by unfold Nd.find at h; rwa [if_neg hx] at h
  unfold Nd.cut; rw [if_neg hx, ih hl]
def Noded (r : Nd.Node × Int) (w : World) (e : Ending) (w' : World) : Prop :=
 ∃ a cap, e = .returned (.tuple #[nv r.1.kind r.1.mode r.1.data r.1.target a r.1.ents.length cap, .int .i64 r.2]) /\ Ents a r.1.ents.length r.1.ents w' /\ Below w.heap.size w w'
end Go.Proofs.YthbajmlmjjfgpaaGreatDoor
namespace Go.Proofs.YthbajmlmjjfgpaaGreatDoor
section
variable {w : World} {b : Nat} {a0 a1 a2 a3 a4 a5 a6 : Value} {t : TypeId} {fr : Nat × Nat}
theorem bxc2 (h : w.heap[b]? = some (.cells #[a0, a1] t fr)) : w.cell? ⟨b, 0, none⟩ = some a0 /\ w.cell? ⟨b, 1, none⟩ = some a1 := ⟨cell_obj h 0, cell_obj h 1⟩
theorem bxc5 (h : w.heap[b]? = some (.cells #[a0, a1, a2, a3, a4] t fr)) : w.cell? ⟨b, 0, none⟩ = some a0 /\ w.cell? ⟨b, 1, none⟩ = some a1 /\ w.cell? ⟨b, 2, none⟩ = some a2 /\ w.cell? ⟨b, 3, none⟩ = some a3 /\ w.cell? ⟨b, 4, none⟩ = some a4 := ⟨cell_obj h 0, cell_obj h 1, cell_obj h 2, cell_obj h 3, cell_obj h 4⟩
end
section
variable {w : World} {b : Nat} {cs : Array Value} {t : TypeId}
theorem bxf5 (h : w.heap[b]? = some (.cells cs t (0, 0))) : w.frozen? ⟨b, 0, none⟩ = false /\ w.frozen? ⟨b, 1, none⟩ = false /\ w.frozen? ⟨b, 2, none⟩ = false /\ w.frozen? ⟨b, 3, none⟩ = false /\ w.frozen? ⟨b, 4, none⟩ = false := ⟨free_obj h 0, free_obj h 1, free_obj h 2, free_obj h 3, free_obj h 4⟩
end
end Go.Proofs.YthbajmlmjjfgpaaGreatDoor
namespace Go.Proofs.YthbajmlmjjfgpaaGreatDoor
open Go.RowKit Go.Less
attribute [local go_sem 9000] sem_eql sem_neq sem_lss sem_leq sem_gtr sem_geq
abbrev zc : Array Value := #[.int .i64 0, .int .i64 0, .string ⟨#[]⟩, .string ⟨#[]⟩, .slice none 0 0]
theorem ents_nil (w : World) : Ents none 0 [] w := ⟨rfl, λi hi => by omega⟩
structure Gat (w : World) (cs : Array Value) (l : List En) (v : Value) (wr : World) : Prop where
 own : Own (w.heap.size + 2) v l wr
 box : wr.heap[w.heap.size]? = some (.cells cs 67 (0, 0))
 res : wr.heap[w.heap.size + 1]? = some (.cells zc 67 (0, 0))
 big : w.heap.size + 2 <= wr.heap.size
 below : Below w.heap.size w wr
theorem gat_more {w wr w4 : World} {cs : Array Value} {l : List En} {v v4 : Value} {x : En} {o : Obj} (h : Gat w cs l v wr) (hO : Own (w.heap.size + 2) v l (wr.alloc o)) (hg : (wr.alloc o).grownBy w4 v.ownBlock)
  (hown : Own (w.heap.size + 2) v4 (l ++ [x]) w4) : Gat w cs (l ++ [x]) v4 w4 := by
 have hA := (Below.refl wr.heap.size wr).alloc (Nat.le_refl _) o
 have big := h.big
 have hne : ∀ y, y < w.heap.size + 2 -> some y ≠ v.ownBlock := λy hy e => by have := owns_lt hO y e.symm; omega
 have hbig : wr.heap.size <= (wr.alloc o).heap.size := hA.size
 have hs : (wr.alloc o).heap.size <= w4.heap.size := hg.size
 refine ⟨hown, grown_obj hg ((hA.block _ (lt_of_obj h.box)).trans h.box) (hne _ (by omega)), grown_obj hg ((hA.block _ (lt_of_obj h.res)).trans h.res) (hne _ (by omega)), by omega, ?_⟩
 exact (h.below.trans (hA.mono h.below.size)).grown hg (Nat.le_trans h.below.size hbig) (λj hj => by have := owns_lt hO j hj; omega)
theorem set5 {w : World} {g : Nat} {x0 x1 x2 x3 x4 : Value} (v0 v1 v2 v3 v4 : Value) (h : w.heap[g]? = some (.cells #[x0, x1, x2, x3, x4] 67 (0, 0))) :
  (((((w.setCell ⟨g, 0, none⟩ v0).setCell ⟨g, 1, none⟩ v1).setCell ⟨g, 2, none⟩ v2).setCell ⟨g, 3, none⟩ v3).setCell ⟨g, 4, none⟩ v4).heap[g]? = some (.cells #[v0, v1, v2, v3, v4] 67 (0, 0)) := by
 have h0 := heap_setCell_same w g 0 _ 67 v0 h
 have h1 := heap_setCell_same _ g 1 _ 67 v1 h0
 have h2 := heap_setCell_same _ g 2 _ 67 v2 h1
 have h3 := heap_setCell_same _ g 3 _ 67 v3 h2
 have h4 := heap_setCell_same _ g 4 _ 67 v4 h3
 simpa using h4
theorem below5 {n0 : Nat} {w W : World} {g : Nat} (h : Below n0 w W) (hg : n0 <= g) (v0 v1 v2 v3 v4 : Value) :
  Below n0 w (((((W.setCell ⟨g, 0, none⟩ v0).setCell ⟨g, 1, none⟩ v1).setCell ⟨g, 2, none⟩ v2).setCell ⟨g, 3, none⟩ v3).setCell ⟨g, 4, none⟩ v4) :=
 ((((h.setCell hg v0).setCell hg v1).setCell hg v2).setCell hg v3).setCell hg v4
theorem own_set {base : Nat} {v : Value} {l : List En} {w : World} (h : Own base v l w) {g : Nat} (hg : g < base) (k : Nat) (y : Value) : Own base v l (w.setCell ⟨g, k, none⟩ y) := by
 refine World.ownsRow.kept h (?_ : w.grownBy _ (some g)) (.inr λe => ?_)
 ·exact ⟨rfl, rfl, rfl, by simp [World.setCell], λj hj hne => heap_setCell_other w ⟨g, k, none⟩ j _ (λe => hne (by rw [e]))⟩
 ·have := owns_lt h g e; omega
theorem own_set5 {base : Nat} {v : Value} {l : List En} {w : World} (h : Own base v l w) {g : Nat} (hg : g < base) (v0 v1 v2 v3 v4 : Value) :
  Own base v l (((((w.setCell ⟨g, 0, none⟩ v0).setCell ⟨g, 1, none⟩ v1).setCell ⟨g, 2, none⟩ v2).setCell ⟨g, 3, none⟩ v3).setCell ⟨g, 4, none⟩ v4) :=
 own_set (own_set (own_set (own_set (own_set h hg 0 v0) hg 1 v1) hg 2 v2) hg 3 v3) hg 4 v4
theorem size1 (w : World) (x : Obj) : (w.alloc x).heap.size = w.heap.size + 1 := by simp
theorem two0 (w : World) (x y : Obj) : ((w.alloc x).alloc y).heap[w.heap.size]? = some x := by
 have h := heap_alloc_new w x
 have hb := (Below.refl (w.alloc x).heap.size (w.alloc x)).alloc (Nat.le_refl _) y
 exact (hb.block _ (lt_of_obj h)).trans h
theorem two1 (w : World) (x y : Obj) : ((w.alloc x).alloc y).heap[w.heap.size + 1]? = some y := by rw [<- size1 w x]; exact heap_alloc_new _ _
theorem two2 (w : World) (x y : Obj) : w.heap.size + 2 <= ((w.alloc x).alloc y).heap.size := by rw [size1, size1]; exact Nat.le_refl _
end Go.Proofs.YthbajmlmjjfgpaaGreatDoor
namespace Go.Proofs.YthbajmlmjjfgpaaGreatDoor
open Go.RowKit
structure Strs (a : Option Addr) (len : Nat) (ss : List ByteArray) (w : World) : Prop where
 count : len = ss.length
 cell : ∀ i, i < len -> ∃ b off, a = some ⟨b, off, none⟩ /\ w.cell? ⟨b, off + i, none⟩ = some (.string (ss.getD i ByteArray.empty))
theorem Strs.below {a : Option Addr} {len : Nat} {ss : List ByteArray} {w w' : World} (h : Strs a len ss w) (hb : Below w.heap.size w w') : Strs a len ss w' :=
 ⟨h.count, λi hi => by
  obtain ⟨b, off, ha, hc⟩ := h.cell i hi
  exact ⟨b, off, ha, (hb.cell (p := ⟨b, off + i, none⟩) (block_lt_of_cell hc)).trans hc⟩⟩
def lstr (l : List UInt8) : ByteArray := ⟨l.toArray⟩
theorem lstr_size (l : List UInt8) : (lstr l).size = l.length := by show l.toArray.size = _; rw [List.size_toArray]
theorem lstr_append (a b : List UInt8) : lstr a ++ lstr b = lstr (a ++ b) := by
 apply ByteArray.ext
 rw [ByteArray.data_append]
 apply Array.ext'
 rw [Array.toList_append]; rfl
theorem lstr_nil : lstr [] = ⟨#[]⟩ := rfl
theorem lstr_own (s : ByteArray) : lstr s.data.toList = s := rfl
theorem lstr_data (l : List UInt8) : (lstr l).data.toList = l := rfl
theorem str_empty {d : ByteArray} (h : d.size = 0) : d = ⟨#[]⟩ := Go.WideShapes.bytes_inj (List.eq_nil_of_length_eq_zero (Array.length_toList.trans h))
theorem cut_text (x : ByteArray) (a n : Nat) (_ : a + n <= x.size) : x.extract a (a + n) = lstr ((x.data.toList.drop a).take n) := by
 apply Go.WideShapes.bytes_inj
 rw [ByteArray.data_extract, Array.toList_extract, List.extract_eq_take_drop, Nat.add_sub_cancel_left]
 rfl
def Trow (base : Nat) (v : Value) (ls : List (List UInt8)) (w : World) : Prop := w.ownsRow base 9 1 v ls.length (ls.map λl => .string (lstr l))
theorem trow_below {base : Nat} {v : Value} {ls : List (List UInt8)} {w w' : World} (h : Trow base v ls w) (hb : Below w.heap.size w w') : Trow base v ls w' :=
 World.ownsRow.kept h (⟨hb.os, hb.tape, hb.output, hb.size, λk hk _ => hb.block k hk⟩ : w.grownBy w' none) (by cases v.ownBlock <;> simp)
theorem trow_form {base : Nat} {v : Value} {ls : List (List UInt8)} {w : World} (h : Trow base v ls w) : ∃ a c, v = .slice a ls.length c := by
 obtain ⟨_, ⟨rfl, h0⟩ | ⟨g, cap, _, rfl, _⟩⟩ := h
 ·exact ⟨none, 0, by rw [h0]⟩
 ·exact ⟨_, _, rfl⟩
theorem trow_lt {base : Nat} {v : Value} {ls : List (List UInt8)} {w : World} (h : Trow base v ls w) : ∀ k, v.ownBlock = some k -> base <= k := λk hk => (World.ownsRow.lt h k hk).1
theorem trow_strs {base n : Nat} {a : Option Addr} {c : Nat} {ls : List (List UInt8)} {w : World} (h : Trow base (.slice a n c) ls w) (hn : n = ls.length) : Strs a n (ls.map lstr) w := by
 subst hn
 have h2 := h
 refine ⟨(List.length_map _).symm, λi hi => ?_⟩
 obtain ⟨_, ⟨e, h0⟩ | ⟨g, cap, cur, e, _⟩⟩ := h
 ·omega
 ·injection e with e1 e2 e3
  subst e1
  subst e3
  refine ⟨g, 0, rfl, ?_⟩
  rw [Nat.zero_add, World.ownsRow.cellAt h2 i (by omega), List.getElem?_map, List.getElem?_eq_getElem hi]
  simp [List.getD, List.getElem?_eq_getElem hi]
theorem info9c : (prog.info? 9).map (λi => (i.zero, i.size, i.bytes)) = some (some (.string ⟨#[]⟩), 1, 16) := by kernel_rfl
theorem str_eq {x y : ByteArray} (h : x = y) : (x.toList == y.toList) = true := by rw [h, beq_iff_eq]
theorem str_ne {x y : ByteArray} (h : x ≠ y) : (x.toList == y.toList) = false := by
 rw [beq_eq_false_iff_ne]
 intro e
 rw [ByteArray.toList_eq, ByteArray.toList_eq] at e
 exact h (Go.WideShapes.bytes_inj e)
def talike (x y : ByteArray) : Bool := decide (x = y)
theorem talike_is (x y : ByteArray) : (x.toList == y.toList) = talike x y := by
 unfold talike
 by_cases h : x = y
 ·rw [str_eq h, decide_eq_true h]
 ·rw [str_ne h, decide_eq_false h]
theorem sem_stralike (t : TypeId) (x y : ByteArray) : binOp .eql t (.string x) (.string y) = pure (.bool (talike x y)) := by rw [binOp_string_eql, talike_is]
theorem sem_strnot (t : TypeId) (x y : ByteArray) : binOp .neq t (.string x) (.string y) = pure (.bool (!talike x y)) := by rw [binOp_string_neq, talike_is]
attribute [local go_sem 9000] sem_stralike sem_strnot
end Go.Proofs.YthbajmlmjjfgpaaGreatDoor
