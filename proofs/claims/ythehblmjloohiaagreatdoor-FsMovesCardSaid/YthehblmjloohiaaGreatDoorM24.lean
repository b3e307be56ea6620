/- Layer 11, a part of the proofs: no statement of its own. -/
import Derived.Deep.QuietTactic
import Derived.BigQuiet
import Derived.Test.YthehblmjloohiaaGreatDoorM07
import Derived.Test.YthehblmjloohiaaGreatDoorM23
namespace Fs
open Nd (En Node none0)
open Gr (go upd)
section
variable (E : Env)
def enterP (l : List Item) (ns : List ByteArray) (i : Int) : Except Int (List Item) :=
 match place l ns with
 | .error e => .error e
 | .ok (d, n) => if (Nd.withE E.lt E.nm (nodeD l d) n i).2 ≠ 0 then .error (Nd.withE E.lt E.nm (nodeD l d) n i).2 else .ok (enter E l d n i)
def leaveP (l : List Item) (ns : List ByteArray) : Except Int (List Item) :=
 match place l ns with
 | .error e => .error e
 | .ok (d, n) => if (Nd.withoutE (nodeD l d) n).2 ≠ 0 then .error (Nd.withoutE (nodeD l d) n).2 else .ok (leave l d n)
end
section
variable {E : Env} {f : FS}
theorem place_dir {l : List Item} {ns : List ByteArray} {d : Int} {n : ByteArray} (h : place l ns = .ok (d, n)) : (nodeD l d).kind = 2 ∧ n ∈ ns := by
 unfold place at h
 cases hl : ns.getLast? with
 | none => rw [hl] at h; cases h
 | some m =>
  rw [hl] at h
  simp only at h
  cases hw : walk l 1 ns.dropLast with
  | error e => rw [hw] at h; cases h
  | ok k =>
   rw [hw] at h
   simp only at h
   split at h
   ·cases h
   ·rename_i hk
    injection h with h
    injection h with h1 h2
    subst h1 h2
    exact ⟨by simpa using hk, List.mem_of_getLast? hl⟩
theorem withE_code {x : Node} {n : ByteArray} {i : Int} (hk : x.kind = 2) (hn : E.nm (Nd.bs n) = true) : (Nd.withE E.lt E.nm x n i).2 = if (Nd.find x.ents n).isSome = true then 5 else if 64 ≤ x.ents.length then 3 else 0 := by
 unfold Nd.withE
 rw [if_neg (by simp [hk]), if_neg (by simp [hn])]
 split
 ·rfl
 ·split <;> rfl
theorem withoutE_code {x : Node} {n : ByteArray} (hk : x.kind = 2) (hf : (Nd.find x.ents n).isSome = true) : (Nd.withoutE x n).2 = 0 := by
 unfold Nd.withoutE
 rw [if_neg (by simp [hk]), if_neg (by simp [hf])]
theorem enterP_is {l : List Item} {ns : List ByteArray} {i : Int} (hnm : ∀ n ∈ ns, E.nm (Nd.bs n) = true) : enterP E l ns i = match fresh l ns with
  | .error e => .error e
  | .ok (d, n) => if 64 ≤ (nodeD l d).ents.length then .error 3 else .ok (enter E l d n i) := by
 unfold enterP fresh
 cases hp : place l ns with
 | error e => rfl
 | ok r =>
  obtain ⟨d, n⟩ := r
  obtain ⟨hk, hm⟩ := place_dir hp
  simp only
  rw [withE_code hk (hnm n hm)]
  by_cases h1 : (Nd.find (nodeD l d).ents n).isSome = true
  ·simp [h1]
  ·by_cases h2 : 64 ≤ (nodeD l d).ents.length
   ·simp [h1, h2]
   ·simp [h1, h2]
theorem link_is {f : FS} {aa bs : List ByteArray} (hnm : ∀ n ∈ bs, E.nm (Nd.bs n) = true) : link E f aa bs = match walk f.l 1 aa with
  | .error e => .error e
  | .ok i => if (nodeD f.l i).kind = 2 then .error 11 else match enterP E f.l bs i with
   | .error e => .error e
   | .ok l => .ok ⟨l, f.next⟩ := by
 unfold link
 cases walk f.l 1 aa with
 | error e => rfl
 | ok i =>
  simp only
  split
  ·rfl
  ·rw [enterP_is hnm]
   cases fresh f.l bs with
   | error e => rfl
   | ok r =>
    obtain ⟨d, n⟩ := r
    simp only
    split <;> rfl
theorem Half.leaveP_is (H : Half E f) {aa : List ByteArray} {i : Int} (hw : walk f.l 1 aa = .ok i) : leaveP f.l aa = match place f.l aa with
  | .error e => .error e
  | .ok (d, n) => .ok (leave f.l d n) := by
 unfold leaveP
 cases hp : place f.l aa with
 | error e => rfl
 | ok r =>
  obtain ⟨d, n⟩ := r
  obtain ⟨ps, _, _, hs⟩ := H.place_step hw hp
  obtain ⟨hk, _⟩ := place_dir hp
  simp only
  rw [withoutE_code hk (by rw [dir_find n (dir_iff.2 hk), hs]; rfl), if_neg (by decide)]
theorem Half.unlink_is (H : Half E f) {aa : List ByteArray} : unlink f aa = match walk f.l 1 aa with
  | .error e => .error e
  | .ok i => if (nodeD f.l i).kind = 2 then .error 11 else match leaveP f.l aa with
   | .error e => .error e
   | .ok l => .ok ⟨if links l i = 0 then dropL l i else l, f.next⟩ := by
 unfold unlink
 cases hw : walk f.l 1 aa with
 | error e => rfl
 | ok i =>
  simp only
  split
  ·rfl
  ·rw [H.leaveP_is hw]
   cases place f.l aa <;> rfl
theorem Half.rmdir_is (H : Half E f) {aa : List ByteArray} : rmdir f aa = match walk f.l 1 aa with
  | .error e => .error e
  | .ok i => if (nodeD f.l i).kind ≠ 2 then .error 10 else if i = 1 then .error 17 else if (nodeD f.l i).ents ≠ [] then .error 12 else match leaveP f.l aa with
   | .error e => .error e
   | .ok l => .ok ⟨dropL l i, f.next⟩ := by
 unfold rmdir
 cases hw : walk f.l 1 aa with
 | error e => rfl
 | ok i =>
  simp only
  split
  ·rfl
  ·split
   ·rfl
   ·split
    ·rfl
    ·rw [H.leaveP_is hw]
     cases place f.l aa <;> rfl
theorem set_swap {l : List Item} {d k : Int} {x y : Node} (hne : d ≠ k) (hd : (node l d).isSome = true) (hk : node l k = none) : setL (setL l d y) k x = setL (setL l k x) d y := by
 have h1 : (node (setL l d y) k).isSome = false := by rw [node_set, if_neg (Ne.symm hne), hk]; rfl
 have h2 : (node (setL l k x) d).isSome = true := by rw [node_set, if_neg hne, hd]
 have hall := node_none.1 hk
 have h3 : setL l d y = l.map fun z => if z.1 = d then (d, y) else z := by unfold setL; rw [if_pos hd, List.append_nil]
 have h4 : setL l k x = l ++ [(k, x)] := by unfold setL; rw [setL_no hall, hk]; rfl
 rw [show setL (setL l d y) k x = (setL l d y).map (fun z => if z.1 = k then (k, x) else z) ++ if (node (setL l d y) k).isSome = true then [] else [(k, x)] from rfl,
  show setL (setL l k x) d y = (setL l k x).map (fun z => if z.1 = d then (d, y) else z) ++ if (node (setL l k x) d).isSome = true then [] else [(d, y)] from rfl]
 rw [if_neg (by rw [h1]; decide), if_pos h2, List.append_nil, h3, h4, List.map_append]
 rw [setL_no (l := l.map fun z => if z.1 = d then (d, y) else z) fun z hz => ?_]
 ·simp [Ne.symm hne]
 ·obtain ⟨u, hu, e⟩ := List.mem_map.1 hz
  rw [← e]
  split
  ·exact hne
  ·exact hall u hu
theorem Half.create_is (H : Half E f) {o : Op} {aa : List ByteArray} (hnm : ∀ n ∈ aa, E.nm (Nd.bs n) = true) : create E f o aa = match fresh f.l aa with
  | .error e => .error e
  | .ok (d, _) => if Nd.right E.lt E.nm (madeNode o) = false then .error 1 else if 64 ≤ (nodeD f.l d).ents.length then .error 3 else if 256 ≤ f.l.length then .error 6 else match enterP E f.l aa f.next with
   | .error e => .error e
   | .ok l => .ok ⟨setL l f.next (madeNode o), f.next + 1⟩ := by
 unfold create
 rw [enterP_is hnm]
 cases hf : fresh f.l aa with
 | error e => rfl
 | ok r =>
  obtain ⟨d, n⟩ := r
  obtain ⟨ps, h1, h2, h3, h4⟩ := H.fresh_iff.1 hf
  simp only
  split
  ·rfl
  ·split
   ·rfl
   ·split
    ·rfl
    ·rename_i h64 h256
     simp only
     have hno : node f.l f.next = none := H.gone (Int.le_refl _)
     obtain ⟨x, hx, _⟩ := h3
     have hne : d ≠ f.next := fun e => by rw [e, hno] at hx; cases hx
     have e1 : nodeD (setL f.l f.next (madeNode o)) d = nodeD f.l d := by unfold nodeD; rw [node_set, if_neg hne]
     show Except.ok _ = Except.ok _
     unfold enter
     rw [e1, ← set_swap hne (by rw [hx]; rfl) hno]
theorem Half.rename_is (H : Half E f) (K : EnvOk E) {aa bs : List ByteArray} (hnm : ∀ n ∈ bs, E.nm (Nd.bs n) = true) : rename E f aa bs = match walk f.l 1 aa with
  | .error e => .error e
  | .ok i => if i = 1 then .error 17 else if (nodeD f.l i).kind = 2 ∧ bs.take aa.length = aa then .error 15 else match fresh f.l bs with
   | .error e => .error e
   | .ok (d, _) => match place f.l aa with
    | .error e => .error e
    | .ok (c, _) => if 64 ≤ (nodeD f.l d).ents.length ∧ c ≠ d then .error 3 else if 8 < bs.length + deep f.l 9 i then .error 3 else match leaveP f.l aa with
     | .error e => .error e
     | .ok l => match enterP E l bs i with
      | .error e => .error e
      | .ok l => .ok ⟨l, f.next⟩ := by
 have key : ∀ g, rename E f aa bs = .ok g → ∃ i c d m n, walk f.l 1 aa = .ok i ∧ leaveP f.l aa = .ok (leave f.l c m) ∧ enterP E (leave f.l c m) bs i = .ok (enter E (leave f.l c m) d n i) ∧ g = ⟨enter E (leave f.l c m) d n i, f.next⟩ := by
  intro g h
  obtain ⟨i, c, d, ps, qs, m, n, M, hw, e⟩ := rename_met H h
  obtain ⟨H1, hst, hdr⟩ := H.less K M.was
  have hp : place f.l aa = .ok (c, m) := H.place_iff.2 ⟨ps, M.a_is, M.c_at, H.tree.leaf M.was⟩
  refine ⟨i, c, d, m, n, hw, by rw [H.leaveP_is hw, hp], ?_, e⟩
  have hd1 : isDir (leave f.l c m) d := by rw [hdr]; exact M.dir
  have hfr : fresh (leave f.l c m) bs = .ok (d, n) := H1.fresh_iff.2 ⟨qs, M.b_is, by show go (step (leave f.l c m)) 1 qs = some d; rw [hst]; exact M.way H, hd1, by show step (leave f.l c m) d n = none; rw [hst]; exact M.free'⟩
  have hl1 : (nodeD (leave f.l c m) d).ents.length < 64 := by
   obtain ⟨x, hx, hk, hf, he⟩ := H.leave_eq M.was
   by_cases e : d = c
   ·subst e
    have : node (leave f.l d m) d = some { x with ents := Nd.cut x.ents m } := by rw [he, node_set, if_pos rfl]
    rw [nodeD_of this]
    have h1 := cut_less hf
    have h2 := (H.right hx).len
    show (Nd.cut x.ents m).length < 64
    omega
   ·have : nodeD (leave f.l c m) d = nodeD f.l d := by unfold nodeD; rw [he, node_set, if_neg e]
    rw [this]
    rcases M.room with h | h
    ·exact h
    ·exact absurd h.symm e
  rw [enterP_is hnm, hfr]
  simp only
  rw [if_neg (by omega)]
 cases hr : rename E f aa bs with
 | ok g =>
  obtain ⟨i, c, d, m, n, hw, hl, he, rfl⟩ := key g hr
  unfold rename at hr
  rw [hw] at hr ⊢
  simp only at hr ⊢
  split at hr
  ·cases hr
  rename_i h1
  rw [if_neg h1]
  split at hr
  ·cases hr
  rename_i h2
  rw [if_neg h2]
  cases hf : fresh f.l bs with
  | error e => rw [hf] at hr; cases hr
  | ok r =>
   obtain ⟨d', n'⟩ := r
   rw [hf] at hr
   simp only at hr ⊢
   cases hp : place f.l aa with
   | error e => rw [hp] at hr; cases hr
   | ok r =>
    obtain ⟨c', m'⟩ := r
    rw [hp] at hr
    simp only at hr ⊢
    split at hr
    ·cases hr
    rename_i h3
    rw [if_neg (fun e => h3 (.inl e)), if_neg (fun e => h3 (.inr e)), hl]
    simp only
    rw [he]
 | error e =>
  unfold rename at hr
  cases hw : walk f.l 1 aa with
  | error e' => rw [hw] at hr; exact hr.symm
  | ok i =>
   rw [hw] at hr
   simp only at hr ⊢
   split at hr
   ·rename_i h1; rw [if_pos h1]; exact hr.symm
   rename_i h1
   rw [if_neg h1]
   split at hr
   ·rename_i h2; rw [if_pos h2]; exact hr.symm
   rename_i h2
   rw [if_neg h2]
   cases hf : fresh f.l bs with
   | error e' => rw [hf] at hr; exact hr.symm
   | ok r =>
    obtain ⟨d', n'⟩ := r
    rw [hf] at hr
    simp only at hr ⊢
    cases hp : place f.l aa with
    | error e' => rw [hp] at hr; exact hr.symm
    | ok r =>
     obtain ⟨c', m'⟩ := r
     rw [hp] at hr
     simp only at hr ⊢
     split at hr
     ·rename_i h3
      rcases h3 with h3 | h3
      ·rw [if_pos h3]; exact hr.symm
      ·split
       ·exact hr.symm
       ·exact hr.symm
     ·cases hr
end
end Fs

namespace Go.Proofs.YthehblmjloohiaaGreatDoor
set_option maxRecDepth 100000
open Go.RowKit Go.Less
attribute [local go_sem 9000] sem_eql sem_neq
structure Sf (w : World) (a : Option Addr) (n c : Nat) (nx : Int) (a' : Option Addr) (n' c' : Nat) (nx' : Int) (W : World) : Prop where
 b1 : W.heap[w.heap.size]? = some (.cells #[.slice a n c, .int .i64 nx] 29 (0, 0))
 b2 : W.heap[w.heap.size + 1]? = some (.cells #[.slice a' n' c', .int .i64 nx'] 29 (0, 0))
 below : Below w.heap.size w W
theorem Sf.kept {w W W' : World} {a : Option Addr} {n c : Nat} {nx : Int} {a' : Option Addr} {n' c' : Nat} {nx' : Int} (h : Sf w a n c nx a' n' c' nx' W) (hb : Below W.heap.size W W') : Sf w a n c nx a' n' c' nx' W' :=
 ⟨(hb.block _ (lt_of_obj h.b1)).trans h.b1, (hb.block _ (lt_of_obj h.b2)).trans h.b2, h.below.trans (hb.mono h.below.size)⟩
end Go.Proofs.YthehblmjloohiaaGreatDoor

namespace Go.Proofs.YthehblmjloohiaaGreatDoor
set_option maxRecDepth 100000
open Go.RowKit
theorem prefix_long {xs ys : List (List UInt8)} (h : ys.length < xs.length) : xs.isPrefixOf ys = false := by
 induction xs generalizing ys with
 | nil => simp at h
 | cons x xs ih =>
  cases ys with
  | nil => rfl
  | cons y ys =>
   simp only [List.length_cons] at h
   show (x == y && xs.isPrefixOf ys) = false
   rw [ih (by omega), Bool.and_false]
def WithinPost (a b : List UInt8) (w : World) (e : Ending) (w' : World) : Prop := e = .returned (.bool (Nm.within a b)) ∧ Below w.heap.size w w'
theorem within_post {a b : List UInt8} {w w' : World} {r : Bool} (h : Nm.within a b = r) (hb : Below w.heap.size w w') : WithinPost a b w (.returned (.bool r)) w' := by
 unfold WithinPost; rw [h]; exact ⟨rfl, hb⟩
end Go.Proofs.YthehblmjloohiaaGreatDoor

namespace Go.Proofs.YthehblmjloohiaaGreatDoor
open T6
set_option maxRecDepth 100000
open Go.RowKit Go.Less
attribute [local go_sem 9000] sem_eql sem_neq
abbrev ocs (o : Fs.Op) : Array Value := #[.int .i64 o.kind, .string o.a, .string o.b, .int .i64 o.off, .int .i64 o.from_, .int .i64 o.n, .string o.data]
def env : Fs.Env := ⟨less, Nm.right, spl, fun s o d => (lstr (putR s.data.toList o d.data.toList).1, (putR s.data.toList o d.data.toList).2), fun s n => (lstr (truncR s.data.toList n).1, (truncR s.data.toList n).2),
 fun s o t f n => (lstr (copyR s.data.toList o t.data.toList f n).1, (copyR s.data.toList o t.data.toList f n).2), fun s o n => (lstr (getR s.data.toList o n).1, (getR s.data.toList o n).2)⟩
structure Ob (w : World) (a : Option Addr) (n c : Nat) (nx : Int) (o : Fs.Op) (W : World) : Prop where
 box : W.heap[w.heap.size]? = some (.cells #[.slice a n c, .int .i64 nx] 29 (0, 0))
 op : W.heap[w.heap.size + 1]? = some (.cells (ocs o) 34 (0, 0))
 res : W.heap[w.heap.size + 1 + 1]? = some (.cells #[.slice none 0 0, .int .i64 0] 29 (0, 0))
 below : Below w.heap.size w W
theorem Ob.kept {w W W' : World} {a : Option Addr} {n c : Nat} {nx : Int} {o : Fs.Op} (h : Ob w a n c nx o W) (hb : Below W.heap.size W W') : Ob w a n c nx o W' :=
 ⟨(hb.block _ (lt_of_obj h.box)).trans h.box, (hb.block _ (lt_of_obj h.op)).trans h.op, (hb.block _ (lt_of_obj h.res)).trans h.res, h.below.trans (hb.mono h.below.size)⟩
structure Small11 (L : List MI) (n : Nat) (o : Fs.Op) : Prop where
 few : n ≤ 10000
 ents : FewM L
 a : o.a.size ≤ 1048576
 b : o.b.size ≤ 1048576
theorem Small11.n5 {L : List MI} {n : Nat} {o : Fs.Op} (h : Small11 L n o) : n ≤ 100000 := Nat.le_trans h.few (by decide)
end Go.Proofs.YthehblmjloohiaaGreatDoor

namespace Go.Proofs.YthehblmjloohiaaGreatDoor
open T6
set_option maxRecDepth 100000
open Go.RowKit Go.Less
attribute [local go_sem 9000] sem_eql sem_neq
theorem find_of {l : List Fs.Item} {p : ByteArray} {ns : List ByteArray} (h : spl p = some ns) : findR l p = match Fs.walk l 1 ns with
  | .error e => (0, Nd.none0, e)
  | .ok i => (i, Fs.nodeD l i, 0) := by unfold findR; rw [h]; rfl
theorem find_cases {l : List Fs.Item} {p : ByteArray} {ns : List ByteArray} (h : spl p = some ns) : (∃ e, e ≠ 0 ∧ Fs.walk l 1 ns = .error e ∧ findR l p = (0, Nd.none0, e)) ∨ ∃ i, Fs.walk l 1 ns = .ok i ∧ findR l p = (i, Fs.nodeD l i, 0) := by
 rw [find_of h]
 rcases walk_code l ns 1 with ⟨i, hw⟩ | hw | hw
 ·exact .inr ⟨i, hw, by rw [hw]⟩
 ·exact .inl ⟨10, by decide, hw, by rw [hw]⟩
 ·exact .inl ⟨4, by decide, hw, by rw [hw]⟩
end Go.Proofs.YthehblmjloohiaaGreatDoor

namespace Go.Proofs.YthehblmjloohiaaGreatDoor
open T6
set_option maxRecDepth 100000
open Go.RowKit Go.Less
attribute [local go_sem 9000] sem_eql sem_neq
theorem spl_small {p : ByteArray} {nb : List ByteArray} (h : spl p = some nb) : ∀ x ∈ nb, x.size ≤ 100000 := by
 unfold spl at h
 rw [Option.map_eq_some_iff] at h
 obtain ⟨ns, hs, rfl⟩ := h
 intro x hx
 obtain ⟨y, hy, rfl⟩ := List.mem_map.1 hx
 rw [lstr_size]
 have h1 := Nm.join_split hs
 unfold Nm.join at h1
 split at h1
 ·rename_i hx2
  exact Nat.le_trans (nm_len (List.all_eq_true.1 hx2.2 y hy)) (by decide)
 ·cases h1
end Go.Proofs.YthehblmjloohiaaGreatDoor
