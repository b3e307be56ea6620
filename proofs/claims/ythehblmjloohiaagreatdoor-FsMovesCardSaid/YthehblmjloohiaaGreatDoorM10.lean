/- Layer 11, a part of the proofs: no statement of its own. -/
import Derived.Laws.ResultCell
import Derived.Laws.Rows
import Derived.Laws.AppendOwn
import Derived.Laws.MakeOwn
import Derived.WalkKit
import Derived.OwnWalk
import Derived.IntWalk
import Derived.Lib.Hide
import Derived.Lib.Strings
import Derived.Laws.IdiomStrings
import Derived.Laws.OwnMore
import Derived.StillTailTactics
import Derived.Test.YthehblmjloohiaaGreatDoorProg
import Derived.Test.YthehblmjloohiaaGreatDoorM09
namespace Go.Proofs.YthehblmjloohiaaGreatDoor
set_option maxRecDepth 100000
open Go.RowKit Go.Less
attribute [local go_sem 9000] sem_eql sem_neq sem_lss sem_leq sem_gtr sem_geq
def sameE (x y : En) : Bool := decide (x = y)
theorem sameE_eq (a b : ByteArray) (p q : Int) : sameE (a, p) (b, q) = (alike a b && (p == q)) := by
 unfold sameE alike
 rw [Bool.eq_iff_iff]
 simp [Prod.ext_iff]
theorem fields46 : (Tryz.prog.fieldsOf 85).toList.map (fun f => (f.type, f.offset, decide (f.name ≠ "_"))) = [(9, 0, true), (3, 1, true)] := by kernel_rfl
theorem part_n (W : World) (a : ByteArray) (p : Int) : (part 9 #[.string a, .int .i64 p] 0).run Tryz.prog W = .ok (.string a) W := by
 simp [part, Tryz.isAgg9, Tryz.sizeOf9]
theorem part_i (W : World) (a : ByteArray) (p : Int) : (part 3 #[.string a, .int .i64 p] 1).run Tryz.prog W = .ok (.int .i64 p) W := by
 simp [part, Tryz.isAgg3, Tryz.sizeOf3]
theorem fld {P : Program} (d : Nat) (xs ys : Array Value) (f : Field) (fs : List Field) (hn : f.name ≠ "_") {a b : Value} {r : Bool} (W : World) (ha : (part f.type xs f.offset).run P W = .ok a W) (hb : (part f.type ys f.offset).run P W = .ok b W)
  (hr : (Op.equalIn d f.type a b).run P W = .ok r W) : (Op.eqFields d xs ys (f :: fs)).run P W = if r then (Op.eqFields d xs ys fs).run P W else .ok false W := by
 conv => lhs; rw [Op.eqFields]
 rw [if_pos hn]
 simp only [Sem.run_bind, ha, hb, hr, Result.andThen_ok]
 cases r <;> simp
theorem eq_fields (W : World) (fs : List Field) (h : fs.map (fun f => (f.type, f.offset, decide (f.name ≠ "_"))) = [(9, 0, true), (3, 1, true)]) (a b : ByteArray) (p q : Int) :
  (Op.eqFields 9999 #[.string a, .int .i64 p] #[.string b, .int .i64 q] fs).run Tryz.prog W = .ok (sameE (a, p) (b, q)) W := by
 obtain ⟨f0, fs, rfl, h0, h⟩ := List.map_eq_cons_iff.1 h
 obtain ⟨f1, fs, rfl, h1, h⟩ := List.map_eq_cons_iff.1 h
 obtain rfl := List.map_eq_nil_iff.1 h
 simp only [Prod.mk.injEq, decide_eq_true_eq] at h0 h1
 obtain ⟨t0, o0, n0⟩ := h0
 obtain ⟨t1, o1, n1⟩ := h1
 rw [fld _ _ _ _ _ n0 W (by rw [t0, o0]; exact part_n W a p) (by rw [t0, o0]; exact part_n W b q) (by rw [t0]; exact run_equalIn_string W 9998 9 _ _ Tryz.underlying9), alike_is]
 rw [fld _ _ _ _ _ n1 W (by rw [t1, o1]; exact part_i W a p) (by rw [t1, o1]; exact part_i W b q) (by rw [t1]; exact run_equalIn_int W 9998 3 .i64 .i64 _ _ Tryz.underlying3)]
 rw [sameE_eq]
 cases alike a b <;> cases (p == q) <;> simp [Op.eqFields]
theorem eq46 (W : World) (a b : ByteArray) (p q : Int) : (Op.equalIn 10000 85 (.agg #[.string a, .int .i64 p]) (.agg #[.string b, .int .i64 q])).run Tryz.prog W = .ok (sameE (a, p) (b, q)) W := by
 rw [show (10000 : Nat) = 9999 + 1 from rfl, run_equalIn_struct W 9999 85 _ _ (by kernel_rfl) (by kernel_rfl)]
 exact eq_fields W _ fields46 a b p q
theorem neq_ent (W : World) (a b : ByteArray) (p q : Int) : (binOp .neq 85 (.agg #[.string a, .int .i64 p]) (.agg #[.string b, .int .i64 q])).run Tryz.prog W = .ok (.bool (!sameE (a, p) (b, q))) W := by
 rw [run_neq_struct, eq46 W a b p q]; rfl
def sameN (k m : Int) (d t : ByteArray) (l : List En) (k' m' : Int) (d' t' : ByteArray) (l' : List En) : Bool := (k == k') && (m == m') && alike d d' && alike t t' && decide (l = l')
def Samed (b : Bool) (w : World) (e : Ending) (w' : World) : Prop := e = .returned (.bool b) ∧ Below w.heap.size w w'
theorem bdn {B : Nat} {w w1 : World} (h : Below B w w1) (n : Nat) : Below B w (w1.drewN n) := by
 induction n with
 | zero => exact h
 | succ n ih => exact ih.drew
theorem take_ext {l l' : List En} (hl : l.length = l'.length) {i : Nat} (h : l.take i = l'.take i) (hi : i < l.length) (hx : l.getD i z0 = l'.getD i z0) : l.take (i + 1) = l'.take (i + 1) := by
 rw [take_snoc hi z0, take_snoc (by omega) z0, h, hx]
attribute [local go_sem 9000] neq_ent
set_option maxHeartbeats 4000000 in
theorem refSame_any (k m : Int) (d t : ByteArray) (a : Option Addr) (n cap : Nat) (l : List En) (k' m' : Int) (d' t' : ByteArray) (a' : Option Addr) (n' cap' : Nat) (l' : List En) (w : World) (hE : Ents a n l w) (hE' : Ents a' n' l' w) (hn : n ≤ 1000000) (hn' : n' ≤ 1000000) :
  Calls Tryz.prog 25 #[nv k m d t a n cap, nv k' m' d' t' a' n' cap'] w (Samed (sameN k m d t l k' m' d' t' l') w) := by
 have HNL := Lib.hid hE.count
 have HNL' := Lib.hid hE'.count
 have hni : (n : Int) ≤ 1000000 := by omega
 have HE := Lib.hid (fun W (hb : Below w.heap.size w W) => hE.below hb)
 have HE' := Lib.hid (fun W (hb : Below w.heap.size w W) => hE'.below hb)
 have HB0 := Lib.hid (show ∀ x y : Obj, Below w.heap.size w ((w.alloc x).alloc y) from fun x y => ((Below.refl _ w).alloc (Nat.le_refl _) _).alloc (by simp) _)
 have HF := Lib.hid (show ∀ b, sameN k m d t l k' m' d' t' l' = b → Samed (sameN k m d t l k' m' d' t' l') w (.returned (.bool b)) ((w.alloc (.cells #[.int .i64 k, .int .i64 m, .string d, .string t, .slice a n cap] 43)).alloc (.cells #[.int .i64 k', .int .i64 m', .string d', .string t', .slice a' n' cap'] 43)) from fun b hb => by rw [hb]; exact ⟨rfl, HB0.out _ _⟩)
 clear hE hE'
 by_cases e1 : ¬ k = k'
 ·have b1 : (k == k') = false := by rw [beq_eq_false_iff_ne]; exact e1
  have HR := Lib.hid (HF.out false (by unfold sameN; rw [b1]; rfl))
  go_enter Tryz.func25, Tryz.ntmps25
  go_wp2_with fail
  go_ret
  exact HR.out
 obtain rfl := Decidable.not_not.1 e1
 clear e1
 by_cases e2 : ¬ m = m'
 ·have b1 : (m == m') = false := by rw [beq_eq_false_iff_ne]; exact e2
  have HR := Lib.hid (HF.out false (by unfold sameN; rw [b1]; simp))
  go_enter Tryz.func25, Tryz.ntmps25
  go_wp2_with fail
  go_ret
  exact HR.out
 obtain rfl := Decidable.not_not.1 e2
 clear e2
 cases e3 : alike d d'
 ·have HR := Lib.hid (HF.out false (by unfold sameN; rw [e3]; simp))
  go_enter Tryz.func25, Tryz.ntmps25
  go_wp2_with fail
  go_ret
  exact HR.out
 cases e4 : alike t t'
 ·have HR := Lib.hid (HF.out false (by unfold sameN; rw [e4]; simp))
  go_enter Tryz.func25, Tryz.ntmps25
  go_wp2_with fail
  go_ret
  exact HR.out
 by_cases e5 : ¬ n = n'
 ·have b1 : ((n : Int) == (n' : Int)) = false := by rw [beq_eq_false_iff_ne]; omega
  have HR := Lib.hid (HF.out false (by unfold sameN; rw [decide_eq_false (fun e => e5 (by rw [HNL.out, HNL'.out, e]))]; simp))
  go_enter Tryz.func25, Tryz.ntmps25
  go_wp2_with fail
  go_ret
  exact HR.out
 obtain rfl := Decidable.not_not.1 e5
 clear e5
 have HL := Lib.hid (show sameN k m d t l k m d' t' l' = decide (l = l') by unfold sameN; rw [e3, e4]; simp)
 clear HF
 go_enter Tryz.func25, Tryz.ntmps25
 go_wp2_with fail
 go_loopw [5] (fun i wr => (∃ j : Nat, j ≤ n ∧ i = .int .i64 j ∧ l.take j = l'.take j) ∧ wr.cell? ⟨w.heap.size, 4, none⟩ = some (.slice a n cap) ∧ wr.cell? ⟨w.heap.size + 1, 4, none⟩ = some (.slice a' n cap') ∧ Below w.heap.size w wr) (fun i _ => n - (intOf i).toNat)
 case atStart => exact ⟨⟨0, Nat.zero_le _, rfl, rfl⟩, by simp, by simp, HB0.out _ _⟩
 case round =>
  obtain ⟨⟨j, hj, rfl, hf⟩, hc, hc', hb⟩ := hrel
  by_cases hlt : j < n
  ·have j0 : (j : Int) < (n : Int) := by omega
   have hj0 : (0 : Int) ≤ (j : Int) := by omega
   obtain ⟨b, off, rfl, c0, c1⟩ := (HE.out _ hb).cell j hlt
   obtain ⟨b', off', rfl, c0', c1'⟩ := (HE'.out _ hb).cell j hlt
   have HT := Lib.hid (fun h => take_ext (l := l) (l' := l') (by rw [← HNL.out, ← HNL'.out]) hf (by rw [← HNL.out]; exact hlt) h)
   obtain ⟨x, hxe⟩ : ∃ x, x = l.getD j z0 := ⟨_, rfl⟩
   obtain ⟨x', hxe'⟩ : ∃ x, x = l'.getD j z0 := ⟨_, rfl⟩
   have HN := Lib.hid (show x ≠ x' → l ≠ l' from fun h e => h (by rw [hxe, hxe', e]))
   rw [← hxe] at c0 c1 HT
   rw [← hxe'] at c0' c1' HT
   clear hxe hxe' hf
   obtain ⟨x1, x2⟩ := x
   obtain ⟨y1, y2⟩ := x'
   have HB := Lib.hid hb
   clear hb
   cases hx : sameE (x1, x2) (y1, y2)
   ·have HR := Lib.hid (HN.out (of_decide_eq_false hx))
    clear HN HT
    go_wp2_with fail
    go_quiet (fail)
    go_wp2_with fail
    go_ret
    show Samed _ w _ _
    rw [HL.out, decide_eq_false HR.out]
    exact ⟨rfl, bdn HB.out _⟩
   ·have HR := Lib.hid (HT.out (of_decide_eq_true hx))
    clear HN HT
    go_wp2_with fail
    go_quiet (fail)
    go_wp2_with fail
    exact ⟨⟨⟨j + 1, by omega, by go_num, HR.out⟩, by simpa using hc, by simpa using hc', bdn HB.out _⟩, by simp [intOf]; omega⟩
  ·obtain rfl : j = n := by omega
   have HR := Lib.hid (show l = l' by rw [HNL.out, List.take_length, ← HNL.out, HNL'.out, List.take_length] at hf; exact hf)
   have HB := Lib.hid hb
   clear hf hb
   go_wp2_with fail
   go_ret
   show Samed _ w _ _
   rw [HL.out, decide_eq_true HR.out]
   exact ⟨rfl, HB.out⟩
end Go.Proofs.YthehblmjloohiaaGreatDoor

namespace Go.Proofs.YthehblmjloohiaaGreatDoor
set_option maxRecDepth 100000
open Go.RowKit Go.Less
theorem owns_form {w : World} {base : Nat} {e : TypeId} {size : Nat} {v : Value} {n : Nat} {xs : List Value} (h : w.ownsRow base e size v n xs) : ∃ a c, v = .slice a n c := by
 obtain ⟨_, ⟨rfl, rfl⟩ | ⟨g, cap, _, rfl, _⟩⟩ := h
 ·exact ⟨_, _, rfl⟩
 ·exact ⟨_, _, rfl⟩
theorem owns_lt {w : World} {base : Nat} {e : TypeId} {size : Nat} {v : Value} {n : Nat} {xs : List Value} (h : w.ownsRow base e size v n xs) : ∀ k, v.ownBlock = some k → base ≤ k := fun k hk => (World.ownsRow.lt h k hk).1
theorem owned_below {w w' : World} {base : Nat} {e : TypeId} {size : Nat} {v : Value} {n : Nat} {xs : List Value} (h : w.ownsRow base e size v n xs) (hb : Below w.heap.size w w') : w'.ownsRow base e size v n xs :=
 World.ownsRow.kept h (⟨hb.os, hb.tape, hb.output, hb.size, fun k hk _ => hb.block k hk⟩ : w.grownBy w' none) (by cases v.ownBlock <;> simp)
abbrev Own (base : Nat) (v : Value) (l : List En) (w : World) : Prop := w.ownsRow base 85 2 v l.length (erow l)
theorem own_nil (w : World) (base : Nat) : Own base (.slice none 0 0) [] w := ⟨rfl, .inl ⟨rfl, rfl⟩⟩
theorem info46 : (Tryz.prog.info? 85).map (fun i => (i.zero, i.size, i.bytes)) = some (some (.agg #[.string ⟨#[]⟩, .int .i64 0]), 2, 24) := by kernel_rfl
theorem at_ent {ops : Array Oper} {rest : List Oper} {o : Oper} {a : Act} {Q : Exit → Act → World → Prop} {w : World} (hgd : o.guard = none) (s x : Operand)
  (ho : o.op = .call { callee := .builtin .append, args := #[s, x], argTypes := #[41, 41] })
  (base : Nat) (v : Value) (l : List En) (hs : a.eval s = v) (hown : Own base v l w)
  (b : Nat) (u : En) (hx : a.eval x = .slice (some ⟨b, 0, none⟩) 1 1) (hc : w.heap[b]? = some (.cells #[.string u.1, .int .i64 u.2] 85 (0, 0))) (hn : l.length ≤ 1000000) (hbase : base ≤ w.heap.size)
  (h : ∀ ao' cap' w', Own base (.slice ao' (l.length + 1) cap') (l ++ [u]) w' → w.grownBy w' v.ownBlock → wpList Tryz.prog ops Q rest (a.put o.dst (.slice ao' (l.length + 1) cap')) w') :
  wpList Tryz.prog ops Q (o :: rest) a w := by
 obtain ⟨i0, hi, hz0, hz1, hz2⟩ := info_parts info46
 refine wpList_append_own w hgd s x 41 ho base 85 i0 (.agg #[.string ⟨#[]⟩, .int .i64 0]) 2 24 Tryz.underlying41 hi hz0 hz1 hz2 rfl (by decide) v l.length (erow l) hs hown ⟨b, 0, none⟩ 1 1 (ecell u) hx rfl ?_ ?_ (by unfold maxLen; omega) (by omega) hbase ?_
 ·intro j y hj
  rw [show (⟨b, 0, none⟩ : Addr).add j = ⟨b, j, none⟩ by unfold Addr.add; split <;> simp_all]
  match j with
  | 0 => simp [ecell] at hj; subst hj; simp [World.cell?, hc]
  | 1 => simp [ecell] at hj; subst hj; simp [World.cell?, hc]
  | j + 2 => simp [ecell] at hj
 ·intro y hy
  simp [ecell] at hy
  rcases hy with rfl | rfl <;> rfl
 ·intro v' w' hown' hg _
  obtain ⟨ao', cap', rfl⟩ := owns_form hown'
  refine h ao' cap' w' ?_ hg
  unfold Own
  rw [List.length_append, erow_append]
  simpa [erow, ecell] using hown'
theorem size24 : (Tryz.prog.info? 43).map (·.size) = some 5 := by kernel_rfl
theorem results_nd {fn : Func} {p u : Tmp} (h : fn.results = #[.cell p 43, .tmp u]) (tmps : Array Value) (w : World) (g : Nat) (k m d t e : Value)
  (hp : tmps.getD p undef = .pointer (some ⟨g, 0, none⟩)) (hg : w.heap[g]? = some (.cells #[k, m, d, t, e] 43 (0, 0))) :
  (results fn tmps).run Tryz.prog w = .ok (.tuple #[.agg #[k, m, d, t, e], tmps.getD u undef]) w := by
 rw [results_cell_tmp h, hp]
 simp [asAddr, Result.andThen, run_loadVar_row (P := Tryz.prog) w g 43 43 #[k, m, d, t, e] (0, 0) _ hg Tryz.underlying43 rfl size24]
theorem cell_obj {w : World} {b : Nat} {cs : Array Value} {t : TypeId} {fr : Nat × Nat} (h : w.heap[b]? = some (.cells cs t fr)) (k : Nat) : w.cell? ⟨b, k, none⟩ = cs[k]? := by
 simp [World.cell?, h]
theorem free_obj {w : World} {b : Nat} {cs : Array Value} {t : TypeId} (h : w.heap[b]? = some (.cells cs t (0, 0))) (k : Nat) : w.frozen? ⟨b, k, none⟩ = false := by
 simp [World.frozen?, h]
theorem lt_of_obj {w : World} {b : Nat} {o : Obj} (h : w.heap[b]? = some o) : b < w.heap.size := (Array.getElem?_eq_some_iff.1 h).1
theorem grown_obj {w w' : World} {row : Option Nat} {b : Nat} {o : Obj} (hg : w.grownBy w' row) (h : w.heap[b]? = some o) (hne : some b ≠ row) : w'.heap[b]? = some o := (hg.block b (lt_of_obj h) hne).trans h
theorem cut_none {l : List En} {k : ByteArray} (h : Nd.find l k = none) : Nd.cut l k = l := by
 induction l with
 | nil => rfl
 | cons x l ih =>
  have hx : x.1 ≠ k := Nd.find_none.1 h x List.mem_cons_self
  have hl : Nd.find l k = none := by unfold Nd.find at h; rwa [if_neg hx] at h
  unfold Nd.cut; rw [if_neg hx, ih hl]
def Noded (r : Nd.Node × Int) (w : World) (e : Ending) (w' : World) : Prop :=
 ∃ a cap, e = .returned (.tuple #[nv r.1.kind r.1.mode r.1.data r.1.target a r.1.ents.length cap, .int .i64 r.2]) ∧ Ents a r.1.ents.length r.1.ents w' ∧ Below w.heap.size w w'
end Go.Proofs.YthehblmjloohiaaGreatDoor

namespace Go.Proofs.YthehblmjloohiaaGreatDoor
set_option maxRecDepth 100000
open Go.RowKit Go.Less
attribute [local go_sem 9000] sem_eql sem_neq sem_lss sem_leq sem_gtr sem_geq
abbrev zc : Array Value := #[.int .i64 0, .int .i64 0, .string ⟨#[]⟩, .string ⟨#[]⟩, .slice none 0 0]
theorem ents_nil (w : World) : Ents none 0 [] w := ⟨rfl, fun i hi => by omega⟩
structure Gat (w : World) (cs : Array Value) (l : List En) (v : Value) (wr : World) : Prop where
 own : Own (w.heap.size + 2) v l wr
 box : wr.heap[w.heap.size]? = some (.cells cs 43 (0, 0))
 res : wr.heap[w.heap.size + 1]? = some (.cells zc 43 (0, 0))
 big : w.heap.size + 2 ≤ wr.heap.size
 below : Below w.heap.size w wr
theorem gat_more {w wr w4 : World} {cs : Array Value} {l : List En} {v v4 : Value} {x : En} {o : Obj} (h : Gat w cs l v wr) (hO : Own (w.heap.size + 2) v l (wr.alloc o)) (hg : (wr.alloc o).grownBy w4 v.ownBlock)
  (hown : Own (w.heap.size + 2) v4 (l ++ [x]) w4) : Gat w cs (l ++ [x]) v4 w4 := by
 have hA := (Below.refl wr.heap.size wr).alloc (Nat.le_refl _) o
 have big := h.big
 have hne : ∀ y, y < w.heap.size + 2 → some y ≠ v.ownBlock := fun y hy e => by have := owns_lt hO y e.symm; omega
 have hbig : wr.heap.size ≤ (wr.alloc o).heap.size := hA.size
 have hs : (wr.alloc o).heap.size ≤ w4.heap.size := hg.size
 refine ⟨hown, grown_obj hg ((hA.block _ (lt_of_obj h.box)).trans h.box) (hne _ (by omega)), grown_obj hg ((hA.block _ (lt_of_obj h.res)).trans h.res) (hne _ (by omega)), by omega, ?_⟩
 exact (h.below.trans (hA.mono h.below.size)).grown hg (Nat.le_trans h.below.size hbig) (fun j hj => by have := owns_lt hO j hj; omega)
theorem set5 {w : World} {g : Nat} {x0 x1 x2 x3 x4 : Value} (v0 v1 v2 v3 v4 : Value) (h : w.heap[g]? = some (.cells #[x0, x1, x2, x3, x4] 43 (0, 0))) :
  (((((w.setCell ⟨g, 0, none⟩ v0).setCell ⟨g, 1, none⟩ v1).setCell ⟨g, 2, none⟩ v2).setCell ⟨g, 3, none⟩ v3).setCell ⟨g, 4, none⟩ v4).heap[g]? = some (.cells #[v0, v1, v2, v3, v4] 43 (0, 0)) := by
 have h0 := heap_setCell_same w g 0 _ 43 v0 h
 have h1 := heap_setCell_same _ g 1 _ 43 v1 h0
 have h2 := heap_setCell_same _ g 2 _ 43 v2 h1
 have h3 := heap_setCell_same _ g 3 _ 43 v3 h2
 have h4 := heap_setCell_same _ g 4 _ 43 v4 h3
 simpa using h4
theorem below5 {n0 : Nat} {w W : World} {g : Nat} (h : Below n0 w W) (hg : n0 ≤ g) (v0 v1 v2 v3 v4 : Value) :
  Below n0 w (((((W.setCell ⟨g, 0, none⟩ v0).setCell ⟨g, 1, none⟩ v1).setCell ⟨g, 2, none⟩ v2).setCell ⟨g, 3, none⟩ v3).setCell ⟨g, 4, none⟩ v4) :=
 ((((h.setCell hg v0).setCell hg v1).setCell hg v2).setCell hg v3).setCell hg v4
theorem own_set {base : Nat} {v : Value} {l : List En} {w : World} (h : Own base v l w) {g : Nat} (hg : g < base) (k : Nat) (y : Value) : Own base v l (w.setCell ⟨g, k, none⟩ y) := by
 refine World.ownsRow.kept h (?_ : w.grownBy _ (some g)) (.inr fun e => ?_)
 ·exact ⟨rfl, rfl, rfl, by simp [World.setCell], fun j hj hne => heap_setCell_other w ⟨g, k, none⟩ j _ (fun e => hne (by rw [e]))⟩
 ·have := owns_lt h g e; omega
theorem own_set5 {base : Nat} {v : Value} {l : List En} {w : World} (h : Own base v l w) {g : Nat} (hg : g < base) (v0 v1 v2 v3 v4 : Value) :
  Own base v l (((((w.setCell ⟨g, 0, none⟩ v0).setCell ⟨g, 1, none⟩ v1).setCell ⟨g, 2, none⟩ v2).setCell ⟨g, 3, none⟩ v3).setCell ⟨g, 4, none⟩ v4) :=
 own_set (own_set (own_set (own_set (own_set h hg 0 v0) hg 1 v1) hg 2 v2) hg 3 v3) hg 4 v4
theorem size1 (w : World) (x : Obj) : (w.alloc x).heap.size = w.heap.size + 1 := by simp
theorem two0 (w : World) (x y : Obj) : ((w.alloc x).alloc y).heap[w.heap.size]? = some x := by
 have h := heap_alloc_new w x
 have hb := (Below.refl (w.alloc x).heap.size (w.alloc x)).alloc (Nat.le_refl _) y
 exact (hb.block _ (lt_of_obj h)).trans h
theorem two1 (w : World) (x y : Obj) : ((w.alloc x).alloc y).heap[w.heap.size + 1]? = some y := by rw [← size1 w x]; exact heap_alloc_new _ _
theorem two2 (w : World) (x y : Obj) : w.heap.size + 2 ≤ ((w.alloc x).alloc y).heap.size := by rw [size1, size1]; exact Nat.le_refl _
end Go.Proofs.YthehblmjloohiaaGreatDoor

namespace Go.Proofs.YthehblmjloohiaaGreatDoor
set_option maxRecDepth 100000
open Go.RowKit
structure Strs (a : Option Addr) (len : Nat) (ss : List ByteArray) (w : World) : Prop where
 count : len = ss.length
 cell : ∀ i, i < len → ∃ b off, a = some ⟨b, off, none⟩ ∧ w.cell? ⟨b, off + i, none⟩ = some (.string (ss.getD i ByteArray.empty))
theorem Strs.below {a : Option Addr} {len : Nat} {ss : List ByteArray} {w w' : World} (h : Strs a len ss w) (hb : Below w.heap.size w w') : Strs a len ss w' :=
 ⟨h.count, fun i hi => by
  obtain ⟨b, off, ha, hc⟩ := h.cell i hi
  exact ⟨b, off, ha, (hb.cell (p := ⟨b, off + i, none⟩) (block_lt_of_cell hc)).trans hc⟩⟩
def lstr (l : List UInt8) : ByteArray := ⟨l.toArray⟩
theorem lstr_size (l : List UInt8) : (lstr l).size = l.length := by show l.toArray.size = _; rw [List.size_toArray]
theorem lstr_append (a b : List UInt8) : lstr a ++ lstr b = lstr (a ++ b) := by
 apply ByteArray.ext
 rw [ByteArray.data_append]
 apply Array.ext'
 rw [Array.toList_append]; rfl
theorem lstr_data (l : List UInt8) : (lstr l).data.toList = l := rfl
theorem str_empty {d : ByteArray} (h : d.size = 0) : d = ⟨#[]⟩ := Go.WideShapes.bytes_inj (List.eq_nil_of_length_eq_zero (Array.length_toList.trans h))
theorem cut_text (x : ByteArray) (a n : Nat) (_ : a + n ≤ x.size) : x.extract a (a + n) = lstr ((x.data.toList.drop a).take n) := by
 apply Go.WideShapes.bytes_inj
 rw [ByteArray.data_extract, Array.toList_extract, List.extract_eq_take_drop, Nat.add_sub_cancel_left]
 rfl
def Trow (base : Nat) (v : Value) (ls : List (List UInt8)) (w : World) : Prop := w.ownsRow base 9 1 v ls.length (ls.map fun l => .string (lstr l))
theorem trow_below {base : Nat} {v : Value} {ls : List (List UInt8)} {w w' : World} (h : Trow base v ls w) (hb : Below w.heap.size w w') : Trow base v ls w' :=
 World.ownsRow.kept h (⟨hb.os, hb.tape, hb.output, hb.size, fun k hk _ => hb.block k hk⟩ : w.grownBy w' none) (by cases v.ownBlock <;> simp)
theorem trow_form {base : Nat} {v : Value} {ls : List (List UInt8)} {w : World} (h : Trow base v ls w) : ∃ a c, v = .slice a ls.length c := by
 obtain ⟨_, ⟨rfl, h0⟩ | ⟨g, cap, _, rfl, _⟩⟩ := h
 ·exact ⟨none, 0, by rw [h0]⟩
 ·exact ⟨_, _, rfl⟩
theorem trow_lt {base : Nat} {v : Value} {ls : List (List UInt8)} {w : World} (h : Trow base v ls w) : ∀ k, v.ownBlock = some k → base ≤ k := fun k hk => (World.ownsRow.lt h k hk).1
theorem trow_strs {base n : Nat} {a : Option Addr} {c : Nat} {ls : List (List UInt8)} {w : World} (h : Trow base (.slice a n c) ls w) (hn : n = ls.length) : Strs a n (ls.map lstr) w := by
 subst hn
 have h2 := h
 refine ⟨(List.length_map _).symm, fun i hi => ?_⟩
 obtain ⟨_, ⟨e, h0⟩ | ⟨g, cap, cur, e, _⟩⟩ := h
 ·omega
 ·injection e with e1 e2 e3
  subst e1
  subst e3
  refine ⟨g, 0, rfl, ?_⟩
  rw [Nat.zero_add, World.ownsRow.cellAt h2 i (by omega), List.getElem?_map, List.getElem?_eq_getElem hi]
  simp [List.getD, List.getElem?_eq_getElem hi]
theorem info9c : (Tryz.prog.info? 9).map (fun i => (i.zero, i.size, i.bytes)) = some (some (.string ⟨#[]⟩), 1, 16) := by kernel_rfl
theorem str_eq {x y : ByteArray} (h : x = y) : (x.toList == y.toList) = true := by rw [h, beq_iff_eq]
theorem str_ne {x y : ByteArray} (h : x ≠ y) : (x.toList == y.toList) = false := by
 rw [beq_eq_false_iff_ne]
 intro e
 rw [ByteArray.toList_eq, ByteArray.toList_eq] at e
 exact h (Go.WideShapes.bytes_inj e)
def talike (x y : ByteArray) : Bool := decide (x = y)
theorem talike_is (x y : ByteArray) : (x.toList == y.toList) = talike x y := by
 unfold talike
 by_cases h : x = y
 ·rw [str_eq h, decide_eq_true h]
 ·rw [str_ne h, decide_eq_false h]
theorem sem_stralike (t : TypeId) (x y : ByteArray) : binOp .eql t (.string x) (.string y) = pure (.bool (talike x y)) := by rw [binOp_string_eql, talike_is]
theorem sem_strnot (t : TypeId) (x y : ByteArray) : binOp .neq t (.string x) (.string y) = pure (.bool (!talike x y)) := by rw [binOp_string_neq, talike_is]
attribute [local go_sem 9000] sem_stralike sem_strnot
end Go.Proofs.YthehblmjloohiaaGreatDoor

namespace Go.Proofs.YthehblmjloohiaaGreatDoor
set_option maxRecDepth 100000
open Go.RowKit
theorem b_at (s : ByteArray) {i : Nat} (h : i < s.size) : s[i] = s.data.toList.getD i 0 := by
 rw [List.getD, List.getElem?_eq_getElem (by rw [Array.length_toList]; exact h)]; rfl
end Go.Proofs.YthehblmjloohiaaGreatDoor

namespace Go.Proofs.YthehblmjloohiaaGreatDoor
set_option maxRecDepth 100000
open Go.RowKit Go.Less
attribute [local go_sem 9000] sem_eql sem_neq sem_lss sem_leq sem_gtr sem_geq
def dn (l : List En) (k : ByteArray) : Bool := l.any fun x => !less x.1 k
def rows (l : List En) (k : ByteArray) (i : Int) : List En := if dn l k = true then Nd.ins less l k i else l
end Go.Proofs.YthehblmjloohiaaGreatDoor

namespace Go.Proofs.YthehblmjloohiaaGreatDoor
set_option maxRecDepth 100000
open Go.RowKit Go.Less
attribute [local go_sem 9000] sem_eql sem_neq
structure MI where
 it : Fs.Item
 ea : Option Addr
 ec : Nat
abbrev MI.x (m : MI) : Nd.Node := m.it.2
def its (L : List MI) : List Fs.Item := L.map (·.it)
def icell (m : MI) : List Value := [.int .i64 m.it.1, .int .i64 m.x.kind, .int .i64 m.x.mode, .string m.x.data, .string m.x.target, .slice m.ea m.x.ents.length m.ec]
def irow (L : List MI) : List Value := L.flatMap icell
structure Items (a : Option Addr) (n : Nat) (L : List MI) (w : World) : Prop where
 count : n = L.length
 cell : ∀ i x, L[i]? = some x → ∃ b off, a = some ⟨b, off, none⟩ ∧ ∀ j v, (icell x)[j]? = some v → w.cell? ⟨b, off + i * 6 + j, none⟩ = some v
 ents : ∀ x ∈ L, Ents x.ea x.x.ents.length x.x.ents w
theorem Items.below {a : Option Addr} {n : Nat} {L : List MI} {w w' : World} (h : Items a n L w) (hb : Below w.heap.size w w') : Items a n L w' :=
 ⟨h.count, fun i x hx => by
  obtain ⟨b, off, rfl, hc⟩ := h.cell i x hx
  exact ⟨b, off, rfl, fun j v hj => (hb.cell (p := ⟨b, off + i * 6 + j, none⟩) (block_lt_of_cell (hc j v hj))).trans (hc j v hj)⟩, fun x hx => (h.ents x hx).below hb⟩
abbrev fv (a : Option Addr) (n c : Nat) (nx : Int) : Value := .agg #[.slice a n c, .int .i64 nx]
theorem take_succ_some {α : Type} {l : List α} {i : Nat} {x : α} (h : l[i]? = some x) : l.take (i + 1) = l.take i ++ [x] := by
 obtain ⟨hi, e⟩ := List.getElem?_eq_some_iff.1 h
 rw [List.take_succ_eq_append_getElem hi, e]
def Node11 (l : List Fs.Item) (k : Int) (w : World) (e : Ending) (w' : World) : Prop :=
 ∃ ea ec, e = .returned (.tuple #[nv (Fs.nodeD l k).kind (Fs.nodeD l k).mode (Fs.nodeD l k).data (Fs.nodeD l k).target ea (Fs.nodeD l k).ents.length ec, .bool (Fs.node l k).isSome]) ∧ Ents ea (Fs.nodeD l k).ents.length (Fs.nodeD l k).ents w' ∧ Below w.heap.size w w'
end Go.Proofs.YthehblmjloohiaaGreatDoor

namespace Nd
def good (lt : ByteArray → ByteArray → Bool) (nm : List UInt8 → Bool) (l : List En) : Bool := l.all (entOk nm) && rises lt l
def after (lt : ByteArray → ByteArray → Bool) (l : List En) (x : En) : Bool := match l.getLast? with
 | none => true
 | some y => lt y.1 x.1
def kindOk (x : Node) : Bool :=
 if x.kind = 1 then decide (x.target = ByteArray.empty) && decide (x.ents.length = 0) && decide (x.data.size ≤ 4096)
 else if x.kind = 2 then decide (x.target = ByteArray.empty) && decide (x.data = ByteArray.empty)
 else decide (x.kind = 3) && decide (x.data = ByteArray.empty) && decide (x.ents.length = 0) && decide (1 ≤ x.target.size) && decide (x.target.size ≤ 64)
section
variable {lt : ByteArray → ByteArray → Bool} {nm : List UInt8 → Bool}
theorem rises_snoc (l : List En) (x : En) : rises lt (l ++ [x]) = (rises lt l && after lt l x) := by
 induction l with
 | nil => rfl
 | cons y l ih =>
  cases l with
  | nil => simp [rises, after]
  | cons z l =>
   rw [List.cons_append, List.cons_append, rises, ← List.cons_append, ih, rises, Bool.and_assoc]
   congr 2
theorem good_snoc (l : List En) (x : En) : good lt nm (l ++ [x]) = (good lt nm l && (entOk nm x && after lt l x)) := by
 unfold good
 rw [List.all_append, rises_snoc]
 simp only [List.all_cons, List.all_nil, Bool.and_true]
 cases l.all (entOk nm) <;> cases rises lt l <;> cases entOk nm x <;> cases after lt l x <;> rfl
theorem good_front (a b : List En) (h : good lt nm a = false) : good lt nm (a ++ b) = false := by
 induction b using snoc_rec with
 | nil => rw [List.append_nil]; exact h
 | append_singleton b x ih => rw [← List.append_assoc, good_snoc, ih]; rfl
theorem good_take {l : List En} {j : Nat} (h : good lt nm (l.take j) = false) : good lt nm l = false := by
 rw [← List.take_append_drop j l]; exact good_front _ _ h
theorem right_is (x : Node) : right lt nm x = (decide (0 ≤ x.mode) && decide (x.mode ≤ 511) && decide (x.ents.length ≤ 64) && good lt nm x.ents && kindOk x) := by
 unfold right good kindOk
 simp only [Bool.and_assoc]
theorem after_last {l : List En} {x z : En} {j : Nat} (hj : l.length = j + 1) : after lt l x = lt (l.getD j z).1 x.1 := by
 unfold after
 rw [List.getLast?_eq_getElem?, hj, Nat.add_sub_cancel, List.getElem?_eq_getElem (by omega), List.getD, List.getElem?_eq_getElem (by omega)]
 rfl
def rightP (lt : ByteArray → ByteArray → Bool) (nm : List UInt8 → Bool) (x : Node) : Bool :=
 decide (0 ≤ x.mode) && decide (x.mode ≤ 511) &&
 (if x.kind = 1 then decide (x.data.size ≤ 4096) && decide (x.target = ByteArray.empty) && decide (x.ents.length = 0)
  else if x.kind = 2 then decide (x.data = ByteArray.empty) && decide (x.target = ByteArray.empty) && (decide (x.ents.length ≤ 64) && good lt nm x.ents)
  else decide (x.kind = 3) && decide (x.data = ByteArray.empty) && !decide (x.target = ByteArray.empty) && decide (x.target.size ≤ 64) && decide (x.ents.length = 0))
theorem size_pos (t : ByteArray) : decide (1 ≤ t.size) = !decide (t = ByteArray.empty) := by
 by_cases h : t = ByteArray.empty
 ·subst h; rfl
 ·rw [decide_eq_false h, decide_eq_true]; rfl
  rcases Nat.eq_zero_or_pos t.size with h0 | h0
  ·exact absurd (ByteArray.ext (Array.eq_empty_of_size_eq_zero h0)) h
  ·exact h0
theorem right_P (x : Node) : right lt nm x = rightP lt nm x := by
 rw [right_is]
 unfold rightP kindOk
 rw [size_pos]
 by_cases h0 : x.ents.length = 0
 ·have e : x.ents = [] := List.length_eq_zero_iff.1 h0
  rw [e]
  rw [show good lt nm [] = true from rfl]
  simp only [List.length_nil, decide_true, Nat.zero_le, Bool.and_true]
  cases decide (0 ≤ x.mode) <;> cases decide (x.mode ≤ 511) <;> split <;> try split
  all_goals cases decide (x.target = ByteArray.empty) <;> cases decide (x.data.size ≤ 4096) <;> cases decide (x.data = ByteArray.empty) <;> cases decide (x.kind = 3) <;> cases decide (x.target.size ≤ 64) <;> rfl
 ·rw [decide_eq_false h0]
  cases decide (0 ≤ x.mode) <;> cases decide (x.mode ≤ 511) <;> split <;> try split
  all_goals cases decide (x.target = ByteArray.empty) <;> cases decide (x.data.size ≤ 4096) <;> cases decide (x.data = ByteArray.empty) <;> cases decide (x.kind = 3) <;> cases decide (x.target.size ≤ 64) <;> cases decide (x.ents.length ≤ 64) <;> cases good lt nm x.ents <;> rfl
end
end Nd

namespace Go.Proofs.YthehblmjloohiaaGreatDoor
set_option maxRecDepth 100000
open Go.RowKit Go.Less
attribute [local go_sem 9000] sem_eql sem_neq sem_lss sem_leq sem_gtr sem_geq
def ndr (k m : Int) (d t : ByteArray) (l : List En) : Bool := Nd.right less Nm.right ⟨k, m, d, t, l⟩
def ndg (l : List En) : Bool := Nd.good less Nm.right l
def isE (t : ByteArray) : Bool := alike t ⟨#[]⟩
theorem nm_ok (x : En) : Nd.entOk Nm.right x = (Nm.right x.1.data.toList && decide (1 ≤ x.2) && decide (x.2 ≤ 2147483647)) := rfl
theorem ndg_more {l : List En} {j : Nat} (hj : j < l.length) (hg : ndg (l.take j) = true) {x : En} (hx : x = l.getD j z0) (ho : Nd.entOk Nm.right x = true) (ha : Nd.after less (l.take j) x = true) : ndg (l.take (j + 1)) = true := by
 subst hx
 rw [take_snoc hj z0]; unfold ndg at *; rw [Nd.good_snoc, hg, ho, ha]; rfl
theorem ndg_bad {l : List En} {j : Nat} (hj : j < l.length) {x : En} (hx : x = l.getD j z0) (ho : Nd.entOk Nm.right x = false) : ndg l = false := by
 subst hx
 refine Nd.good_take (j := j + 1) ?_
 rw [take_snoc hj z0, Nd.good_snoc, ho]; simp
theorem ndg_low {l : List En} {j : Nat} (hj : j < l.length) {x : En} (hx : x = l.getD j z0) (ha : Nd.after less (l.take j) x = false) : ndg l = false := by
 subst hx
 refine Nd.good_take (j := j + 1) ?_
 rw [take_snoc hj z0, Nd.good_snoc, ha]; simp
theorem after_zero (l : List En) (x : En) : Nd.after less (l.take 0) x = true := rfl
theorem after_succ {l : List En} {j : Nat} (hj : j < l.length) (h0 : 1 ≤ j) (x : En) : Nd.after less (l.take j) x = less (l.getD (j - 1) z0).1 x.1 := by
 obtain ⟨i, rfl⟩ : ∃ i, j = i + 1 := ⟨j - 1, by omega⟩
 rw [Nd.after_last (z := z0) (j := i) (by rw [List.length_take]; omega)]
 simp [List.getD]
end Go.Proofs.YthehblmjloohiaaGreatDoor

namespace Go.Proofs.YthehblmjloohiaaGreatDoor
set_option maxRecDepth 100000
open Go.RowKit
def bv (c : UInt8) : Value := .int .u8 (c.toNat : Int)
def byteOf (q : Nat) : UInt8 := UInt8.ofNat q
theorem byteOf_eq (q : Nat) : (q : Int) % 256 = ((byteOf q).toNat : Int) := by unfold byteOf; rw [UInt8.toNat_ofNat']; rfl
def num (v : Nat) : Nat → List UInt8
 | 0 => []
 | k + 1 => UInt8.ofNat (v / 256 ^ k) :: num v k
theorem num_length (v : Nat) : ∀ k, (num v k).length = k
 | 0 => rfl
 | k + 1 => by simp [num, num_length v k]
theorem num_two (v : Nat) : num v 2 = [UInt8.ofNat (v / 256), UInt8.ofNat v] := by simp [num]
theorem num_one (v : Nat) : num v 1 = [UInt8.ofNat v] := by simp [num]
def numStr (n k : Nat) : ByteArray := ⟨(num n k).toArray⟩
theorem numStr_data (n k : Nat) : (numStr n k).data.toList = num n k := rfl
theorem run_bytes1 (w : World) (a : UInt8) : (convert 137 9 (.slice (some ⟨w.heap.size, 0, none⟩) 1 1)).run Tryz.prog (w.alloc (.cells #[.int .u8 (a.toNat : Int)] 5)) = .ok (.string ⟨#[a]⟩) (w.alloc (.cells #[.int .u8 (a.toNat : Int)] 5)) := by
 rw [run_convert_bytes_arg (P := Tryz.prog) (w.alloc (.cells #[.int .u8 (a.toNat : Int)] 5)) 137 5 Tryz.underlying137 Tryz.underlying5 w.heap.size 0 1 1 [(a.toNat : Int)] rfl ?_ 9 Tryz.underlying9]
 ·simp [strOfNums]
 ·intro i hi
  rw [Nat.zero_add, World.cell?_alloc_new]
  match i, hi with
  | 0, _ => rfl
attribute [local go_sem 9000] run_bytes1
end Go.Proofs.YthehblmjloohiaaGreatDoor
