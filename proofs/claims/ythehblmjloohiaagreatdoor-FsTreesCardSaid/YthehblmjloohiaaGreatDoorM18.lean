/- Layer 11, a part of the proofs: no statement of its own. -/
import Derived.Deep.RegionHeld3
import Derived.Deep.RegionLaw
import Derived.Test.YthehblmjloohiaaGreatDoorM17
namespace Go.Proofs.YthehblmjloohiaaGreatDoor
set_option maxRecDepth 100000
open Go.RowKit Go.Less
open T8 (pv Dg)
abbrev Bo := Nat × Array Value × TypeId
structure Bxs (w : World) (L : List Bo) (W : World) : Prop where
 at_ : ∀ (i : Nat) (b : Bo), L[i]? = some b → W.heap[b.1]? = some (.cells b.2.1 b.2.2 (0, 0))
 lo : ∀ (i : Nat) (b : Bo), L[i]? = some b → w.heap.size ≤ b.1
 apart : ∀ (i j : Nat) (b c : Bo), L[i]? = some b → L[j]? = some c → i ≠ j → b.1 ≠ c.1
 below : Below w.heap.size w W
theorem Bxs.nil (w : World) : Bxs w [] w := ⟨fun i b h => by simp at h, fun i b h => by simp at h, fun i j b c h => by simp at h, Below.refl _ _⟩
theorem Bxs.kept {w : World} {L : List Bo} {W W' : World} (h : Bxs w L W) (hb : Below W.heap.size W W') : Bxs w L W' :=
 ⟨fun i b hi => (hb.block _ (lt_of_obj (h.at_ i b hi))).trans (h.at_ i b hi), h.lo, h.apart, h.below.trans (hb.mono h.below.size)⟩
theorem snoc_get {L : List Bo} {x b : Bo} {i : Nat} (h : (L ++ [x])[i]? = some b) : (i < L.length ∧ L[i]? = some b) ∨ (i = L.length ∧ b = x) := by
 by_cases hi : i < L.length
 ·rw [List.getElem?_append_left hi] at h; exact .inl ⟨hi, h⟩
 ·rw [List.getElem?_append_right (by omega)] at h
  cases hk : i - L.length with
  | zero => rw [hk] at h; injection h with h; exact .inr ⟨by omega, h.symm⟩
  | succ k => rw [hk] at h; simp at h
theorem Bxs.more {w : World} {L : List Bo} {W : World} (h : Bxs w L W) (cs : Array Value) (t : TypeId) {p : Nat} (hp : W.heap.size = p) : Bxs w (L ++ [(p, cs, t)]) (W.alloc (.cells cs t)) := by
 subst hp
 have hk := h.kept (below_one W (.cells cs t))
 refine ⟨fun i b hi => ?_, fun i b hi => ?_, fun i j b c hi hj hne => ?_, hk.below⟩
 ·rcases snoc_get hi with ⟨_, hi⟩ | ⟨_, rfl⟩
  ·exact hk.at_ i b hi
  ·exact heap_alloc_new W _
 ·rcases snoc_get hi with ⟨_, hi⟩ | ⟨_, rfl⟩
  ·exact h.lo i b hi
  ·exact h.below.size
 ·rcases snoc_get hi with ⟨_, hi⟩ | ⟨rfl, rfl⟩ <;> rcases snoc_get hj with ⟨_, hj⟩ | ⟨e, rfl⟩
  ·exact h.apart i j b c hi hj hne
  ·exact Nat.ne_of_lt (lt_of_obj (h.at_ i b hi))
  ·exact Nat.ne_of_gt (lt_of_obj (h.at_ j c hj))
  ·exact absurd e.symm hne
theorem Bxs.one (w : World) (cs : Array Value) (t : TypeId) : Bxs w [(w.heap.size, cs, t)] (w.alloc (.cells cs t)) := (Bxs.nil w).more cs t rfl
theorem Bxs.two (w : World) (cs : Array Value) (t : TypeId) (ds : Array Value) (u : TypeId) : Bxs w [(w.heap.size, cs, t), (w.heap.size + 1, ds, u)] ((w.alloc (.cells cs t)).alloc (.cells ds u)) := (Bxs.one w cs t).more ds u (size1 _ _)
theorem Bxs.three (w : World) (cs : Array Value) (t : TypeId) (ds : Array Value) (u : TypeId) (es : Array Value) (v : TypeId) : Bxs w [(w.heap.size, cs, t), (w.heap.size + 1, ds, u), (w.heap.size + 1 + 1, es, v)] (((w.alloc (.cells cs t)).alloc (.cells ds u)).alloc (.cells es v)) := (Bxs.two w cs t ds u).more es v (by rw [size1, size1])
theorem Bxs.cell {w : World} {L : List Bo} {W : World} (h : Bxs w L W) (i : Nat) {p : Nat} {cs : Array Value} {t : TypeId} (hi : L[i]? = some (p, cs, t)) (k : Nat) : W.cell? ⟨p, k, none⟩ = cs[k]? := cell_obj (h.at_ i _ hi) k
theorem Bxs.free {w : World} {L : List Bo} {W : World} (h : Bxs w L W) (i : Nat) {p : Nat} {cs : Array Value} {t : TypeId} (hi : L[i]? = some (p, cs, t)) (k : Nat) : W.frozen? ⟨p, k, none⟩ = false := free_obj (h.at_ i _ hi) k
theorem Bxs.obj {w : World} {L : List Bo} {W : World} (h : Bxs w L W) (i : Nat) {p : Nat} {cs : Array Value} {t : TypeId} (hi : L[i]? = some (p, cs, t)) : W.heap[p]? = some (.cells cs t (0, 0)) := h.at_ i _ hi
theorem Bxs.put {w : World} {L : List Bo} {W : World} (h : Bxs w L W) (i : Nat) {p : Nat} {cs : Array Value} {t : TypeId} (hi : L[i]? = some (p, cs, t)) (k : Nat) (v : Value) : Bxs w (L.set i (p, cs.setIfInBounds k v, t)) (W.setCell ⟨p, k, none⟩ v) := by
 have hl : i < L.length := (List.getElem?_eq_some_iff.1 hi).1
 have old : ∀ (j : Nat) (b : Bo), (L.set i (p, cs.setIfInBounds k v, t))[j]? = some b → (j = i ∧ b = (p, cs.setIfInBounds k v, t)) ∨ (j ≠ i ∧ L[j]? = some b) := fun j b hj => by
  rw [List.getElem?_set] at hj
  split at hj
  ·rename_i e
   subst e
   try rw [if_pos hl] at hj
   injection hj with hj
   exact .inl ⟨rfl, hj.symm⟩
  ·rename_i e; exact .inr ⟨fun x => e x.symm, hj⟩
 refine ⟨fun j b hj => ?_, fun j b hj => ?_, fun j m b c hj hm hne => ?_, h.below.setCell (h.lo i _ hi) v⟩
 ·rcases old j b hj with ⟨rfl, rfl⟩ | ⟨hne, hj⟩
  ·exact heap_setCell_same W p k cs t v (h.at_ _ _ hi)
  ·rw [heap_setCell_other W ⟨p, k, none⟩ b.1 v (h.apart j i b _ hj hi hne)]
   exact h.at_ j b hj
 ·rcases old j b hj with ⟨rfl, rfl⟩ | ⟨_, hj'⟩
  ·exact h.lo j (p, cs, t) hi
  ·exact h.lo j b hj'
 ·rcases old j b hj with ⟨e1, rfl⟩ | ⟨h1, hj'⟩ <;> rcases old m c hm with ⟨e2, rfl⟩ | ⟨h2, hm'⟩
  ·exact absurd (e1.trans e2.symm) hne
  ·exact h.apart i m (p, cs, t) c hi hm' (fun x => h2 x.symm)
  ·exact h.apart j i b (p, cs, t) hj' hi h1
  ·exact h.apart j m b c hj' hm' hne
theorem Bxs.put5 {w : World} {L : List Bo} {W : World} (h : Bxs w L W) (i : Nat) {p : Nat} {x0 x1 x2 x3 x4 : Value} {t : TypeId} (hi : L[i]? = some (p, #[x0, x1, x2, x3, x4], t)) (v0 v1 v2 v3 v4 : Value) :
  Bxs w (L.set i (p, #[v0, v1, v2, v3, v4], t)) (((((W.setCell ⟨p, 0, none⟩ v0).setCell ⟨p, 1, none⟩ v1).setCell ⟨p, 2, none⟩ v2).setCell ⟨p, 3, none⟩ v3).setCell ⟨p, 4, none⟩ v4) := by
 have hl : i < L.length := (List.getElem?_eq_some_iff.1 hi).1
 have h1 := h.put i hi 0 v0
 have h2 := h1.put i (p := p) (cs := #[v0, x1, x2, x3, x4]) (t := t) (by rw [List.getElem?_set_self hl]; rfl) 1 v1
 rw [List.set_set] at h2
 have h3 := h2.put i (p := p) (cs := #[v0, v1, x2, x3, x4]) (t := t) (by rw [List.getElem?_set_self hl]; rfl) 2 v2
 rw [List.set_set] at h3
 have h4 := h3.put i (p := p) (cs := #[v0, v1, v2, x3, x4]) (t := t) (by rw [List.getElem?_set_self hl]; rfl) 3 v3
 rw [List.set_set] at h4
 have h5 := h4.put i (p := p) (cs := #[v0, v1, v2, v3, x4]) (t := t) (by rw [List.getElem?_set_self hl]; rfl) 4 v4
 rw [List.set_set] at h5
 exact h5
structure Kept (p : Nat) (T : TypeId) (W W' : World) : Prop where
 obj : ∃ cs fr, W.heap[p]? = some (.cells cs T fr)
 tree : T ≠ 151
 map : T ≠ 153
 all : ∀ k, k ≠ p → W'.heap[k]? = W.heap[k]?
theorem Kept.block {p : Nat} {T : TypeId} {W W' : World} (h : Kept p T W W') {b : Nat} {cs : Array Value} {t : TypeId} {fr : Nat × Nat} (hb : W.heap[b]? = some (.cells cs t fr)) (ht : T ≠ t) : W'.heap[b]? = some (.cells cs t fr) := by
 by_cases e : b = p
 ·subst e
  obtain ⟨cs', fr', ho⟩ := h.obj
  rw [ho] at hb
  injection hb with hb
  injection hb with _ e _
  exact absurd e ht
 ·exact (h.all b e).trans hb
theorem Kept.trees {p : Nat} {T : TypeId} {W W' : World} (h : Kept p T W W') : ∀ {t : T8.Tt} {q : Option Nat}, T8.Tree W q t → T8.Tree W' q t
 | .leaf, _, hq => hq
 | .node _ _ _ _, _, ⟨b, pl, pr, e, hc, hk, hv, hl, hr⟩ => ⟨b, pl, pr, e, h.block hc h.tree, hk, hv, h.trees hl, h.trees hr⟩
theorem Kept.maps {p : Nat} {T : TypeId} {W W' : World} (h : Kept p T W W') {m : Option Nat} {t : T8.Tt} (hm : T8.IsMap W m t) : T8.IsMap W' m t := by
 cases m with
 | none => exact hm
 | some b => obtain ⟨q, h1, h2⟩ := hm; exact ⟨q, h.block h1 h.map, h.trees h2⟩
theorem Sv.kept {p : Nat} {T : TypeId} {W W' : World} {m : Option Nat} {l : List Fs.Item} (h : Sv W m l) (hk : Kept p T W W') (hD : Dg W') : Sv W' m l := ⟨⟨h.rp.sorted, hk.maps h.rp.map⟩, h.ok, hD⟩
theorem Kept.cell {p : Nat} {T : TypeId} {W : World} {cs : Array Value} {fr : Nat × Nat} (h : W.heap[p]? = some (.cells cs T fr)) (t1 : T ≠ 151) (t2 : T ≠ 153) (k : Nat) (v : Value) : Kept p T W (W.setCell ⟨p, k, none⟩ v) :=
 ⟨⟨_, _, h⟩, t1, t2, fun j hj => heap_setCell_other W ⟨p, k, none⟩ j v hj⟩
theorem store_bx {ops : Array Oper} {rest : List Oper} {o : Oper} {a : Act} {w0 w : World} {L : List Bo} {Q : Exit → Act → World → Prop} (H : Bxs w0 L w) (i : Nat) (hgd : o.guard = none) (ty : TypeId) (x y : Operand) (ho : o.op = .store ty x y)
  {p : Nat} {old : Array Value} (hi : L[i]? = some (p, old, ty)) (cells : Array Value) (hx : a.eval x = .pointer (some ⟨p, 0, none⟩)) (hy : a.eval y = .agg cells)
  (hz : (Tryz.prog.info? ty).map (·.size) = some cells.size) (hold : old.size = cells.size) (h1 : cells.toList.all (·.oneCell') = true) (t1 : ty ≠ 151) (t2 : ty ≠ 153)
  (h : ∀ w', Bxs w0 (L.set i (p, cells, ty)) w' → Kept p ty w w' → Below w0.heap.size w0 w' → w'.heap.size = w.heap.size → wpList Tryz.prog ops Q rest (a.put o.dst undef) w') : wpList Tryz.prog ops Q (o :: rest) a w := by
 have hg := H.at_ i _ hi
 have hl : i < L.length := (List.getElem?_eq_some_iff.1 hi).1
 have hlo := H.lo i _ hi
 have hb : Below w0.heap.size w0 (w.setRow p cells) := ⟨H.below.os, H.below.tape, H.below.output, by rw [setRow_size]; exact H.below.size, fun k hk => (setRow_other _ _ _ _ (by have : k < w0.heap.size := hk; simp only at hlo; omega)).trans (H.below.block k hk)⟩
 refine wpList_store_row hgd ty x y ho p cells hx hy ty old hg hz hold (by rw [← Array.all_toList]; exact h1) (h _ ⟨fun j b hj => ?_, fun j b hj => ?_, fun j m b c hj hm hne => ?_, hb⟩ ⟨⟨_, _, hg⟩, t1, t2, fun k hk => setRow_other _ _ _ _ hk⟩ hb (setRow_size _ _ _))
 ·rw [List.getElem?_set] at hj
  split at hj
  ·try rw [if_pos hl] at hj
   injection hj with hj
   subst hj
   exact setRow_heap _ _ _ _ _ _ hg
  ·rename_i e
   rw [setRow_other _ _ _ _ (H.apart j i b _ hj hi (fun x => e x.symm))]
   exact H.at_ j b hj
 ·rw [List.getElem?_set] at hj
  split at hj
  ·try rw [if_pos hl] at hj
   injection hj with hj
   subst hj
   exact hlo
  ·exact H.lo j b hj
 ·rw [List.getElem?_set] at hj hm
  split at hj <;> split at hm
  ·rename_i e1 e2; exact absurd (e1.symm.trans e2) hne
  ·rename_i e1 e2
   try rw [if_pos hl] at hj
   injection hj with hj
   subst hj
   exact H.apart i m (p, old, ty) c hi hm e2
  ·rename_i e1 e2
   try rw [if_pos hl] at hm
   injection hm with hm
   subst hm
   exact H.apart j i b (p, old, ty) hj hi (fun x => e1 x.symm)
  ·exact H.apart j m b c hj hm hne
def NoEnt (cs : Array Value) : Prop := ∀ j s i, cs[j]? = some (.string s) → cs[j + 1]? = some (.int .i64 i) → False
theorem noEnt43 (k m : Int) (d t : ByteArray) (a : Option Addr) (n c : Nat) : NoEnt #[.int .i64 k, .int .i64 m, .string d, .string t, .slice a n c] := fun j s i h0 h1 => by
 match j with
 | 0 => cases h0
 | 1 => cases h0
 | 2 => cases h1
 | 3 => cases h1
 | 4 => cases h0
 | j + 5 => simp at h0
theorem noEnt88 (m : Option Nat) (nx : Int) : NoEnt #[pv m, .int .i64 nx] := fun j s i h0 h1 => by
 match j with
 | 0 => cases h0
 | 1 => cases h0
 | j + 2 => simp at h0
theorem noEnt178 (q k m : Int) (d t : ByteArray) (a : Option Addr) (n c : Nat) (x : ByteArray) : NoEnt #[.int .i64 q, .int .i64 k, .int .i64 m, .string d, .string t, .slice a n c, .string x] := fun j s i h0 h1 => by
 match j with
 | 0 => cases h0
 | 1 => cases h0
 | 2 => cases h0
 | 3 => cases h1
 | 4 => cases h1
 | 5 => cases h0
 | 6 => simp at h1
 | j + 7 => simp at h0
theorem Kept.ents {p : Nat} {T : TypeId} {W W' : World} (hk : Kept p T W W') {cs : Array Value} {t : TypeId} (hp : W.heap[p]? = some (.cells cs t (0, 0))) (hn : NoEnt cs) {a : Option Addr} {n : Nat} {l : List En} (h : Ents a n l W) : Ents a n l W' := by
 refine ⟨h.count, fun i hi => ?_⟩
 obtain ⟨b, off, rfl, h0, h1⟩ := h.cell i hi
 by_cases hb : b = p
 ·subst hb
  rw [cell_obj hp] at h0 h1
  exact (hn _ _ _ h0 h1).elim
 ·refine ⟨b, off, rfl, ?_, ?_⟩
  ·rw [← h0]; simp only [World.cell?, hk.all b hb]
  ·rw [← h1]; simp only [World.cell?, hk.all b hb]
theorem below_kept {w w1 W W' : World} {p : Nat} {T : TypeId} (h1 : Below w1.heap.size w1 W) (hk : Kept p T W W') (hp : w1.heap.size ≤ p) (hs : W'.heap.size = W.heap.size) (hb : Below w.heap.size w W) (hb' : Below w.heap.size w W') : Below w1.heap.size w1 W' :=
 ⟨hb'.os.trans (hb.os.symm.trans h1.os), hb'.tape.trans (hb.tape.symm.trans h1.tape), hb'.output.trans (hb.output.symm.trans h1.output), by rw [hs]; exact h1.size, fun k hkl => (hk.all k (by omega)).trans (h1.block k hkl)⟩
theorem Bxs.dg {w : World} {L : List Bo} {W : World} (h : Bxs w L W) (hD : Dg w) : Dg W := hD.below h.below
theorem size88 : (Tryz.prog.info? 88).map (·.size) = some 2 := by kernel_rfl
theorem size178 : (Tryz.prog.info? 178).map (·.size) = some 7 := by kernel_rfl
theorem results_st {fn : Func} {p u : Tmp} (h : fn.results = #[.cell p 88, .tmp u]) (tmps : Array Value) (w : World) (g : Nat) (k m : Value)
  (hp : tmps.getD p undef = .pointer (some ⟨g, 0, none⟩)) (hg : w.heap[g]? = some (.cells #[k, m] 88 (0, 0))) :
  (results fn tmps).run Tryz.prog w = .ok (.tuple #[.agg #[k, m], tmps.getD u undef]) w := by
 rw [results_cell_tmp h, hp]
 simp [asAddr, Result.andThen, run_loadVar_row (P := Tryz.prog) w g 88 88 #[k, m] (0, 0) _ hg Tryz.underlying88 rfl size88]
theorem results_st1 {fn : Func} {p : Tmp} (h : fn.results = #[.cell p 88]) (tmps : Array Value) (w : World) (g : Nat) (k m : Value)
  (hp : tmps.getD p undef = .pointer (some ⟨g, 0, none⟩)) (hg : w.heap[g]? = some (.cells #[k, m] 88 (0, 0))) :
  (results fn tmps).run Tryz.prog w = .ok (.agg #[k, m]) w :=
 results_cell_row (P := Tryz.prog) h _ _ g 88 #[k, m] (0, 0) _ hp hg Tryz.underlying88 rfl size88
theorem results_pl {fn : Func} {p u : Tmp} (h : fn.results = #[.cell p 178, .tmp u]) (tmps : Array Value) (w : World) (g : Nat) (a b c d e f k : Value)
  (hp : tmps.getD p undef = .pointer (some ⟨g, 0, none⟩)) (hg : w.heap[g]? = some (.cells #[a, b, c, d, e, f, k] 178 (0, 0))) :
  (results fn tmps).run Tryz.prog w = .ok (.tuple #[.agg #[a, b, c, d, e, f, k], tmps.getD u undef]) w := by
 rw [results_cell_tmp h, hp]
 simp [asAddr, Result.andThen, run_loadVar_row (P := Tryz.prog) w g 178 178 #[a, b, c, d, e, f, k] (0, 0) _ hg Tryz.underlying178 rfl size178]
def Stated (r : Except Int Fs.FS) (w : World) (e : Ending) (w' : World) : Prop := Below w.heap.size w w' ∧ match r with
 | .error c => c ≠ 0 ∧ e = .returned (.tuple #[.agg #[.pointer none, .int .i64 0], .int .i64 c])
 | .ok f => ∃ m, e = .returned (.tuple #[stv m f.next, .int .i64 0]) ∧ Sv w' m f.l
section
variable {w : World} {L : List Bo} {W : World}
theorem Bxs.c1 (h : Bxs w L W) (i : Nat) {p : Nat} {x : Value} {t : TypeId} (hi : L[i]? = some (p, #[x], t)) : W.cell? ⟨p, 0, none⟩ = some x := h.cell i hi 0
theorem Bxs.c2 (h : Bxs w L W) (i : Nat) {p : Nat} {x y : Value} {t : TypeId} (hi : L[i]? = some (p, #[x, y], t)) : W.cell? ⟨p, 0, none⟩ = some x ∧ W.cell? ⟨p, 1, none⟩ = some y := ⟨h.cell i hi 0, h.cell i hi 1⟩
theorem Bxs.c5 (h : Bxs w L W) (i : Nat) {p : Nat} {a b c d e : Value} {t : TypeId} (hi : L[i]? = some (p, #[a, b, c, d, e], t)) : W.cell? ⟨p, 0, none⟩ = some a ∧ W.cell? ⟨p, 1, none⟩ = some b ∧ W.cell? ⟨p, 2, none⟩ = some c ∧ W.cell? ⟨p, 3, none⟩ = some d ∧ W.cell? ⟨p, 4, none⟩ = some e :=
 ⟨h.cell i hi 0, h.cell i hi 1, h.cell i hi 2, h.cell i hi 3, h.cell i hi 4⟩
theorem Bxs.c7 (h : Bxs w L W) (i : Nat) {p : Nat} {a b c d e f g : Value} {t : TypeId} (hi : L[i]? = some (p, #[a, b, c, d, e, f, g], t)) : W.cell? ⟨p, 0, none⟩ = some a ∧ W.cell? ⟨p, 1, none⟩ = some b ∧ W.cell? ⟨p, 2, none⟩ = some c ∧ W.cell? ⟨p, 3, none⟩ = some d ∧ W.cell? ⟨p, 4, none⟩ = some e ∧ W.cell? ⟨p, 5, none⟩ = some f ∧ W.cell? ⟨p, 6, none⟩ = some g :=
 ⟨h.cell i hi 0, h.cell i hi 1, h.cell i hi 2, h.cell i hi 3, h.cell i hi 4, h.cell i hi 5, h.cell i hi 6⟩
end
end Go.Proofs.YthehblmjloohiaaGreatDoor

namespace Go.Proofs.YthehblmjloohiaaGreatDoor
set_option maxRecDepth 100000
open Go.RowKit Go.Less
open T8 (pv Rp Dg Mapped mput_any mdel_any mlen_any mname_any mget_there treeOf_any cn_find cn ap_none)
theorem run_bytes5 (w : World) (a b c d : UInt8) : (convert 137 9 (.slice (some ⟨w.heap.size, 0, none⟩) 4 4)).run Tryz.prog (w.alloc (.cells #[.int .u8 (a.toNat : Int), .int .u8 (b.toNat : Int), .int .u8 (c.toNat : Int), .int .u8 (d.toNat : Int)] 5)) = .ok (.string ⟨#[a, b, c, d]⟩) (w.alloc (.cells #[.int .u8 (a.toNat : Int), .int .u8 (b.toNat : Int), .int .u8 (c.toNat : Int), .int .u8 (d.toNat : Int)] 5)) := by
 rw [run_convert_bytes_arg (P := Tryz.prog) (w.alloc (.cells #[.int .u8 (a.toNat : Int), .int .u8 (b.toNat : Int), .int .u8 (c.toNat : Int), .int .u8 (d.toNat : Int)] 5)) 137 5 Tryz.underlying137 Tryz.underlying5 w.heap.size 0 4 4 [(a.toNat : Int), (b.toNat : Int), (c.toNat : Int), (d.toNat : Int)] rfl ?_ 9 Tryz.underlying9]
 ·simp [strOfNums]
 ·intro i hi
  rw [Nat.zero_add, World.cell?_alloc_new]
  match i, hi with
  | 0, _ => rfl
  | 1, _ => rfl
  | 2, _ => rfl
  | 3, _ => rfl
attribute [local go_sem 9000] run_bytes5
set_option maxHeartbeats 8000000 in
theorem keyOf_nat (n : Nat) (w : World) (h1 : n ≤ 4294967295) :
  Calls Tryz.prog 80 #[.int .i64 (n : Int)] w (fun e w' => e = .returned (.string (Fs.key (n : Int))) ∧ Below w.heap.size w w') := by
 have HK := Lib.hid (show Fs.key (n : Int) = ⟨#[byteOf (n / 16777216), byteOf (n / 65536), byteOf (n / 256), byteOf n]⟩ by unfold Fs.key Nd.mk Nd.n4; simp [byteOf])
 have e0 : (n : Int) / 16777216 % 256 = ((byteOf (n / 16777216)).toNat : Int) := by rw [← byteOf_eq]; omega
 have e1 : (n : Int) / 65536 % 256 = ((byteOf (n / 65536)).toNat : Int) := by rw [← byteOf_eq]; omega
 have e2 : (n : Int) / 256 % 256 = ((byteOf (n / 256)).toNat : Int) := by rw [← byteOf_eq]; omega
 have e3 : (n : Int) % 256 = ((byteOf n).toNat : Int) := by rw [← byteOf_eq]
 have h0 : (0 : Int) ≤ (n : Int) := by omega
 have h1' : (n : Int) ≤ 1000000000000 := by omega
 generalize hA : byteOf (n / 16777216) = A at e0 HK
 generalize hB : byteOf (n / 65536) = B at e1 HK
 generalize hC : byteOf (n / 256) = C at e2 HK
 generalize hD : byteOf n = D at e3 HK
 clear hA hB hC hD h1
 generalize (n : Int) = k at *
 go_enter Tryz.func80, Tryz.ntmps80
 go_wp2_with fail
 go_ret
 exact ⟨by rw [HK.out]; rfl, (Below.refl w.heap.size w).alloc (Nat.le_refl _) _⟩
theorem keyOf_any (i : Int) (w : World) (h0 : 0 ≤ i) (h1 : i < 4294967296) :
  Calls Tryz.prog 80 #[.int .i64 i] w (fun e w' => e = .returned (.string (Fs.key i)) ∧ Below w.heap.size w w') := by
 obtain ⟨n, rfl⟩ : ∃ n : Nat, i = n := ⟨i.toNat, by omega⟩
 exact keyOf_nat n w (by omega)
set_option maxHeartbeats 1000000 in
theorem mget_no {w : World} {m : Option Nat} {l : List T8.Pr} (h : Rp w m l) (x : ByteArray) (hx : Tr.get l x = none) : Calls Tryz.prog 106 #[pv m, .string x] w fun e w' => e = .returned (.tuple #[.string ⟨#[]⟩, .bool false]) ∧ Below w.heap.size w w' := by
 have HT := Lib.hid (treeOf_any h.map)
 have hf := cn_find h.sorted x
 rw [hx] at hf
 have HF := Lib.hid hf
 clear h hf
 go_enter Tryz.func106, Tryz.ntmps106
 go_wp2_with fail
 refine HT.out.mono ?_
 rintro e w' ⟨p, rfl, hp, rfl⟩
 dsimp only
 go_wp2_with fail
 refine (T8.find_any hp x).mono ?_
 rintro e w' ⟨q, rfl, hq, rfl⟩
 have hfo := HF.out
 generalize Tr.T.find less (cn l) x = u at hq hfo
 cases u with
 | node l' k' v' r' => cases hfo
 | leaf =>
  have hq0 : q = none := hq
  subst hq0
  clear hq
  clear hfo HF hp HT
  simp only [pv, ap_none]
  go_wp2_with fail
  go_ret2
  exact ⟨rfl, Below.refl _ _⟩
end Go.Proofs.YthehblmjloohiaaGreatDoor

namespace Go.Proofs.YthehblmjloohiaaGreatDoor
set_option maxRecDepth 100000
open Go.RowKit Go.Less
open T8 (pv Rp Dg Mapped mput_any mdel_any mlen_any mname_any mget_there cn ap_none)
theorem Okl.out {l : List Fs.Item} (h : Okl l) {k : Int} (hk : k < 1 ∨ 2147483647 < k) : Fs.node l k = none := Fs.node_none.2 fun y hy e => by have := h.pos y hy; omega
theorem node11_none {l : List Fs.Item} {k : Int} {w W : World} (h : Fs.node l k = none) (hb : Below w.heap.size w W) : Node11 l k w (.returned (.tuple #[.agg #[.int .i64 0, .int .i64 0, .string ⟨#[]⟩, .string ⟨#[]⟩, .slice none 0 0], .bool false])) W := by
 unfold Node11
 rw [show Fs.nodeD l k = Nd.none0 from by unfold Fs.nodeD; rw [h]; rfl, h]
 exact ⟨none, 0, rfl, ents_nil _, hb⟩
theorem node11_some {l : List Fs.Item} {k : Int} {x : Nd.Node} {w W : World} (h : Fs.node l k = some x) (hb : Below w.heap.size w W) {a : Option Addr} {c : Nat} (hE : Ents a x.ents.length x.ents W) : Node11 l k w (.returned (.tuple #[nv x.kind x.mode x.data x.target a x.ents.length c, .bool true])) W := by
 unfold Node11
 rw [show Fs.nodeD l k = x from Fs.nodeD_of h, h]
 exact ⟨a, c, rfl, hE, hb⟩
theorem res_two (w : World) (a b c d e f g : Value) : ((w.alloc (.cells #[a, b] 88)).alloc (.cells #[c, d, e, f, g] 43)).heap[w.heap.size + 1]? = some (.cells #[c, d, e, f, g] 43 (0, 0)) := by
 have := heap_alloc_new (w.alloc (.cells #[a, b] 88)) (.cells #[c, d, e, f, g] 43)
 rw [size1] at this
 exact this
set_option maxHeartbeats 8000000 in
theorem pNode_any (m : Option Nat) (nx : Int) (l : List Fs.Item) (k : Int) (w : World) (h : Sv w m l) : Calls Tryz.prog 78 #[stv m nx, .int .i64 k] w (Node11 l k w) := by
 have HB := Lib.hid (Bxs.two w #[pv m, .int .i64 nx] 88 #[.int .i64 0, .int .i64 0, .string ⟨#[]⟩, .string ⟨#[]⟩, .slice none 0 0] 43)
 have HZ := Lib.hid (res_two w (pv m) (.int .i64 nx) (.int .i64 0) (.int .i64 0) (.string ⟨#[]⟩) (.string ⟨#[]⟩) (.slice none 0 0))
 by_cases hk : k < 1
 ·have HR := Lib.hid (h.ok.out (.inl hk))
  clear h
  go_enter Tryz.func78, Tryz.ntmps78
  go_wp2_with fail
  refine bodyPost_ret_by (results_nd rfl _ _ (w.heap.size + 1) _ _ _ _ _ rfl HZ.out) rfl ?_
  exact node11_none HR.out HB.out.below
 by_cases hk2 : 2147483647 < k
 ·have HR := Lib.hid (h.ok.out (.inr hk2))
  clear h
  go_enter Tryz.func78, Tryz.ntmps78
  go_wp2_with fail
  refine bodyPost_ret_by (results_nd rfl _ _ (w.heap.size + 1) _ _ _ _ _ rfl HZ.out) rfl ?_
  exact node11_none HR.out HB.out.below
 have HK := Lib.hid (fun W => keyOf_any k W (by omega) (by omega))
 have hg := get_node h (i := k) (by omega)
 cases hn : Fs.node l k with
 | none =>
  rw [hn] at hg
  have HG := Lib.hid (fun W (hb : Below w.heap.size w W) => mget_no (h.rp.below hb) (Fs.key k) hg)
  have HR := Lib.hid hn
  clear hn hg h HZ
  go_enter Tryz.func78, Tryz.ntmps78
  go_wp2_with fail
  generalize (w.alloc (.cells #[pv m, .int .i64 nx] 88)).alloc (.cells #[.int .i64 0, .int .i64 0, .string ⟨#[]⟩, .string ⟨#[]⟩, .slice none 0 0] 43) = W0 at HB ⊢
  have HSx := Lib.hid (show ∀ W, Below W0.heap.size W0 W → W.cell? ⟨w.heap.size, 0, none⟩ = some (pv m) ∧ Below W0.heap.size W0 W from fun W hb => ⟨(HB.out.kept hb).cell 0 rfl 0, hb⟩)
  have HWt := Lib.hid (show ∀ W, Below W0.heap.size W0 W → Below w.heap.size w W from fun W hb => HB.out.below.trans (hb.mono HB.out.below.size))
  have hBd := (Below.refl W0.heap.size W0).drew
  have b0_0 : W0.cell? ⟨w.heap.size, 0, none⟩ = some (pv m) := HB.out.cell 0 rfl 0
  go_wp2_with fail
  go_region_held3 (fun W => W.cell? ⟨w.heap.size, 0, none⟩ = some (pv m) ∧ Below W0.heap.size W0 W)
   (first | exact HSx.out _ (by assumption))
   (first
   | (go_at_call 80; (with_reducible refine (HK.out _).mono ?_); rintro e w2 ⟨rfl, hw2⟩; have hb2 := T8.btrans hw2 (by assumption))
   | (go_at_call 106; (with_reducible refine (HG.out _ (HWt.out _ (by assumption))).mono ?_); rintro e w3 ⟨rfl, hw3⟩; have hb3 := T8.btrans hw3 (by assumption)))
  have HB := Lib.hid (HB.out.kept hb3)
  clear b0_0 hb3 hb2 hw2 hw3 hBd
  have b0_0 : w3.cell? ⟨w.heap.size, 0, none⟩ = some (pv m) := HB.out.cell 0 rfl 0
  have b0_1 : w3.cell? ⟨w.heap.size, 1, none⟩ = some (.int .i64 nx) := HB.out.cell 0 rfl 1
  have b1_0 : w3.cell? ⟨w.heap.size + 1, 0, none⟩ = some (.int .i64 0) := HB.out.cell 1 rfl 0
  have b1_1 : w3.cell? ⟨w.heap.size + 1, 1, none⟩ = some (.int .i64 0) := HB.out.cell 1 rfl 1
  have b1_2 : w3.cell? ⟨w.heap.size + 1, 2, none⟩ = some (.string ⟨#[]⟩) := HB.out.cell 1 rfl 2
  have b1_3 : w3.cell? ⟨w.heap.size + 1, 3, none⟩ = some (.string ⟨#[]⟩) := HB.out.cell 1 rfl 3
  have b1_4 : w3.cell? ⟨w.heap.size + 1, 4, none⟩ = some (.slice none 0 0) := HB.out.cell 1 rfl 4
  go_wp2_with (first | (refine store_bx HB.out 1 rfl 43 _ _ rfl rfl #[.int .i64 0, .int .i64 0, .string ⟨#[]⟩, .string ⟨#[]⟩, .slice none 0 0] rfl rfl (by kernel_rfl) rfl rfl (by decide) (by decide) ?_; intro w9 hS hK9 hbS hsS; have HBS := Lib.hid hS; have HK9 := Lib.hid hK9; clear hS hK9 hbS hsS) | fail)
  refine bodyPost_ret_by (results_nd rfl _ _ (w.heap.size + 1) _ _ _ _ _ rfl (HBS.out.obj 1 rfl)) rfl ?_
  exact node11_none HR.out HBS.out.below
 | some x =>
  rw [hn] at hg
  have hx := h.ok.node hn
  have hts := txt_size hx.1
  have HG := Lib.hid (fun W (hb : Below w.heap.size w W) => mget_there (h.rp.below hb) (Fs.key k) (Fs.txt x) hg)
  have HPa := Lib.hid (show ∀ W, Calls Tryz.prog 107 #[.string (Fs.txt x)] W (Noded (x, 0) W) from fun W => parse_txt hx.1 ▸ parse_any (Fs.txt x) W (by omega))
  have HR := Lib.hid hn
  clear hn hg h HZ hx hts
  generalize Fs.txt x = tx at *
  obtain ⟨q, mo, d, u, es⟩ := x
  go_enter Tryz.func78, Tryz.ntmps78
  go_wp2_with fail
  generalize (w.alloc (.cells #[pv m, .int .i64 nx] 88)).alloc (.cells #[.int .i64 0, .int .i64 0, .string ⟨#[]⟩, .string ⟨#[]⟩, .slice none 0 0] 43) = W0 at HB ⊢
  have HSx := Lib.hid (show ∀ W, Below W0.heap.size W0 W → W.cell? ⟨w.heap.size, 0, none⟩ = some (pv m) ∧ Below W0.heap.size W0 W from fun W hb => ⟨(HB.out.kept hb).cell 0 rfl 0, hb⟩)
  have HWt := Lib.hid (show ∀ W, Below W0.heap.size W0 W → Below w.heap.size w W from fun W hb => HB.out.below.trans (hb.mono HB.out.below.size))
  have hBd := (Below.refl W0.heap.size W0).drew
  have b0_0 : W0.cell? ⟨w.heap.size, 0, none⟩ = some (pv m) := HB.out.cell 0 rfl 0
  go_wp2_with fail
  go_region_held3 (fun W => W.cell? ⟨w.heap.size, 0, none⟩ = some (pv m) ∧ Below W0.heap.size W0 W)
   (first | exact HSx.out _ (by assumption))
   (first
   | (go_at_call 80; (with_reducible refine (HK.out _).mono ?_); rintro e w2 ⟨rfl, hw2⟩; have hb2 := T8.btrans hw2 (by assumption))
   | (go_at_call 106; (with_reducible refine (HG.out _ (HWt.out _ (by assumption))).mono ?_); rintro e w3 ⟨rfl, hw3⟩; have hb3 := T8.btrans hw3 (by assumption)))
  have HB := Lib.hid (HB.out.kept hb3)
  clear b0_0 hb3 hb2 hw2 hw3 hBd
  have b0_0 : w3.cell? ⟨w.heap.size, 0, none⟩ = some (pv m) := HB.out.cell 0 rfl 0
  have b0_1 : w3.cell? ⟨w.heap.size, 1, none⟩ = some (.int .i64 nx) := HB.out.cell 0 rfl 1
  have b1_0 : w3.cell? ⟨w.heap.size + 1, 0, none⟩ = some (.int .i64 0) := HB.out.cell 1 rfl 0
  have b1_1 : w3.cell? ⟨w.heap.size + 1, 1, none⟩ = some (.int .i64 0) := HB.out.cell 1 rfl 1
  have b1_2 : w3.cell? ⟨w.heap.size + 1, 2, none⟩ = some (.string ⟨#[]⟩) := HB.out.cell 1 rfl 2
  have b1_3 : w3.cell? ⟨w.heap.size + 1, 3, none⟩ = some (.string ⟨#[]⟩) := HB.out.cell 1 rfl 3
  have b1_4 : w3.cell? ⟨w.heap.size + 1, 4, none⟩ = some (.slice none 0 0) := HB.out.cell 1 rfl 4
  go_wp2_with fail
  refine (HPa.out _).mono ?_
  rintro e w4 ⟨a, c, rfl, hE, hb⟩
  have HB := Lib.hid (show Bxs w _ (w4.alloc (.cells #[.int .i64 q, .int .i64 mo, .string d, .string u, .slice a es.length c] 43)) from (HB.out.kept hb).more _ _ rfl)
  have HE := Lib.hid (hE.below (below_one w4 (.cells #[.int .i64 q, .int .i64 mo, .string d, .string u, .slice a es.length c] 43)))
  clear hE hb b0_0 b0_1 b1_0 b1_1 b1_2 b1_3 b1_4
  have b0_0 : (w4.alloc (.cells #[.int .i64 q, .int .i64 mo, .string d, .string u, .slice a es.length c] 43)).cell? ⟨w.heap.size, 0, none⟩ = some (pv m) := HB.out.cell 0 rfl 0
  have b0_1 : (w4.alloc (.cells #[.int .i64 q, .int .i64 mo, .string d, .string u, .slice a es.length c] 43)).cell? ⟨w.heap.size, 1, none⟩ = some (.int .i64 nx) := HB.out.cell 0 rfl 1
  have b1_0 : (w4.alloc (.cells #[.int .i64 q, .int .i64 mo, .string d, .string u, .slice a es.length c] 43)).cell? ⟨w.heap.size + 1, 0, none⟩ = some (.int .i64 0) := HB.out.cell 1 rfl 0
  have b1_1 : (w4.alloc (.cells #[.int .i64 q, .int .i64 mo, .string d, .string u, .slice a es.length c] 43)).cell? ⟨w.heap.size + 1, 1, none⟩ = some (.int .i64 0) := HB.out.cell 1 rfl 1
  have b1_2 : (w4.alloc (.cells #[.int .i64 q, .int .i64 mo, .string d, .string u, .slice a es.length c] 43)).cell? ⟨w.heap.size + 1, 2, none⟩ = some (.string ⟨#[]⟩) := HB.out.cell 1 rfl 2
  have b1_3 : (w4.alloc (.cells #[.int .i64 q, .int .i64 mo, .string d, .string u, .slice a es.length c] 43)).cell? ⟨w.heap.size + 1, 3, none⟩ = some (.string ⟨#[]⟩) := HB.out.cell 1 rfl 3
  have b1_4 : (w4.alloc (.cells #[.int .i64 q, .int .i64 mo, .string d, .string u, .slice a es.length c] 43)).cell? ⟨w.heap.size + 1, 4, none⟩ = some (.slice none 0 0) := HB.out.cell 1 rfl 4
  dsimp only
  go_wp2_with (first | (refine store_bx HB.out 1 rfl 43 _ _ rfl rfl #[.int .i64 q, .int .i64 mo, .string d, .string u, .slice a es.length c] rfl rfl (by kernel_rfl) rfl rfl (by decide) (by decide) ?_; intro w9 hS hK9 hbS hsS; have HBS := Lib.hid hS; have HK9 := Lib.hid hK9; clear hS hK9 hbS hsS) | fail)
  have HEn := Lib.hid (HK9.out.ents (HB.out.obj 1 rfl) (noEnt43 _ _ _ _ _ _ _) HE.out)
  refine bodyPost_ret_by (results_nd rfl _ _ (w.heap.size + 1) _ _ _ _ _ rfl (HBS.out.obj 1 rfl)) rfl ?_
  exact node11_some HR.out HBS.out.below HEn.out
end Go.Proofs.YthehblmjloohiaaGreatDoor
