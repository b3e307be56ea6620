/- A part of the proofs. -/
import Derived.Test.YthbajmlmjjfgpaaGreatDoorC12
set_option maxRecDepth 1000000
set_option maxHeartbeats 16000000
open Go.Lib (hid)
open Go.Proofs.Tryz
namespace Go.Proofs.YthbajmlmjjfgpaaGreatDoor
open Go.RowKit Go.Less
open T8 (pv Dg)
abbrev Bo := Nat × Array Value × TypeId
structure Bxs (w : World) (L : List Bo) (W : World) : Prop where
 at_ : ∀ (i : Nat) (b : Bo), L[i]? = some b -> W.heap[b.1]? = some (.cells b.2.1 b.2.2 (0, 0))
 lo : ∀ (i : Nat) (b : Bo), L[i]? = some b -> w.heap.size <= b.1
 apart : ∀ (i j : Nat) (b c : Bo), L[i]? = some b -> L[j]? = some c -> i ≠ j -> b.1 ≠ c.1
 below : Below w.heap.size w W
theorem Bxs.nil (w : World) : Bxs w [] w := ⟨λi b h => by simp at h, λi b h => by simp at h, λi j b c h => by simp at h, Below.refl _ _⟩
theorem Bxs.kept {w : World} {L : List Bo} {W W' : World} (h : Bxs w L W) (hb : Below W.heap.size W W') : Bxs w L W' :=
 ⟨λi b hi => (hb.block _ (lt_of_obj (h.at_ i b hi))).trans (h.at_ i b hi), h.lo, h.apart, h.below.trans (hb.mono h.below.size)⟩
theorem snoc_get {L : List Bo} {x b : Bo} {i : Nat} (h : (L ++ [x])[i]? = some b) : (i < L.length /\ L[i]? = some b) \/ (i = L.length /\ b = x) := by
 by_cases hi : i < L.length
 ·rw [List.getElem?_append_left hi] at h; exact .inl ⟨hi, h⟩
 ·rw [List.getElem?_append_right (by omega)] at h
  cases hk : i - L.length with
  | zero => rw [hk] at h; injection h with h; exact .inr ⟨by omega, h.symm⟩
  | succ k => rw [hk] at h; simp at h
theorem Bxs.more {w : World} {L : List Bo} {W : World} (h : Bxs w L W) (cs : Array Value) (t : TypeId) {p : Nat} (hp : W.heap.size = p) : Bxs w (L ++ [(p, cs, t)]) (W.alloc (.cells cs t)) := by
 subst hp
 have hk := h.kept (below_one W (.cells cs t))
 refine ⟨λi b hi => ?_, λi b hi => ?_, λi j b c hi hj hne => ?_, hk.below⟩
 ·rcases snoc_get hi with ⟨_, hi⟩ | ⟨_, rfl⟩
  ·exact hk.at_ i b hi
  ·exact heap_alloc_new W _
 ·rcases snoc_get hi with ⟨_, hi⟩ | ⟨_, rfl⟩
  ·exact h.lo i b hi
  ·exact h.below.size
 ·rcases snoc_get hi with ⟨_, hi⟩ | ⟨rfl, rfl⟩ <;> rcases snoc_get hj with ⟨_, hj⟩ | ⟨e, rfl⟩
  ·exact h.apart i j b c hi hj hne
  ·exact Nat.ne_of_lt (lt_of_obj (h.at_ i b hi))
  ·exact Nat.ne_of_gt (lt_of_obj (h.at_ j c hj))
  ·exact absurd e.symm hne
theorem Bxs.one (w : World) (cs : Array Value) (t : TypeId) : Bxs w [(w.heap.size, cs, t)] (w.alloc (.cells cs t)) := (Bxs.nil w).more cs t rfl
theorem Bxs.two (w : World) (cs : Array Value) (t : TypeId) (ds : Array Value) (u : TypeId) : Bxs w [(w.heap.size, cs, t), (w.heap.size + 1, ds, u)] ((w.alloc (.cells cs t)).alloc (.cells ds u)) := (Bxs.one w cs t).more ds u (size1 _ _)
theorem Bxs.three (w : World) (cs : Array Value) (t : TypeId) (ds : Array Value) (u : TypeId) (es : Array Value) (v : TypeId) : Bxs w [(w.heap.size, cs, t), (w.heap.size + 1, ds, u), (w.heap.size + 1 + 1, es, v)] (((w.alloc (.cells cs t)).alloc (.cells ds u)).alloc (.cells es v)) := (Bxs.two w cs t ds u).more es v (by rw [size1, size1])
theorem Bxs.cell {w : World} {L : List Bo} {W : World} (h : Bxs w L W) (i : Nat) {p : Nat} {cs : Array Value} {t : TypeId} (hi : L[i]? = some (p, cs, t)) (k : Nat) : W.cell? ⟨p, k, none⟩ = cs[k]? := cell_obj (h.at_ i _ hi) k
theorem Bxs.free {w : World} {L : List Bo} {W : World} (h : Bxs w L W) (i : Nat) {p : Nat} {cs : Array Value} {t : TypeId} (hi : L[i]? = some (p, cs, t)) (k : Nat) : W.frozen? ⟨p, k, none⟩ = false := free_obj (h.at_ i _ hi) k
theorem Bxs.obj {w : World} {L : List Bo} {W : World} (h : Bxs w L W) (i : Nat) {p : Nat} {cs : Array Value} {t : TypeId} (hi : L[i]? = some (p, cs, t)) : W.heap[p]? = some (.cells cs t (0, 0)) := h.at_ i _ hi
theorem Bxs.put {w : World} {L : List Bo} {W : World} (h : Bxs w L W) (i : Nat) {p : Nat} {cs : Array Value} {t : TypeId} (hi : L[i]? = some (p, cs, t)) (k : Nat) (v : Value) : Bxs w (L.set i (p, cs.setIfInBounds k v, t)) (W.setCell ⟨p, k, none⟩ v) := by
 have hl : i < L.length := (List.getElem?_eq_some_iff.1 hi).1
 have old : ∀ (j : Nat) (b : Bo), (L.set i (p, cs.setIfInBounds k v, t))[j]? = some b -> (j = i /\ b = (p, cs.setIfInBounds k v, t)) \/ (j ≠ i /\ L[j]? = some b) := λj b hj => by
  rw [List.getElem?_set] at hj
  split at hj
  ·rename_i e
   subst e
   try rw [if_pos hl] at hj
   injection hj with hj
   exact .inl ⟨rfl, hj.symm⟩
  ·rename_i e; exact .inr ⟨λx => e x.symm, hj⟩
 refine ⟨λj b hj => ?_, λj b hj => ?_, λj m b c hj hm hne => ?_, h.below.setCell (h.lo i _ hi) v⟩
 ·rcases old j b hj with ⟨rfl, rfl⟩ | ⟨hne, hj⟩
  ·exact heap_setCell_same W p k cs t v (h.at_ _ _ hi)
  ·rw [heap_setCell_other W ⟨p, k, none⟩ b.1 v (h.apart j i b _ hj hi hne)]
   exact h.at_ j b hj
 ·rcases old j b hj with ⟨rfl, rfl⟩ | ⟨_, hj'⟩
  ·exact h.lo j (p, cs, t) hi
  ·exact h.lo j b hj'
 ·rcases old j b hj with ⟨e1, rfl⟩ | ⟨h1, hj'⟩ <;> rcases old m c hm with ⟨e2, rfl⟩ | ⟨h2, hm'⟩
  ·exact absurd (e1.trans e2.symm) hne
  ·exact h.apart i m (p, cs, t) c hi hm' (λx => h2 x.symm)
  ·exact h.apart j i b (p, cs, t) hj' hi h1
  ·exact h.apart j m b c hj' hm' hne
theorem Bxs.put5 {w : World} {L : List Bo} {W : World} (h : Bxs w L W) (i : Nat) {p : Nat} {x0 x1 x2 x3 x4 : Value} {t : TypeId} (hi : L[i]? = some (p, #[x0, x1, x2, x3, x4], t)) (v0 v1 v2 v3 v4 : Value) :
  Bxs w (L.set i (p, #[v0, v1, v2, v3, v4], t)) (((((W.setCell ⟨p, 0, none⟩ v0).setCell ⟨p, 1, none⟩ v1).setCell ⟨p, 2, none⟩ v2).setCell ⟨p, 3, none⟩ v3).setCell ⟨p, 4, none⟩ v4) := by
 have hl : i < L.length := (List.getElem?_eq_some_iff.1 hi).1
 have h1 := h.put i hi 0 v0
 have h2 := h1.put i (p := p) (cs := #[v0, x1, x2, x3, x4]) (t := t) (by rw [List.getElem?_set_self hl]; rfl) 1 v1
 rw [List.set_set] at h2
 have h3 := h2.put i (p := p) (cs := #[v0, v1, x2, x3, x4]) (t := t) (by rw [List.getElem?_set_self hl]; rfl) 2 v2
 rw [List.set_set] at h3
 have h4 := h3.put i (p := p) (cs := #[v0, v1, v2, x3, x4]) (t := t) (by rw [List.getElem?_set_self hl]; rfl) 3 v3
 rw [List.set_set] at h4
 have h5 := h4.put i (p := p) (cs := #[v0, v1, v2, v3, x4]) (t := t) (by rw [List.getElem?_set_self hl]; rfl) 4 v4
 rw [List.set_set] at h5
 exact h5
structure Kept (p : Nat) (T : TypeId) (W W' : World) : Prop where
 obj : ∃ cs fr, W.heap[p]? = some (.cells cs T fr)
 tree : T ≠ 156
 map : T ≠ 168
 all : ∀ k, k ≠ p -> W'.heap[k]? = W.heap[k]?
theorem Kept.block {p : Nat} {T : TypeId} {W W' : World} (h : Kept p T W W') {b : Nat} {cs : Array Value} {t : TypeId} {fr : Nat × Nat} (hb : W.heap[b]? = some (.cells cs t fr)) (ht : T ≠ t) : W'.heap[b]? = some (.cells cs t fr) := by
 by_cases e : b = p
 ·subst e
  obtain ⟨cs', fr', ho⟩ := h.obj
  rw [ho] at hb
  injection hb with hb
  injection hb with _ e _
  exact absurd e ht
 ·exact (h.all b e).trans hb
theorem Kept.trees {p : Nat} {T : TypeId} {W W' : World} (h : Kept p T W W') : ∀ {t : T8.Tt} {q : Option Nat}, T8.Tree W q t -> T8.Tree W' q t
 | .leaf, _, hq => hq
 | .node _ _ _ _, _, ⟨b, pl, pr, e, hc, hk, hv, hl, hr⟩ => ⟨b, pl, pr, e, h.block hc h.tree, hk, hv, h.trees hl, h.trees hr⟩
theorem Kept.maps {p : Nat} {T : TypeId} {W W' : World} (h : Kept p T W W') {m : Option Nat} {t : T8.Tt} (hm : T8.IsMap W m t) : T8.IsMap W' m t := by
 cases m with
 | none => exact hm
 | some b => obtain ⟨q, h1, h2⟩ := hm; exact ⟨q, h.block h1 h.map, h.trees h2⟩
theorem Sv.kept {p : Nat} {T : TypeId} {W W' : World} {m : Option Nat} {l : List Fs.Item} (h : Sv W m l) (hk : Kept p T W W') (hD : Dg W') : Sv W' m l := ⟨⟨h.rp.sorted, hk.maps h.rp.map⟩, h.ok, hD⟩
theorem Kept.cell {p : Nat} {T : TypeId} {W : World} {cs : Array Value} {fr : Nat × Nat} (h : W.heap[p]? = some (.cells cs T fr)) (t1 : T ≠ 156) (t2 : T ≠ 168) (k : Nat) (v : Value) : Kept p T W (W.setCell ⟨p, k, none⟩ v) :=
 ⟨⟨_, _, h⟩, t1, t2, λj hj => heap_setCell_other W ⟨p, k, none⟩ j v hj⟩
theorem store_bx {ops : Array Oper} {rest : List Oper} {o : Oper} {a : Act} {w0 w : World} {L : List Bo} {Q : Exit -> Act -> World -> Prop} (H : Bxs w0 L w) (i : Nat) (hgd : o.guard = none) (ty : TypeId) (x y : Operand) (ho : o.op = .store ty x y)
  {p : Nat} {old : Array Value} (hi : L[i]? = some (p, old, ty)) (cells : Array Value) (hx : a.eval x = .pointer (some ⟨p, 0, none⟩)) (hy : a.eval y = .agg cells)
  (hz : (prog.info? ty).map (·.size) = some cells.size) (hold : old.size = cells.size) (h1 : cells.toList.all (·.oneCell') = true) (t1 : ty ≠ 156) (t2 : ty ≠ 168)
  (h : ∀ w', Bxs w0 (L.set i (p, cells, ty)) w' -> Kept p ty w w' -> Below w0.heap.size w0 w' -> w'.heap.size = w.heap.size -> wpList prog ops Q rest (a.put o.dst undef) w') : wpList prog ops Q (o :: rest) a w := by
 have hg := H.at_ i _ hi
 have hl : i < L.length := (List.getElem?_eq_some_iff.1 hi).1
 have hlo := H.lo i _ hi
 have hb : Below w0.heap.size w0 (w.setRow p cells) := ⟨H.below.os, H.below.tape, H.below.output, by rw [setRow_size]; exact H.below.size, λk hk => (setRow_other _ _ _ _ (by simp only at hlo; omega)).trans (H.below.block k hk)⟩
 refine wpList_store_row hgd ty x y ho p cells hx hy ty old hg hz hold (by rw [<- Array.all_toList]; exact h1) (h _ ⟨λj b hj => ?_, λj b hj => ?_, λj m b c hj hm hne => ?_, hb⟩ ⟨⟨_, _, hg⟩, t1, t2, λk hk => setRow_other _ _ _ _ hk⟩ hb (setRow_size _ _ _))
 ·rw [List.getElem?_set] at hj
  split at hj
  ·try rw [if_pos hl] at hj
   injection hj with hj
   subst hj
   exact setRow_heap _ _ _ _ _ _ hg
  ·rename_i e
   rw [setRow_other _ _ _ _ (H.apart j i b _ hj hi (λx => e x.symm))]
   exact H.at_ j b hj
 ·rw [List.getElem?_set] at hj
  split at hj
  ·try rw [if_pos hl] at hj
   injection hj with hj
   subst hj
   exact hlo
  ·exact H.lo j b hj
 ·rw [List.getElem?_set] at hj hm
  split at hj <;> split at hm
  ·rename_i e1 e2; exact absurd (e1.symm.trans e2) hne
  ·rename_i e1 e2
   try rw [if_pos hl] at hj
   injection hj with hj
   subst hj
   exact H.apart i m (p, old, ty) c hi hm e2
  ·rename_i e1 e2
   try rw [if_pos hl] at hm
   injection hm with hm
   subst hm
   exact H.apart j i b (p, old, ty) hj hi (λx => e1 x.symm)
  ·exact H.apart j m b c hj hm hne
def NoEnt (cs : Array Value) : Prop := ∀ j s i, cs[j]? = some (.string s) -> cs[j + 1]? = some (.int .i64 i) -> False
theorem noEnt43 (k m : Int) (d t : ByteArray) (a : Option Addr) (n c : Nat) : NoEnt #[.int .i64 k, .int .i64 m, .string d, .string t, .slice a n c] := λj s i h0 h1 => by
 match j with
 | 0 => cases h0
 | 1 => cases h0
 | 2 => cases h1
 | 3 => cases h1
 | 4 => cases h0
 | j + 5 => simp at h0
theorem noEnt88 (m : Option Nat) (nx : Int) : NoEnt #[pv m, .int .i64 nx] := λj s i h0 h1 => by
 match j with
 | 0 => cases h0
 | 1 => cases h0
 | j + 2 => simp at h0
theorem noEnt178 (q k m : Int) (d t : ByteArray) (a : Option Addr) (n c : Nat) (x : ByteArray) : NoEnt #[.int .i64 q, .int .i64 k, .int .i64 m, .string d, .string t, .slice a n c, .string x] := λj s i h0 h1 => by
 match j with
 | 0 => cases h0
 | 1 => cases h0
 | 2 => cases h0
 | 3 => cases h1
 | 4 => cases h1
 | 5 => cases h0
 | 6 => simp at h1
 | j + 7 => simp at h0
theorem Kept.ents {p : Nat} {T : TypeId} {W W' : World} (hk : Kept p T W W') {cs : Array Value} {t : TypeId} (hp : W.heap[p]? = some (.cells cs t (0, 0))) (hn : NoEnt cs) {a : Option Addr} {n : Nat} {l : List En} (h : Ents a n l W) : Ents a n l W' := by
 refine ⟨h.count, λi hi => ?_⟩
 obtain ⟨b, off, rfl, h0, h1⟩ := h.cell i hi
 by_cases hb : b = p
 ·subst hb
  rw [cell_obj hp] at h0 h1
  exact (hn _ _ _ h0 h1).elim
 ·refine ⟨b, off, rfl, ?_, ?_⟩
  ·rw [<- h0]; simp only [World.cell?, hk.all b hb]
  ·rw [<- h1]; simp only [World.cell?, hk.all b hb]
theorem below_kept {w w1 W W' : World} {p : Nat} {T : TypeId} (h1 : Below w1.heap.size w1 W) (hk : Kept p T W W') (hp : w1.heap.size <= p) (hs : W'.heap.size = W.heap.size) (hb : Below w.heap.size w W) (hb' : Below w.heap.size w W') : Below w1.heap.size w1 W' :=
 ⟨hb'.os.trans (hb.os.symm.trans h1.os), hb'.tape.trans (hb.tape.symm.trans h1.tape), hb'.output.trans (hb.output.symm.trans h1.output), by rw [hs]; exact h1.size, λk hkl => (hk.all k (by omega)).trans (h1.block k hkl)⟩
theorem Bxs.dg {w : World} {L : List Bo} {W : World} (h : Bxs w L W) (hD : Dg w) : Dg W := hD.below h.below
theorem size88 : (prog.info? 108).map (·.size) = some 2 := by kernel_rfl
theorem size178 : (prog.info? 216).map (·.size) = some 7 := by kernel_rfl
theorem results_st {fn : Func} {p u : Tmp} (h : fn.results = #[.cell p 108, .tmp u]) (tmps : Array Value) (w : World) (g : Nat) (k m : Value)
  (hp : tmps.getD p undef = .pointer (some ⟨g, 0, none⟩)) (hg : w.heap[g]? = some (.cells #[k, m] 108 (0, 0))) :
  (results fn tmps).run prog w = .ok (.tuple #[.agg #[k, m], tmps.getD u undef]) w := by
 rw [results_cell_tmp h, hp]
 simp [asAddr, Result.andThen, run_loadVar_row (P := prog) w g 108 108 #[k, m] (0, 0) _ hg underlying108 rfl size88]
theorem results_st1 {fn : Func} {p : Tmp} (h : fn.results = #[.cell p 108]) (tmps : Array Value) (w : World) (g : Nat) (k m : Value)
  (hp : tmps.getD p undef = .pointer (some ⟨g, 0, none⟩)) (hg : w.heap[g]? = some (.cells #[k, m] 108 (0, 0))) :
  (results fn tmps).run prog w = .ok (.agg #[k, m]) w :=
 results_cell_row (P := prog) h _ _ g 108 #[k, m] (0, 0) _ hp hg underlying108 rfl size88
theorem results_pl {fn : Func} {p u : Tmp} (h : fn.results = #[.cell p 216, .tmp u]) (tmps : Array Value) (w : World) (g : Nat) (a b c d e f k : Value)
  (hp : tmps.getD p undef = .pointer (some ⟨g, 0, none⟩)) (hg : w.heap[g]? = some (.cells #[a, b, c, d, e, f, k] 216 (0, 0))) :
  (results fn tmps).run prog w = .ok (.tuple #[.agg #[a, b, c, d, e, f, k], tmps.getD u undef]) w := by
 rw [results_cell_tmp h, hp]
 simp [asAddr, Result.andThen, run_loadVar_row (P := prog) w g 216 216 #[a, b, c, d, e, f, k] (0, 0) _ hg underlying216 rfl size178]
def Stated (r : Except Int Fs.FS) (w : World) (e : Ending) (w' : World) : Prop := Below w.heap.size w w' /\ match r with
 | .error c => c ≠ 0 /\ e = .returned (.tuple #[.agg #[.pointer none, .int .i64 0], .int .i64 c])
 | .ok f => ∃ m, e = .returned (.tuple #[stv m f.next, .int .i64 0]) /\ Sv w' m f.l
section
variable {w : World} {L : List Bo} {W : World}
theorem Bxs.c1 (h : Bxs w L W) (i : Nat) {p : Nat} {x : Value} {t : TypeId} (hi : L[i]? = some (p, #[x], t)) : W.cell? ⟨p, 0, none⟩ = some x := h.cell i hi 0
theorem Bxs.c2 (h : Bxs w L W) (i : Nat) {p : Nat} {x y : Value} {t : TypeId} (hi : L[i]? = some (p, #[x, y], t)) : W.cell? ⟨p, 0, none⟩ = some x /\ W.cell? ⟨p, 1, none⟩ = some y := ⟨h.cell i hi 0, h.cell i hi 1⟩
theorem Bxs.c5 (h : Bxs w L W) (i : Nat) {p : Nat} {a b c d e : Value} {t : TypeId} (hi : L[i]? = some (p, #[a, b, c, d, e], t)) : W.cell? ⟨p, 0, none⟩ = some a /\ W.cell? ⟨p, 1, none⟩ = some b /\ W.cell? ⟨p, 2, none⟩ = some c /\ W.cell? ⟨p, 3, none⟩ = some d /\ W.cell? ⟨p, 4, none⟩ = some e :=
 ⟨h.cell i hi 0, h.cell i hi 1, h.cell i hi 2, h.cell i hi 3, h.cell i hi 4⟩
theorem Bxs.c7 (h : Bxs w L W) (i : Nat) {p : Nat} {a b c d e f g : Value} {t : TypeId} (hi : L[i]? = some (p, #[a, b, c, d, e, f, g], t)) : W.cell? ⟨p, 0, none⟩ = some a /\ W.cell? ⟨p, 1, none⟩ = some b /\ W.cell? ⟨p, 2, none⟩ = some c /\ W.cell? ⟨p, 3, none⟩ = some d /\ W.cell? ⟨p, 4, none⟩ = some e /\ W.cell? ⟨p, 5, none⟩ = some f /\ W.cell? ⟨p, 6, none⟩ = some g :=
 ⟨h.cell i hi 0, h.cell i hi 1, h.cell i hi 2, h.cell i hi 3, h.cell i hi 4, h.cell i hi 5, h.cell i hi 6⟩
end
end Go.Proofs.YthbajmlmjjfgpaaGreatDoor
namespace Go.Proofs.YthbajmlmjjfgpaaGreatDoor
open Go.RowKit Go.Less
open T8 (pv Rp Dg Mapped mput_any mdel_any mlen_any mname_any mget_there treeOf_any cn_find cn ap_none)
theorem run_bytes5 (w : World) (a b c d : UInt8) : (convert 91 9 (.slice (some ⟨w.heap.size, 0, none⟩) 4 4)).run prog (w.alloc (.cells #[.int .u8 (a.toNat : Int), .int .u8 (b.toNat : Int), .int .u8 (c.toNat : Int), .int .u8 (d.toNat : Int)] 5)) = .ok (.string ⟨#[a, b, c, d]⟩) (w.alloc (.cells #[.int .u8 (a.toNat : Int), .int .u8 (b.toNat : Int), .int .u8 (c.toNat : Int), .int .u8 (d.toNat : Int)] 5)) := by
 rw [run_convert_bytes_arg (P := prog) (w.alloc (.cells #[.int .u8 (a.toNat : Int), .int .u8 (b.toNat : Int), .int .u8 (c.toNat : Int), .int .u8 (d.toNat : Int)] 5)) 91 5 underlying91 underlying5 w.heap.size 0 4 4 [(a.toNat : Int), (b.toNat : Int), (c.toNat : Int), (d.toNat : Int)] rfl ?_ 9 underlying9]
 ·simp [strOfNums]
 ·intro i hi
  rw [Nat.zero_add, World.cell?_alloc_new]
  match i, hi with
  | 0, _ => rfl
  | 1, _ => rfl
  | 2, _ => rfl
  | 3, _ => rfl
attribute [local go_sem 9000] run_bytes5
theorem keyOf_nat (n : Nat) (w : World) (_h1 : n <= 4294967295) :
  Calls prog 130 #[.int .i64 (n : Int)] w (λe w' => e = .returned (.string (Fs.key (n : Int))) /\ Below w.heap.size w w') := by
 have HK := hid (show Fs.key (n : Int) = ⟨#[byteOf (n / 16777216), byteOf (n / 65536), byteOf (n / 256), byteOf n]⟩ by unfold Fs.key Nd.mk Nd.n4; simp [byteOf])
 have e0 : (n : Int) / 16777216 % 256 = ((byteOf (n / 16777216)).toNat : Int) := by rw [<- byteOf_eq]; omega
 have e1 : (n : Int) / 65536 % 256 = ((byteOf (n / 65536)).toNat : Int) := by rw [<- byteOf_eq]; omega
 have e2 : (n : Int) / 256 % 256 = ((byteOf (n / 256)).toNat : Int) := by rw [<- byteOf_eq]; omega
 have e3 : (n : Int) % 256 = ((byteOf n).toNat : Int) := by rw [<- byteOf_eq]
 generalize hA : byteOf (n / 16777216) = A at e0 HK
 generalize hB : byteOf (n / 65536) = B at e1 HK
 generalize hC : byteOf (n / 256) = C at e2 HK
 generalize hD : byteOf n = D at e3 HK
 clear hA hB hC hD _h1
 generalize (n : Int) = k at *
 go_enter func130, ntmps130
 go_wp2_with fail
 go_ret
 exact ⟨by rw [HK.out]; rfl, (Below.refl w.heap.size w).alloc (Nat.le_refl _) _⟩
theorem keyOf_any (i : Int) (w : World) (h0 : 0 <= i) (h1 : i < 4294967296) :
  Calls prog 130 #[.int .i64 i] w (λe w' => e = .returned (.string (Fs.key i)) /\ Below w.heap.size w w') := by
 obtain ⟨n, rfl⟩ : ∃ n : Nat, i = n := ⟨i.toNat, by omega⟩
 exact keyOf_nat n w (by omega)
theorem mget_no {w : World} {m : Option Nat} {l : List T8.Pr} (h : Rp w m l) (x : ByteArray) (hx : Tr.get l x = none) : Calls prog 32 #[pv m, .string x] w λe w' => e = .returned (.tuple #[.string ⟨#[]⟩, .bool false]) /\ Below w.heap.size w w' := by
 have HT := hid (treeOf_any h.map)
 have hf := cn_find h.sorted x
 rw [hx] at hf
 have HF := hid hf
 clear h hf
 go_enter func32, ntmps32
 go_wp2_with fail
 refine HT.out.mono ?_
 rintro e w' ⟨p, rfl, hp, rfl⟩
 dsimp only
 go_wp2_with fail
 refine (T8.find_any hp x).mono ?_
 rintro e w' ⟨q, rfl, hq, rfl⟩
 have hfo := HF.out
 generalize Tr.T.find less (cn l) x = u at hq hfo
 cases u with
 | node l' k' v' r' => cases hfo
 | leaf =>
  have hq0 : q = none := hq
  subst hq0
  clear hq
  clear hfo HF hp HT
  simp only [pv, ap_none]
  go_wp2_with fail
  go_ret2
  exact ⟨rfl, Below.refl _ _⟩
end Go.Proofs.YthbajmlmjjfgpaaGreatDoor
namespace Go.Proofs.YthbajmlmjjfgpaaGreatDoor
open Go.RowKit Go.Less
open T8 (pv Rp Dg Mapped mput_any mdel_any mlen_any mname_any mget_there cn ap_none)
theorem Okl.out {l : List Fs.Item} (h : Okl l) {k : Int} (hk : k < 1 \/ 2147483647 < k) : Fs.node l k = none := Fs.node_none.2 λy hy e => by have := h.pos y hy; omega
theorem node11_none {l : List Fs.Item} {k : Int} {w W : World} (h : Fs.node l k = none) (hb : Below w.heap.size w W) : Node11 l k w (.returned (.tuple #[.agg #[.int .i64 0, .int .i64 0, .string ⟨#[]⟩, .string ⟨#[]⟩, .slice none 0 0], .bool false])) W := by
 unfold Node11
 rw [show Fs.nodeD l k = Nd.none0 from by unfold Fs.nodeD; rw [h]; rfl, h]
 exact ⟨none, 0, rfl, ents_nil _, hb⟩
theorem node11_some {l : List Fs.Item} {k : Int} {x : Nd.Node} {w W : World} (h : Fs.node l k = some x) (hb : Below w.heap.size w W) {a : Option Addr} {c : Nat} (hE : Ents a x.ents.length x.ents W) : Node11 l k w (.returned (.tuple #[nv x.kind x.mode x.data x.target a x.ents.length c, .bool true])) W := by
 unfold Node11
 rw [show Fs.nodeD l k = x from Fs.nodeD_of h, h]
 exact ⟨a, c, rfl, hE, hb⟩
theorem res_two (w : World) (a b c d e f g : Value) : ((w.alloc (.cells #[a, b] 108)).alloc (.cells #[c, d, e, f, g] 67)).heap[w.heap.size + 1]? = some (.cells #[c, d, e, f, g] 67 (0, 0)) := by
 have := heap_alloc_new (w.alloc (.cells #[a, b] 108)) (.cells #[c, d, e, f, g] 67)
 rw [size1] at this
 exact this
theorem pNode_any (m : Option Nat) (nx : Int) (l : List Fs.Item) (k : Int) (w : World) (h : Sv w m l) : Calls prog 86 #[stv m nx, .int .i64 k] w (Node11 l k w) := by
 have HB := hid (Bxs.two w #[pv m, .int .i64 nx] 108 #[.int .i64 0, .int .i64 0, .string ⟨#[]⟩, .string ⟨#[]⟩, .slice none 0 0] 67)
 have HZ := hid (res_two w (pv m) (.int .i64 nx) (.int .i64 0) (.int .i64 0) (.string ⟨#[]⟩) (.string ⟨#[]⟩) (.slice none 0 0))
 by_cases hk : k < 1
 ·have HR := hid (h.ok.out (.inl hk))
  clear h
  go_enter func86, ntmps86
  go_wp2_with fail
  refine bodyPost_ret_by (results_nd rfl _ _ (w.heap.size + 1) _ _ _ _ _ rfl HZ.out) rfl ?_
  exact node11_none HR.out HB.out.below
 by_cases hk2 : 2147483647 < k
 ·have HR := hid (h.ok.out (.inr hk2))
  clear h
  go_enter func86, ntmps86
  go_wp2_with fail
  refine bodyPost_ret_by (results_nd rfl _ _ (w.heap.size + 1) _ _ _ _ _ rfl HZ.out) rfl ?_
  exact node11_none HR.out HB.out.below
 have HK := hid (λW => keyOf_any k W (by omega) (by omega))
 have hg := get_node h (i := k) (by omega)
 cases hn : Fs.node l k with
 | none =>
  rw [hn] at hg
  have HG := hid (λW (hb : Below w.heap.size w W) => mget_no (h.rp.below hb) (Fs.key k) hg)
  have HR := hid hn
  clear hn hg h HZ
  go_enter func86, ntmps86
  go_wp2_with fail
  generalize (w.alloc (.cells #[pv m, .int .i64 nx] 108)).alloc (.cells #[.int .i64 0, .int .i64 0, .string ⟨#[]⟩, .string ⟨#[]⟩, .slice none 0 0] 67) = W0 at HB |-
  have HSx := hid (show ∀ W, Below W0.heap.size W0 W -> W.cell? ⟨w.heap.size, 0, none⟩ = some (pv m) /\ Below W0.heap.size W0 W from λW hb => ⟨(HB.out.kept hb).cell 0 rfl 0, hb⟩)
  have HWt := hid (show ∀ W, Below W0.heap.size W0 W -> Below w.heap.size w W from λW hb => HB.out.below.trans (hb.mono HB.out.below.size))
  have hBd := (Below.refl W0.heap.size W0).drew
  go_wp2_with fail
  go_region_held3 (λW => W.cell? ⟨w.heap.size, 0, none⟩ = some (pv m) /\ Below W0.heap.size W0 W)
   (first | exact HSx.out _ (by assumption))
   (first
   | (go_at_call 130; (with_reducible refine (HK.out _).mono ?_); rintro e w2 ⟨rfl, hw2⟩; have hb2 := T8.btrans hw2 (by assumption))
   | (go_at_call 32; (with_reducible refine (HG.out _ (HWt.out _ (by assumption))).mono ?_); rintro e w3 ⟨rfl, hw3⟩; have hb3 := T8.btrans hw3 (by assumption)))
  have HB := hid (HB.out.kept hb3)
  clear hb3 hb2 hw2 hw3 hBd
  go_wp2_with (first | (refine store_bx HB.out 1 rfl 67 _ _ rfl rfl #[.int .i64 0, .int .i64 0, .string ⟨#[]⟩, .string ⟨#[]⟩, .slice none 0 0] rfl rfl (by kernel_rfl) rfl rfl (by decide) (by decide) ?_; intro w9 hS hK9 hbS hsS; have HBS := hid hS; clear hS hK9 hbS hsS) | fail)
  refine bodyPost_ret_by (results_nd rfl _ _ (w.heap.size + 1) _ _ _ _ _ rfl (HBS.out.obj 1 rfl)) rfl ?_
  exact node11_none HR.out HBS.out.below
 | some x =>
  rw [hn] at hg
  have hx := h.ok.node hn
  have hts := txt_size hx.1
  have HG := hid (λW (hb : Below w.heap.size w W) => mget_there (h.rp.below hb) (Fs.key k) (Fs.txt x) hg)
  have HPa := hid (show ∀ W, Calls prog 131 #[.string (Fs.txt x)] W (Noded (x, 0) W) from λW => parse_txt hx.1 ▸ parse_any (Fs.txt x) W (by omega))
  have HR := hid hn
  clear hn hg h HZ hx hts
  generalize Fs.txt x = tx at *
  obtain ⟨q, mo, d, u, es⟩ := x
  go_enter func86, ntmps86
  go_wp2_with fail
  generalize (w.alloc (.cells #[pv m, .int .i64 nx] 108)).alloc (.cells #[.int .i64 0, .int .i64 0, .string ⟨#[]⟩, .string ⟨#[]⟩, .slice none 0 0] 67) = W0 at HB |-
  have HSx := hid (show ∀ W, Below W0.heap.size W0 W -> W.cell? ⟨w.heap.size, 0, none⟩ = some (pv m) /\ Below W0.heap.size W0 W from λW hb => ⟨(HB.out.kept hb).cell 0 rfl 0, hb⟩)
  have HWt := hid (show ∀ W, Below W0.heap.size W0 W -> Below w.heap.size w W from λW hb => HB.out.below.trans (hb.mono HB.out.below.size))
  have hBd := (Below.refl W0.heap.size W0).drew
  go_wp2_with fail
  go_region_held3 (λW => W.cell? ⟨w.heap.size, 0, none⟩ = some (pv m) /\ Below W0.heap.size W0 W)
   (first | exact HSx.out _ (by assumption))
   (first
   | (go_at_call 130; (with_reducible refine (HK.out _).mono ?_); rintro e w2 ⟨rfl, hw2⟩; have hb2 := T8.btrans hw2 (by assumption))
   | (go_at_call 32; (with_reducible refine (HG.out _ (HWt.out _ (by assumption))).mono ?_); rintro e w3 ⟨rfl, hw3⟩; have hb3 := T8.btrans hw3 (by assumption)))
  have HB := hid (HB.out.kept hb3)
  clear hb3 hb2 hw2 hw3 hBd
  go_wp2_with fail
  refine (HPa.out _).mono ?_
  rintro e w4 ⟨a, c, rfl, hE, hb⟩
  have HB := hid (show Bxs w _ (w4.alloc (.cells #[.int .i64 q, .int .i64 mo, .string d, .string u, .slice a es.length c] 67)) from (HB.out.kept hb).more _ _ rfl)
  have HE := hid (hE.below (below_one w4 (.cells #[.int .i64 q, .int .i64 mo, .string d, .string u, .slice a es.length c] 67)))
  clear hE hb
  dsimp only
  go_wp2_with (first | (refine store_bx HB.out 1 rfl 67 _ _ rfl rfl #[.int .i64 q, .int .i64 mo, .string d, .string u, .slice a es.length c] rfl rfl (by kernel_rfl) rfl rfl (by decide) (by decide) ?_; intro w9 hS hK9 hbS hsS; have HBS := hid hS; have HK9 := hid hK9; clear hS hK9 hbS hsS) | fail)
  have HEn := hid (HK9.out.ents (HB.out.obj 1 rfl) (noEnt43 _ _ _ _ _ _ _) HE.out)
  refine bodyPost_ret_by (results_nd rfl _ _ (w.heap.size + 1) _ _ _ _ _ rfl (HBS.out.obj 1 rfl)) rfl ?_
  exact node11_some HR.out HBS.out.below HEn.out
end Go.Proofs.YthbajmlmjjfgpaaGreatDoor
namespace Go.Proofs.YthbajmlmjjfgpaaGreatDoor
open Go.RowKit
theorem stringslite_Clone (s : ByteArray) (w : World) (hlim : s.size <= 281474976710656) : Calls prog 95 #[.string s] w λe w' => e = .returned (.string s) /\ Below w.heap.size w w' := Any.stringslite_Clone laysM316 s w hlim
theorem set_obj {w : World} {b : Nat} {x y : Value} {t : TypeId} (h : w.heap[b]? = some (.cells #[x] t (0, 0))) : (w.setCell ⟨b, 0, none⟩ y).heap[b]? = some (.cells #[y] t (0, 0)) := by
 have := heap_setCell_same w b 0 #[x] t y h
 simpa using this
structure Box (w : World) (g : Nat) (l : List (List UInt8)) (W : World) : Prop where
 row : ∃ ao cap, W.heap[g]? = some (.cells #[.slice ao l.length cap] 57 (0, 0)) /\ Trow (g + 1) (.slice ao l.length cap) l W
 lo : w.heap.size <= g
 below : Below w.heap.size w W
theorem Box.kept {w W W' : World} {g : Nat} {l : List (List UInt8)} (h : Box w g l W) (hb : Below W.heap.size W W') : Box w g l W' := by
 obtain ⟨ao, cap, h1, h2⟩ := h.row
 exact ⟨⟨ao, cap, (hb.block _ (lt_of_obj h1)).trans h1, trow_below h2 hb⟩, h.lo, h.below.trans (hb.mono h.below.size)⟩
theorem box_more {w W w1 w4 : World} {g : Nat} {l : List (List UInt8)} {k : List UInt8} {ao ao4 : Option Addr} {cap cap4 : Nat} (h : Box w g l W) (hw : Below W.heap.size W w1)
  (hO : Trow (g + 1) (.slice ao l.length cap) l (w1.alloc (.cells #[.string (lstr k)] 9)))
  (hO4 : Trow (g + 1) (.slice ao4 (l.length + 1) cap4) (l ++ [k]) w4)
  (hg : (w1.alloc (.cells #[.string (lstr k)] 9)).grownBy w4 (Value.slice ao l.length cap).ownBlock) :
  Box w g (l ++ [k]) (w4.setCell ⟨g, 0, none⟩ (.slice ao4 (l.length + 1) cap4)) := by
 have h3 := (h.kept hw).kept (below_one w1 (.cells #[.string (lstr k)] 9))
 have hne : ∀ x, x <= g -> some x ≠ (Value.slice ao l.length cap).ownBlock := λx hx e => by have := trow_lt hO x e.symm; omega
 have hlt4 : ∀ j, (Value.slice ao4 (l.length + 1) cap4).ownBlock = some j -> j ≠ g := λj hj e => by have := trow_lt hO4 j hj; omega
 obtain ⟨a0, c0, hk, _⟩ := h3.row
 have hk4 := grown_obj hg hk (hne g (Nat.le_refl _))
 have lo := h.lo
 have hl : (l ++ [k]).length = l.length + 1 := by simp
 refine ⟨⟨ao4, cap4, ?_, ?_⟩, lo, ?_⟩
 ·rw [hl]; exact set_obj hk4
 ·rw [hl]
  refine World.ownsRow.kept hO4 (?_ : w4.grownBy _ (some g)) (.inr λe => ?_)
  ·exact ⟨rfl, rfl, rfl, by simp [World.setCell], λj hj hne => heap_setCell_other w4 ⟨g, 0, none⟩ j _ (λe => hne (by rw [e]))⟩
  ·exact hlt4 g e rfl
 ·refine Below.setCell ?_ lo _
  exact h3.below.grown hg h3.below.size (λj hj => by have := trow_lt hO j hj; omega)
theorem box_mid {w W w1 w4 : World} {g : Nat} {l : List (List UInt8)} {k : List UInt8} {ao : Option Addr} {cap : Nat} (h : Box w g l W) (hw : Below W.heap.size W w1)
  (hO : Trow (g + 1) (.slice ao l.length cap) l (w1.alloc (.cells #[.string (lstr k)] 9))) (hg : (w1.alloc (.cells #[.string (lstr k)] 9)).grownBy w4 (Value.slice ao l.length cap).ownBlock) :
  (∃ v, w4.heap[g]? = some (.cells #[v] 57 (0, 0))) /\ Below w.heap.size w w4 := by
 have h3 := (h.kept hw).kept (below_one w1 (.cells #[.string (lstr k)] 9))
 obtain ⟨a0, c0, hk, _⟩ := h3.row
 have lo := h.lo
 exact ⟨⟨_, grown_obj hg hk λe => by have := trow_lt hO g e.symm; omega⟩, h3.below.grown hg h3.below.size (λj hj => by have := trow_lt hO j hj; omega)⟩
theorem step_appt {ops : Array Oper} {o : Oper} {a : Act} {w : World} {K : Act -> World -> Prop} {E : Prop} {Q : Exit -> Act -> World -> Prop} (hgd : o.guard = none) (s x : Operand)
  (ho : o.op = .call { callee := .builtin .append, args := #[s, x], argTypes := #[57, 57] })
  (base : Nat) (v : Value) (ls : List (List UInt8)) (hs : a.eval s = v) (hown : Trow base v ls w)
  (b : Nat) (c : List UInt8) (hx : a.eval x = .slice (some ⟨b, 0, none⟩) 1 1) (hc : w.cell? ⟨b, 0, none⟩ = some (.string (lstr c))) (hn : ls.length <= 1000000) (hbase : base <= w.heap.size)
  (h : ∀ ao' cap' w', Trow base (.slice ao' (ls.length + 1) cap') (ls ++ [c]) w' -> w.grownBy w' v.ownBlock -> K (a.put o.dst (.slice ao' (ls.length + 1) cap')) w') :
  if Region.wanted o (yielded ops a.tmps) = true then Oper.wp prog o a w K Q else E := by
 have hw : Region.wanted o (yielded ops a.tmps) = true := by simp [Region.wanted, hgd]
 rw [if_pos hw]
 obtain ⟨i0, hi, hz0, hz1, hz2⟩ := info_parts info9c
 refine wp_append_own w s x 57 ho base 9 i0 (.string ⟨#[]⟩) 1 16 underlying57 hi hz0 hz1 hz2 rfl (by decide) v ls.length (ls.map λl => .string (lstr l)) hs hown ⟨b, 0, none⟩ 1 1 [.string (lstr c)] hx rfl ?_ ?_ (by unfold maxLen; omega) (by omega) hbase ?_
 ·intro j y hj
  match j with
  | 0 => simp at hj; subst hj; simpa [Addr.add] using hc
  | j + 1 => simp at hj
 ·intro y hy; simp at hy; subst hy; rfl
 ·intro v' w' hown' hg _
  have hB' : Trow base v' (ls ++ [c]) w' := by
   unfold Trow
   rw [List.length_append, List.map_append]
   exact hown'
  obtain ⟨ao', cap', rfl⟩ := trow_form hB'
  rw [List.length_append] at hB' |-
  exact h ao' cap' w' hB' hg
def Tells (w : World) (g : Nat) (l : List (List UInt8)) (e : Ending) (W : World) : Prop := e = .returned (.tuple #[]) /\ Box w g l W
theorem tell_any (w W : World) (g : Nat) (XL : List (List UInt8)) (k : List UInt8) (hk : k.length <= 140737488355328) (hX : XL.length <= 100) (HB : Box w g XL W) :
  Calls prog 167 #[.string (lstr k), .pointer (some ⟨g, 0, none⟩)] W (Tells w g (XL ++ [k])) := by
 have HC := hid (λW1 => clone_any (lstr k) W1 (by rw [lstr_size]; omega))
 have HLen := hid hX
 have HK5 := hid HB
 obtain ⟨ao, cap, hk1, hk2⟩ := HB.row
 have ck5 : W.cell? ⟨g, 0, none⟩ = some (.slice ao XL.length cap) := cell_obj hk1 0
 have hgk := lt_of_obj hk1
 have HO5 := hid hk2
 clear hk1 hk2 HB hk hX
 go_enter func167, ntmps167
 go_wp2_with fail
 go_region_law (first
   | (refine step_appt rfl _ _ rfl (g + 1) _ XL (by rfl) HO3.out w1.heap.size k (by rfl) (by simp) (Nat.le_trans HLen.out (by decide)) HZ.out ?_; intro ao4 cap4 w4 hown4 hgrow4; have HK4 := hid (box_more HK5.out hw1 HO3.out hown4 hgrow4); have hmid := box_mid HK5.out hw1 HO3.out hgrow4; obtain ⟨v4, hk4⟩ := hmid.1; have ck4 := cell_obj hk4 0; have fk4 := free_obj hk4 0; clear hown4 hgrow4 hk4 hmid)
   | (go_simp; (with_reducible refine (HC.out _).mono ?_); rintro e w1 ⟨rfl, hw1d⟩; have hw1 := below_drew hw1d; have ck1 := (hw1.cell (p := ⟨g, 0, none⟩) hgk).trans ck5; have hgk1 := Nat.lt_of_lt_of_le hgk hw1.size; have HB3 := hid (hw1.trans ((below_one w1 (.cells #[.string (lstr k)] 9)).mono hw1.size)); have HO3 := hid (trow_below (trow_below HO5.out hw1) (below_one w1 (.cells #[.string (lstr k)] 9))); have HZ := hid (Nat.le_trans (Nat.succ_le_of_lt hgk) HB3.out.size)))
 all_goals
  go_wp2_with fail
  go_end0
  exact ⟨rfl, HK4.out⟩
end Go.Proofs.YthbajmlmjjfgpaaGreatDoor
namespace Nm
theorem split_path {p : List UInt8} {ns : List (List UInt8)} (h : split p = some ns) : p = pathOf ns /\ ns.length <= 8 /\ ns.all right = true := by
 have h1 := join_split h
 unfold join at h1
 split at h1
 ·rename_i hx
  cases h1; exact ⟨rfl, hx⟩
 ·cases h1
theorem path_split {ns : List (List UInt8)} (h8 : ns.length <= 8) (hr : ns.all right = true) : split (pathOf ns) = some ns := split_join (by unfold join; rw [if_pos ⟨h8, hr⟩])
theorem isPrefixOf_iff (x y : List (List UInt8)) : x.isPrefixOf y = true ↔ ∃ z, y = x ++ z := by
 induction x generalizing y with
 | nil => exact ⟨λ_ => ⟨y, rfl⟩, λ_ => rfl⟩
 | cons a x ih =>
  cases y with
  | nil => exact ⟨(λh => by cases h), (λ⟨z, h⟩ => by cases h)⟩
  | cons b y =>
   show (a == b && x.isPrefixOf y) = true ↔ _
   rw [Bool.and_eq_true, ih, beq_iff_eq]
   constructor
   ·rintro ⟨rfl, z, rfl⟩; exact ⟨z, rfl⟩
   ·rintro ⟨z, h⟩; cases h; exact ⟨rfl, z, rfl⟩
structure Parted (a p n : List UInt8) : Prop where
 inside : within p a = true
 not : within a p = false
 right : right n = true
 deep : p ≠ [47] -> a = p ++ [47] ++ n
 flat : p = [47] -> a = 47 :: n
end Nm
namespace Go.Proofs.YthbajmlmjjfgpaaGreatDoor
open Go.RowKit
attribute [local go_sem 9000] sem_stralike sem_strnot
theorem ix_no : ∀ l : List UInt8, Lib.indexByte l 47 < 0 -> Nm.pieces l = [l]
 | [], _ => rfl
 | x :: l, h => by
  unfold Lib.indexByte at h
  unfold Nm.pieces
  by_cases hx : x = 47
  ·subst hx; simp at h
  ·have hb : (x == 47) = false := beq_eq_false_iff_ne.2 hx
   rw [hb] at h
   simp only [Bool.false_eq_true, if_false] at h
   have hl : Lib.indexByte l 47 < 0 := by
    have hge := Lib.indexByte_ge l 47
    split at h
    ·rename_i h2; rw [beq_iff_eq] at h2; omega
    ·omega
   rw [if_neg hx, ix_no l hl]
theorem ix_yes : ∀ l : List UInt8, 0 <= Lib.indexByte l 47 -> ∃ i : Nat, Lib.indexByte l 47 = i /\ i < l.length /\ Nm.pieces l = l.take i :: Nm.pieces (l.drop (i + 1))
 | [], h => by simp [Lib.indexByte] at h
 | x :: l, h => by
  unfold Lib.indexByte at h |-
  by_cases hx : x = 47
  ·subst hx
   exact ⟨0, by simp, by simp, by simp [Nm.pieces]⟩
  ·have hb : (x == 47) = false := beq_eq_false_iff_ne.2 hx
   rw [hb] at h |-
   simp only [Bool.false_eq_true, if_false] at h |-
   by_cases h2 : (Lib.indexByte l 47 == -1) = true
   ·rw [if_pos h2] at h; omega
   ·rw [if_neg h2] at h |-
    rw [beq_iff_eq] at h2
    obtain ⟨i, hi, hlt, hp⟩ := ix_yes l (by omega)
    refine ⟨i + 1, by omega, by simp; omega, ?_⟩
    rw [show Nm.pieces (x :: l) = (if x = 47 then [] :: Nm.pieces l else match Nm.pieces l with | [] => [[x]] | c :: cs => (x :: c) :: cs) from rfl, if_neg hx, hp]
    rfl
theorem index_any (s : ByteArray) (w : World) : Calls prog 206 #[.string s, .string ⟨#[47]⟩] w λe w' => e = .returned (.int .i64 (Lib.indexByte s.data.toList 47)) /\ w' = w := by
 cases ha : talike ⟨#[47]⟩ s with
 | true =>
  have hz : Lib.indexByte s.data.toList 47 = 0 := by
   have e : s = ⟨#[47]⟩ := (of_decide_eq_true ha).symm
   rw [e]; decide
  rw [hz]
  clear hz
  go_enter func206, ntmps206
  go_wp2_with fail
  go_ret
  exact ⟨rfl, rfl⟩
 | false =>
  have HI := hid (λw => ib50 s 47 w)
  go_enter func206, ntmps206
  go_wp2_with fail
  refine (HI.out _).mono ?_
  rintro e w1 ⟨rfl, rfl⟩
  dsimp only
  go_wp2_with fail
  go_ret
  exact ⟨rfl, rfl⟩
structure CutIs (s a b : ByteArray) (f : Bool) : Prop where
 sep : f = true -> Nm.pieces s.data.toList = a.data.toList :: Nm.pieces b.data.toList
 not : f = false -> Nm.pieces s.data.toList = [a.data.toList]
 la : a.size <= s.size
 lb : b.size <= s.size
theorem cut_no {s : ByteArray} (h : Lib.indexByte s.data.toList 47 < 0) : CutIs s s ⟨#[]⟩ false :=
 ⟨(λh => by cases h), (λ_ => ix_no _ h), Nat.le_refl _, Nat.zero_le _⟩
theorem cut_yes {s : ByteArray} {i : Nat} (hi : i < s.data.toList.length) (hp : Nm.pieces s.data.toList = s.data.toList.take i :: Nm.pieces (s.data.toList.drop (i + 1))) : CutIs s (s.extract 0 i) (s.extract (i + 1) s.size) true := by
 have hl : s.data.toList.length = s.size := Array.length_toList
 refine ⟨λ_ => ?_, (λh => by cases h), ?_, ?_⟩
 ·rw [hp, ByteArray.data_extract, ByteArray.data_extract, Array.toList_extract, Array.toList_extract, List.extract_eq_take_drop, List.extract_eq_take_drop]
  rw [List.drop_zero, Nat.sub_zero, List.take_of_length_le (i := s.size - (i + 1)) (by rw [List.length_drop]; omega)]
 ·rw [ByteArray.size_extract]; omega
 ·rw [ByteArray.size_extract]; omega
theorem cut35_any (s : ByteArray) (w : World) (hs : s.size <= 140737488355328) : Calls prog 208 #[.string s, .string ⟨#[47]⟩] w λe w' => (∃ a b f, e = .returned (.tuple #[.string a, .string b, .bool f]) /\ CutIs s a b f) /\ ∃ n, w' = w.drewN n := by
 have HI := hid (λw => index_any s w)
 have HN := hid (λh => cut_no (s := s) h)
 have HY := hid (ix_yes s.data.toList)
 have HC := hid (λi => cut_yes (s := s) (i := i))
 have hl : s.data.toList.length = s.size := Array.length_toList
 generalize Lib.indexByte s.data.toList 47 = z at *
 by_cases hz : z < 0
 ·go_enter func208, ntmps208
  go_wp2_with fail
  refine (HI.out _).mono ?_
  rintro e w1 ⟨rfl, rfl⟩
  dsimp only
  go_wp2_with fail
  go_ret3
  exact ⟨⟨_, _, _, rfl, HN.out hz⟩, 0, rfl⟩
 ·obtain ⟨i, rfl, hi, hp⟩ := HY.out (by omega)
  have HF := hid (HC.out i hi hp)
  rw [hl] at hi
  have c1 : (0 : Int) <= (i : Int) := by omega
  have c2 : (i : Int) <= (s.size : Int) := by omega
  have c3 : (0 : Int) <= (i : Int) + 1 := by omega
  have c4 : (i : Int) + 1 <= (s.size : Int) := by omega
  clear HN HY HC hp hl hz
  go_enter func208, ntmps208
  go_wp2_with fail
  refine (HI.out _).mono ?_
  rintro e w1 ⟨rfl, rfl⟩
  dsimp only
  go_wp2_with fail
  go_quiet (fail)
  go_wp2_with fail
  go_ret3
  exact ⟨⟨_, _, _, rfl, HF.out⟩, _, rfl⟩
theorem cut_any (s : ByteArray) (w : World) (hs : s.size <= 140737488355328) : Calls prog 193 #[.string s, .string ⟨#[47]⟩] w λe w' => (∃ a b f, e = .returned (.tuple #[.string a, .string b, .bool f]) /\ CutIs s a b f) /\ ∃ n, w' = w.drewN n := by
 go_enter func193, ntmps193
 go_wp2_with fail
 refine (cut35_any s _ hs).mono ?_
 rintro e w1 ⟨⟨a, b, f, rfl, hc⟩, n, rfl⟩
 dsimp only
 go_wp2_with fail
 go_ret3
 exact ⟨⟨_, _, _, rfl, hc⟩, _, rfl⟩
def slashed (s : ByteArray) : Bool := s.data.toList.head? == some 47
theorem slashed_is {s : ByteArray} : slashed s = (decide (1 <= s.size) && talike (s.extract 0 1) ⟨#[47]⟩) := by
 unfold slashed
 have hl : s.data.toList.length = s.size := Array.length_toList
 have he : (s.extract 0 1).data.toList = s.data.toList.take 1 := by
  rw [ByteArray.data_extract, Array.toList_extract, List.extract_eq_take_drop, List.drop_zero]
 have ha : talike (s.extract 0 1) ⟨#[47]⟩ = decide (s.data.toList.take 1 = [47]) := by
  unfold talike
  rw [<- he]
  apply decide_eq_decide.2
  exact ⟨λh => by rw [h], λh => Go.WideShapes.bytes_inj h⟩
 rw [ha, <- hl]
 cases s.data.toList with
 | nil => rfl
 | cons x l =>
  show (some x == some (47 : UInt8)) = _
  by_cases hx : x = 47
  ·subst hx; simp
  ·simp [hx]
theorem has_any (s : ByteArray) (w : World) (hs : s.size <= 140737488355328) : Calls prog 223 #[.string s, .string ⟨#[47]⟩] w λe w' => e = .returned (.bool (slashed s)) /\ w' = w := by
 rw [slashed_is]
 by_cases h1 : 1 <= s.size
 ·have h1i : (1 : Int) <= (s.size : Int) := by omega
  go_enter func223, ntmps223
  go_wp2_with fail
  go_ret
  refine ⟨?_, rfl⟩
  simp [h1]
 ·have h1i : ¬ (1 : Int) <= (s.size : Int) := by omega
  go_enter func223, ntmps223
  go_wp2_with fail
  go_ret
  refine ⟨?_, rfl⟩
  simp
theorem slashed_yes {s : ByteArray} (h : slashed s = true) : 1 <= s.size /\ s.data.toList = 47 :: (s.extract 1 s.size).data.toList := by
 unfold slashed at h
 have hl : s.data.toList.length = s.size := Array.length_toList
 have he : (s.extract 1 s.size).data.toList = s.data.toList.drop 1 := by
  rw [ByteArray.data_extract, Array.toList_extract, List.extract_eq_take_drop, List.take_of_length_le (by rw [List.length_drop]; omega)]
 rw [he, <- hl]
 cases hd : s.data.toList with
 | nil => rw [hd] at h; simp at h
 | cons x l =>
  rw [hd] at h
  simp at h
  subst h
  simp
theorem slashed_no {s : ByteArray} (h : slashed s = false) : Nm.split s.data.toList = none := by
 unfold slashed at h
 have hne := beq_eq_false_iff_ne.1 h
 refine Nm.split_no (λe => hne (by rw [e]; rfl)) ?_
 cases hd : s.data.toList with
 | nil => left; rfl
 | cons x l => right; rw [hd] at hne; simpa using hne
theorem cutp34_any (s : ByteArray) (w : World) (hs : s.size <= 140737488355328) : Calls prog 207 #[.string s, .string ⟨#[47]⟩] w λe w' => e = .returned (.tuple #[.string (if slashed s then s.extract 1 s.size else s), .bool (slashed s)]) /\ w' = w := by
 have HI := hid (λw => has_any s w hs)
 have HY := hid (λh => (slashed_yes (s := s) h).1)
 generalize slashed s = f at *
 cases f with
 | true =>
  have c1 : (1 : Int) <= (s.size : Int) := by have := HY.out rfl; omega
  go_enter func207, ntmps207
  go_wp2_with fail
  refine (HI.out _).mono ?_
  rintro e w1 ⟨rfl, rfl⟩
  dsimp only
  go_wp2_with fail
  go_ret2
  exact ⟨rfl, rfl⟩
 | false =>
  go_enter func207, ntmps207
  go_wp2_with fail
  refine (HI.out _).mono ?_
  rintro e w1 ⟨rfl, rfl⟩
  dsimp only
  go_wp2_with fail
  go_ret2
  exact ⟨rfl, rfl⟩
theorem cutp_any (s : ByteArray) (w : World) (hs : s.size <= 140737488355328) : Calls prog 192 #[.string s, .string ⟨#[47]⟩] w λe w' => e = .returned (.tuple #[.string (if slashed s then s.extract 1 s.size else s), .bool (slashed s)]) /\ w' = w := by
 have HI := hid (λw => cutp34_any s w hs)
 generalize slashed s = f at *
 generalize (if f = true then s.extract 1 s.size else s) = r at *
 go_enter func192, ntmps192
 go_wp2_with fail
 refine (HI.out _).mono ?_
 rintro e w1 ⟨rfl, rfl⟩
 dsimp only
 go_wp2_with fail
 go_ret2
 exact ⟨rfl, rfl⟩
end Go.Proofs.YthbajmlmjjfgpaaGreatDoor
