/- Layer 11, a part of the proofs: no statement of its own. -/
import Derived.Deep.RegionLaw
import Derived.Test.YthehblmjloohiaaGreatDoorM06
import Derived.Test.YthehblmjloohiaaGreatDoorM16
namespace Go.Proofs.YthehblmjloohiaaGreatDoor
set_option maxRecDepth 100000
open Go.RowKit Go.Less
attribute [local go_sem 9000] sem_eql sem_neq sem_lss sem_leq sem_gtr sem_geq
theorem pp_two (w w1 : World) (cs : Array Value) (o : Obj) (ho : o = .cells cs 43 (0, 0)) (h : w1.heap[w.heap.size]? = some (.cells zc 43 (0, 0))) : (w1.alloc o).heap[w1.heap.size]? = some (.cells cs 43 (0, 0)) ∧ (w1.alloc o).heap[w.heap.size]? = some (.cells zc 43 (0, 0)) := by
 subst ho
 exact ⟨heap_alloc_new w1 _, ((below_one w1 _).block _ (lt_of_obj h)).trans h⟩
theorem pp_back {p : Nat} {w1 : World} {x0 x1 x2 x3 x4 : Value} (h : w1.heap[p]? = some (.cells #[x0, x1, x2, x3, x4] 43 (0, 0))) (v0 v1 v2 v3 v4 : Value) (o : Obj) :
  ((((((w1.setCell ⟨p, 0, none⟩ v0).setCell ⟨p, 1, none⟩ v1).setCell ⟨p, 2, none⟩ v2).setCell ⟨p, 3, none⟩ v3).setCell ⟨p, 4, none⟩ v4).alloc o).heap[p]? = some (.cells #[v0, v1, v2, v3, v4] 43 (0, 0)) :=
 ((below_one _ o).block _ (lt_of_obj (set5 v0 v1 v2 v3 v4 h))).trans (set5 v0 v1 v2 v3 v4 h)
theorem pp_below {w w1 : World} (h : Below w.heap.size w w1) (v0 v1 v2 v3 v4 : Value) (o : Obj) :
  Below w.heap.size w ((((((w1.setCell ⟨w.heap.size, 0, none⟩ v0).setCell ⟨w.heap.size, 1, none⟩ v1).setCell ⟨w.heap.size, 2, none⟩ v2).setCell ⟨w.heap.size, 3, none⟩ v3).setCell ⟨w.heap.size, 4, none⟩ v4).alloc o) :=
 (below5 h (Nat.le_refl _) v0 v1 v2 v3 v4).alloc (below5 h (Nat.le_refl _) v0 v1 v2 v3 v4).size _
set_option maxHeartbeats 4000000 in
theorem parse_any (s : ByteArray) (w : World) (hs : s.size ≤ 100000) : Calls Tryz.prog 107 #[.string s] w (Noded (parseR s.data.toList) w) := by
 have HRd := Lib.hid (fun W => read_any s W hs)
 have HB0 := Lib.hid (show ∀ x : Obj, Below w.heap.size w (w.alloc x) from fun x => (Below.refl _ w).alloc (Nat.le_refl _) _)
 go_enter Tryz.func107, Tryz.ntmps107
 go_wp2_with fail
 refine (HRd.out _).mono ?_
 rintro e w1 ⟨k, m, d, t, a, n, cp, l, ok, rfl, hb1, hE, hn, hd, ht, hls, hyes, hno⟩
 have HZ1 := Lib.hid ((hb1.block w.heap.size (by simp)).trans (heap_alloc_new w _))
 have HB1 := Lib.hid ((HB0.out _).trans (hb1.mono (HB0.out _).size))
 clear hb1 HRd
 have hr1 := HZ1.out
 have r0 : w1.cell? ⟨w.heap.size, 0, none⟩ = some (.int .i64 0) := cell_obj hr1 0
 have r1 : w1.cell? ⟨w.heap.size, 1, none⟩ = some (.int .i64 0) := cell_obj hr1 1
 have r2 : w1.cell? ⟨w.heap.size, 2, none⟩ = some (.string ⟨#[]⟩) := cell_obj hr1 2
 have r3 : w1.cell? ⟨w.heap.size, 3, none⟩ = some (.string ⟨#[]⟩) := cell_obj hr1 3
 have r4 : w1.cell? ⟨w.heap.size, 4, none⟩ = some (.slice none 0 0) := cell_obj hr1 4
 have q0 := free_obj hr1 0
 have q1 := free_obj hr1 1
 have q2 := free_obj hr1 2
 have q3 := free_obj hr1 3
 have q4 := free_obj hr1 4
 have hwl := lt_of_obj hr1
 have hne : w.heap.size ≠ w1.heap.size := by omega
 have hne2 : w1.heap.size ≠ w.heap.size := by omega
 clear hr1
 cases ok with
 | false =>
  have HR := Lib.hid (hno rfl)
  have HA := Lib.hid (pp_two w w1 #[.int .i64 k, .int .i64 m, .string d, .string t, .slice a n cp] _ rfl HZ1.out)
  clear hyes hno hE hls
  dsimp only
  go_wp2_with fail
  refine bodyPost_ret_by (results_nd rfl _ _ w.heap.size _ _ _ _ _ rfl (pp_back HZ1.out _ _ _ _ _ _)) rfl ⟨none, 0, by rw [HR.out]; rfl, by rw [HR.out]; exact ents_nil _, pp_below HB1.out _ _ _ _ _ _⟩
 | true =>
  have HR := Lib.hid (hyes rfl)
  have HA := Lib.hid (pp_two w w1 #[.int .i64 k, .int .i64 m, .string d, .string t, .slice a n cp] _ rfl HZ1.out)
  have HE2 := Lib.hid (show ∀ W, Below w1.heap.size w1 W → Ents a n l W from fun W hb => hE.below hb)
  have HN := Lib.hid (node_any k m d t a n cp l (w1.alloc (.cells #[.int .i64 k, .int .i64 m, .string d, .string t, .slice a n cp] 43)) (hE.below (below_one w1 _)) (by omega) hls)
  have HOw := Lib.hid (fun W (hb : Below w1.heap.size w1 W) => own_any k m d t a n cp l W (hE.below hb) hn hls hd ht)
  unfold Samed at HN
  have HBA := Lib.hid (show ∀ o : Obj, Below w.heap.size w (w1.alloc o) from fun o => HB1.out.alloc HB1.out.size _)
  clear hyes hno hE hls r0 r1 r2 r3 r4 q0 q1 q2 q3 q4
  cases hrt : ndr k m d t l
  ·rw [hrt] at HN
   have HR2 := Lib.hid (show parseR s.data.toList = (Nd.none0, 2) by rw [HR.out, if_neg]; intro h; unfold ndr at hrt; rw [hrt] at h; cases h)
   clear HR hrt
   dsimp only
   go_wp2_with fail
   refine HN.out.mono ?_
   rintro e w2 ⟨rfl, hw2⟩
   have HZ2 := Lib.hid ((hw2.block _ (lt_of_obj HA.out.2)).trans HA.out.2)
   have HB2 := Lib.hid ((HBA.out _).trans (hw2.mono (HBA.out _).size))
   have hr1 := HZ2.out
   have r0 : w2.cell? ⟨w.heap.size, 0, none⟩ = some (.int .i64 0) := cell_obj hr1 0
   have r1 : w2.cell? ⟨w.heap.size, 1, none⟩ = some (.int .i64 0) := cell_obj hr1 1
   have r2 : w2.cell? ⟨w.heap.size, 2, none⟩ = some (.string ⟨#[]⟩) := cell_obj hr1 2
   have r3 : w2.cell? ⟨w.heap.size, 3, none⟩ = some (.string ⟨#[]⟩) := cell_obj hr1 3
   have r4 : w2.cell? ⟨w.heap.size, 4, none⟩ = some (.slice none 0 0) := cell_obj hr1 4
   have q0 := free_obj hr1 0
   have q1 := free_obj hr1 1
   have q2 := free_obj hr1 2
   have q3 := free_obj hr1 3
   have q4 := free_obj hr1 4
   clear hr1 hw2
   dsimp only
   go_wp2_with fail
   refine bodyPost_ret_by (results_nd rfl _ _ w.heap.size _ _ _ _ _ rfl (set5 _ _ _ _ _ HZ2.out)) rfl ⟨none, 0, by rw [HR2.out]; rfl, by rw [HR2.out]; exact ents_nil _, below5 HB2.out (Nat.le_refl _) _ _ _ _ _⟩
  ·rw [hrt] at HN
   have HR2 := Lib.hid (show parseR s.data.toList = (⟨k, m, d, t, l⟩, 0) by rw [HR.out, if_pos (show Nd.right less Nm.right _ = true from hrt)])
   clear HR hrt
   dsimp only
   go_wp2_with fail
   refine HN.out.mono ?_
   rintro e w2 ⟨rfl, hw2⟩
   have HZ2 := Lib.hid ((hw2.block _ (lt_of_obj HA.out.2)).trans HA.out.2)
   have HX2 := Lib.hid ((hw2.block _ (lt_of_obj HA.out.1)).trans HA.out.1)
   have HB2 := Lib.hid ((HBA.out _).trans (hw2.mono (HBA.out _).size))
   have HW2 := Lib.hid ((below_one w1 _).trans (hw2.mono (below_one w1 _).size))
   have hx := HX2.out
   have x0 : w2.cell? ⟨w1.heap.size, 0, none⟩ = some (.int .i64 k) := cell_obj hx 0
   have x1 : w2.cell? ⟨w1.heap.size, 1, none⟩ = some (.int .i64 m) := cell_obj hx 1
   have x2 : w2.cell? ⟨w1.heap.size, 2, none⟩ = some (.string d) := cell_obj hx 2
   have x3 : w2.cell? ⟨w1.heap.size, 3, none⟩ = some (.string t) := cell_obj hx 3
   have x4 : w2.cell? ⟨w1.heap.size, 4, none⟩ = some (.slice a n cp) := cell_obj hx 4
   clear hx hw2
   dsimp only
   go_wp2_with fail
   refine (HOw.out _ HW2.out).mono ?_
   rintro e w3 ⟨ao, cp3, rfl, hown, hw3⟩
   have HZ3 := Lib.hid ((hw3.block _ (lt_of_obj HZ2.out)).trans HZ2.out)
   have HB3 := Lib.hid (HB2.out.trans (hw3.mono HB2.out.size))
   have HO3 := Lib.hid hown
   have hlt2 := lt_of_obj HZ2.out
   have hr1 := HZ3.out
   have r0 : w3.cell? ⟨w.heap.size, 0, none⟩ = some (.int .i64 0) := cell_obj hr1 0
   have r1 : w3.cell? ⟨w.heap.size, 1, none⟩ = some (.int .i64 0) := cell_obj hr1 1
   have r2 : w3.cell? ⟨w.heap.size, 2, none⟩ = some (.string ⟨#[]⟩) := cell_obj hr1 2
   have r3 : w3.cell? ⟨w.heap.size, 3, none⟩ = some (.string ⟨#[]⟩) := cell_obj hr1 3
   have r4 : w3.cell? ⟨w.heap.size, 4, none⟩ = some (.slice none 0 0) := cell_obj hr1 4
   have q0 := free_obj hr1 0
   have q1 := free_obj hr1 1
   have q2 := free_obj hr1 2
   have q3 := free_obj hr1 3
   have q4 := free_obj hr1 4
   clear hr1 hw3 hown x0 x1 x2 x3 x4
   dsimp only
   go_wp2_with fail
   refine bodyPost_ret_by (results_nd rfl _ _ w.heap.size _ _ _ _ _ rfl (set5 _ _ _ _ _ HZ3.out)) rfl ⟨ao, cp3, by rw [HR2.out]; rfl, by rw [HR2.out]; exact own_ents (own_set5 HO3.out hlt2 _ _ _ _ _), below5 HB3.out (Nat.le_refl _) _ _ _ _ _⟩
end Go.Proofs.YthehblmjloohiaaGreatDoor

namespace Go.Proofs.YthehblmjloohiaaGreatDoor
set_option maxRecDepth 100000
open Go.RowKit Go.Less
structure Nb (p : Nat) (k m : Int) (d t : ByteArray) (a : Option Addr) (n c : Nat) (l : List En) (W : World) : Prop where
 box : W.heap[p]? = some (.cells #[.int .i64 k, .int .i64 m, .string d, .string t, .slice a n c] 43 (0, 0))
 ents : Ents a n l W
theorem Nb.kept {p : Nat} {k m : Int} {d t : ByteArray} {a : Option Addr} {n c : Nat} {l : List En} {W W' : World} (h : Nb p k m d t a n c l W) (hb : Below W.heap.size W W') : Nb p k m d t a n c l W' :=
 ⟨(hb.block _ (lt_of_obj h.box)).trans h.box, h.ents.below hb⟩
structure Small (d t : ByteArray) (n : Nat) (l : List En) : Prop where
 n80 : n ≤ 80
 names : ∀ x ∈ l, x.1.size ≤ 100
 d5 : d.size ≤ 5000
 t5 : t.size ≤ 500
theorem Small.at {d t : ByteArray} {n : Nat} {l : List En} (h : Small d t n l) (hn : n = l.length) : ∀ j, j < n → (l.getD j z0).1.size ≤ 100000 := fun j hj => by
 rw [List.getD, List.getElem?_eq_getElem (by omega)]
 exact Nat.le_trans (h.names _ (List.getElem_mem (by omega))) (by decide)
end Go.Proofs.YthehblmjloohiaaGreatDoor

namespace Go.Proofs.YthehblmjloohiaaGreatDoor
set_option maxRecDepth 100000
open Go.RowKit Go.Less
open T8 (Rp Dg pv Mapped mput_any mdel_any mlen_any mname_any mget_there cn)
structure Okl (l : List Fs.Item) : Prop where
 inos : Fs.Rising l
 pos : ∀ y ∈ l, 1 ≤ y.1 ∧ y.1 ≤ 2147483647
 right : ∀ y ∈ l, Nd.Right less Nm.right y.2
 few : l.length ≤ 1000
theorem Okl.ub {l : List Fs.Item} (h : Okl l) : Fs.Ub l := fun y hy => by have := h.pos y hy; omega
theorem Okl.node {l : List Fs.Item} (h : Okl l) {i : Int} {x : Nd.Node} (hx : Fs.node l i = some x) : Nd.Right less Nm.right x ∧ 1 ≤ i ∧ i ≤ 2147483647 :=
 ⟨h.right _ (Fs.node_mem hx), h.pos _ (Fs.node_mem hx)⟩
structure Sv (w : World) (m : Option Nat) (l : List Fs.Item) : Prop where
 rp : Rp w m (Fs.kv l)
 ok : Okl l
 dg : Dg w
theorem Sv.below {w w' : World} {m : Option Nat} {l : List Fs.Item} (h : Sv w m l) (hb : Below w.heap.size w w') : Sv w' m l := ⟨h.rp.below hb, h.ok, h.dg.below hb⟩
abbrev stv (m : Option Nat) (nx : Int) : Value := .agg #[pv m, .int .i64 nx]
theorem ents_text_len (es : List En) (h : ∀ e ∈ es, Nm.right (Nd.bs e.1) = true) : ((es.map Nd.entText).flatten).length ≤ 21 * es.length := by
 induction es with
 | nil => simp
 | cons x es ih =>
  have h1 := nm_len (h x List.mem_cons_self)
  have h2 := ih fun e he => h e (List.mem_cons_of_mem _ he)
  simp only [List.map_cons, List.flatten_cons, List.length_append, List.length_cons, Nd.entText, Nd.n4, List.length_nil]
  omega
theorem txt_size {x : Nd.Node} (h : Nd.Right less Nm.right x) : (Fs.txt x).size ≤ 10000 := by
 unfold Fs.txt
 rw [Nd.size_mk]
 have h1 := ents_text_len x.ents fun e he => (h.ok e he).1
 have h2 := h.len
 have hd : (Nd.bs x.data).length ≤ 4096 := by
  rw [Nd.len_bs]
  rcases h.kinds with ⟨_, _, _, e⟩ | ⟨_, _, e⟩ | ⟨_, e, _⟩
  ·exact e
  ·rw [e]; decide
  ·rw [e]; decide
 have ht : (Nd.bs x.target).length ≤ 64 := by
  rw [Nd.len_bs]
  rcases h.kinds with ⟨_, e, _⟩ | ⟨_, e, _⟩ | ⟨_, _, _, _, e⟩
  ·rw [e]; decide
  ·rw [e]; decide
  ·exact e
 simp only [Nd.text, List.length_cons, List.length_append]
 omega
theorem nm256 : ∀ l, Nm.right l = true → l.length < 256 := fun l h => Nat.lt_of_le_of_lt (nm_len h) (by decide)
theorem parse_txt {x : Nd.Node} (h : Nd.Right less Nm.right x) : parseR (Fs.txt x).data.toList = (x, 0) := by
 show parseR (Nd.text x) = _
 unfold parseR
 rw [Nd.parse_text nm256 h]
theorem prt_txt {x : Nd.Node} (h : Nd.Right less Nm.right x) : prt x = (Fs.txt x, 0) := by
 unfold prt
 rw [if_pos ((Nd.right_iff x).2 h)]; rfl
theorem Right.small {x : Nd.Node} (h : Nd.Right less Nm.right x) : ∀ j, j < x.ents.length → (x.ents.getD j z0).1.size ≤ 100000 := fun j hj => by
 rw [List.getD, List.getElem?_eq_getElem hj]
 have := nm_len (h.ok _ (List.getElem_mem hj)).1
 rw [Nd.len_bs] at this
 exact Nat.le_trans this (by decide)
theorem get_node {w : World} {m : Option Nat} {l : List Fs.Item} (h : Sv w m l) {i : Int} (hi : 0 ≤ i ∧ i < 4294967296) : Tr.get (Fs.kv l) (Fs.key i) = (Fs.node l i).map Fs.txt := Fs.get_kv h.ok.ub hi
theorem Okl.set {l : List Fs.Item} (h : Okl l) {i : Int} {x : Nd.Node} (h1 : 1 ≤ i ∧ i ≤ 2147483647) (hR : Nd.Right less Nm.right x) (hi : (Fs.node l i).isSome = true ∨ ∀ y ∈ l, y.1 < i) (hf : l.length ≤ 999) : Okl (Fs.setL l i x) := by
 refine ⟨Fs.rising_set h.inos hi, fun y hy => ?_, fun y hy => ?_, ?_⟩
 ·rcases Fs.mem_set hy with rfl | ⟨hy, _⟩
  ·exact h1
  ·exact h.pos y hy
 ·rcases Fs.mem_set hy with rfl | ⟨hy, _⟩
  ·exact hR
  ·exact h.right y hy
 ·rw [Fs.len_set]; split <;> omega
theorem Okl.drop {l : List Fs.Item} (h : Okl l) (i : Int) : Okl (Fs.dropL l i) :=
 ⟨Fs.rising_drop h.inos i, fun y hy => h.pos y (List.mem_filter.1 hy).1, fun y hy => h.right y (List.mem_filter.1 hy).1, Nat.le_trans (Fs.len_drop l i) h.few⟩
end Go.Proofs.YthehblmjloohiaaGreatDoor

namespace Go.Proofs.YthehblmjloohiaaGreatDoor
set_option maxRecDepth 100000
open Go.RowKit Go.Less
attribute [local go_sem 9000] sem_eql sem_neq
structure Fb (w : World) (a : Option Addr) (n c : Nat) (nx : Int) (W : World) : Prop where
 box : W.heap[w.heap.size]? = some (.cells #[.slice a n c, .int .i64 nx] 29 (0, 0))
 res : W.heap[w.heap.size + 1]? = some (.cells zc 43 (0, 0))
 below : Below w.heap.size w W
end Go.Proofs.YthehblmjloohiaaGreatDoor

namespace Go.Proofs.YthehblmjloohiaaGreatDoor
set_option maxRecDepth 100000
open Go.RowKit Go.Less
abbrev Own6 (base : Nat) (v : Value) (L : List MI) (w : World) : Prop := w.ownsRow base 75 6 v L.length (irow L)
theorem own6_set {base : Nat} {v : Value} {L : List MI} {w : World} (h : Own6 base v L w) {g : Nat} (hg : g < base) (k : Nat) (y : Value) : Own6 base v L (w.setCell ⟨g, k, none⟩ y) := by
 refine World.ownsRow.kept h (?_ : w.grownBy _ (some g)) (.inr fun e => ?_)
 ·exact ⟨rfl, rfl, rfl, by simp [World.setCell], fun j hj hne => heap_setCell_other w ⟨g, k, none⟩ j _ (fun e => hne (by rw [e]))⟩
 ·have := owns_lt h g e; omega
def FsR (l : List Fs.Item) (nx : Int) (w : World) (e : Ending) (w' : World) : Prop :=
 ∃ a c L, its L = l ∧ e = .returned (fv a L.length c nx) ∧ Items a L.length L w' ∧ Below w.heap.size w w'
end Go.Proofs.YthehblmjloohiaaGreatDoor

namespace Go.Proofs.YthehblmjloohiaaGreatDoor
set_option maxRecDepth 100000
open Go.RowKit Go.Less
attribute [local go_sem 9000] sem_eql sem_neq
structure Sb (w : World) (a : Option Addr) (n c : Nat) (nx : Int) (cs : Array Value) (L : List MI) (u v : Value) (W : World) : Prop where
 box : W.heap[w.heap.size]? = some (.cells #[.slice a n c, .int .i64 nx] 29 (0, 0))
 node : W.heap[w.heap.size + 1]? = some (.cells cs 43 (0, 0))
 res : W.heap[w.heap.size + 1 + 1]? = some (.cells #[.slice none 0 0, .int .i64 0] 29 (0, 0))
 out : W.heap[w.heap.size + 1 + 1 + 1]? = some (.cells #[u, .int .i64 nx] 29 (0, 0))
 own : Own6 (w.heap.size + 4) v L W
 big : w.heap.size + 4 ≤ W.heap.size
 below : Below w.heap.size w W
section
variable {w : World} {a : Option Addr} {n c : Nat} {nx : Int} {cs : Array Value} {L : List MI} {u v : Value} {W : World}
theorem Sb.more (h : Sb w a n c nx cs L u v W) {W' W4 : World} {v4 : Value} {x : MI} (hA : Below W.heap.size W W') (hg : W'.grownBy W4 v.ownBlock) (hO : Own6 (w.heap.size + 4) v L W') (hown : Own6 (w.heap.size + 4) v4 (L ++ [x]) W4) : Sb w a n c nx cs (L ++ [x]) u v4 W4 := by
 have big := h.big
 have hne : ∀ y, y < w.heap.size + 4 → some y ≠ v.ownBlock := fun y hy e => by have := owns_lt hO y e.symm; omega
 have hbig : W.heap.size ≤ W'.heap.size := hA.size
 have hs : W'.heap.size ≤ W4.heap.size := hg.size
 have keep : ∀ {b : Nat} {q : Obj}, W.heap[b]? = some q → b < w.heap.size + 4 → W4.heap[b]? = some q := fun hb hl => grown_obj hg ((hA.block _ (lt_of_obj hb)).trans hb) (hne _ hl)
 exact ⟨keep h.box (by omega), keep h.node (by omega), keep h.res (by omega), keep h.out (by omega), hown, by omega, (h.below.trans (hA.mono h.below.size)).grown hg (Nat.le_trans h.below.size hbig) (fun j hj => by have := owns_lt hO j hj; omega)⟩
theorem Sb.store (h : Sb w a n c nx cs L u v W) : Sb w a n c nx cs L v v (W.setCell ⟨w.heap.size + 1 + 1 + 1, 0, none⟩ v) := by
 have ho : ∀ {b : Nat} {q : Obj}, W.heap[b]? = some q → b ≠ w.heap.size + 1 + 1 + 1 → (W.setCell ⟨w.heap.size + 1 + 1 + 1, 0, none⟩ v).heap[b]? = some q := fun hb hne => (heap_setCell_other W ⟨w.heap.size + 1 + 1 + 1, 0, none⟩ _ _ hne).trans hb
 have hs := heap_setCell_same W (w.heap.size + 1 + 1 + 1) 0 _ 29 v h.out
 refine ⟨ho h.box (by omega), ho h.node (by omega), ho h.res (by omega), by simpa using hs, own6_set h.own (by omega) 0 v, ?_, h.below.setCell (by show w.heap.size ≤ w.heap.size + 1 + 1 + 1; omega) v⟩
 have := h.big
 simpa [World.setCell] using this
end
theorem set2 {w : World} {g : Nat} {x0 x1 : Value} (v0 v1 : Value) (h : w.heap[g]? = some (.cells #[x0, x1] 29 (0, 0))) : ((w.setCell ⟨g, 0, none⟩ v0).setCell ⟨g, 1, none⟩ v1).heap[g]? = some (.cells #[v0, v1] 29 (0, 0)) := by
 have h0 := heap_setCell_same w g 0 _ 29 v0 h
 have h1 := heap_setCell_same _ g 1 _ 29 v1 h0
 simpa using h1
end Go.Proofs.YthehblmjloohiaaGreatDoor

namespace Go.Proofs.YthehblmjloohiaaGreatDoor
set_option maxRecDepth 100000
open Go.RowKit Go.Less
attribute [local go_sem 9000] sem_eql sem_neq
structure Db (w : World) (a : Option Addr) (n c : Nat) (nx : Int) (L : List MI) (u v : Value) (W : World) : Prop where
 box : W.heap[w.heap.size]? = some (.cells #[.slice a n c, .int .i64 nx] 29 (0, 0))
 res : W.heap[w.heap.size + 1]? = some (.cells #[.slice none 0 0, .int .i64 0] 29 (0, 0))
 out : W.heap[w.heap.size + 1 + 1]? = some (.cells #[u, .int .i64 nx] 29 (0, 0))
 own : Own6 (w.heap.size + 3) v L W
 big : w.heap.size + 3 ≤ W.heap.size
 below : Below w.heap.size w W
section
variable {w : World} {a : Option Addr} {n c : Nat} {nx : Int} {L : List MI} {u v : Value} {W : World}
theorem Db.more (h : Db w a n c nx L u v W) {W' W4 : World} {v4 : Value} {x : MI} (hA : Below W.heap.size W W') (hg : W'.grownBy W4 v.ownBlock) (hO : Own6 (w.heap.size + 3) v L W') (hown : Own6 (w.heap.size + 3) v4 (L ++ [x]) W4) : Db w a n c nx (L ++ [x]) u v4 W4 := by
 have big := h.big
 have hne : ∀ y, y < w.heap.size + 3 → some y ≠ v.ownBlock := fun y hy e => by have := owns_lt hO y e.symm; omega
 have hbig : W.heap.size ≤ W'.heap.size := hA.size
 have hs : W'.heap.size ≤ W4.heap.size := hg.size
 have keep : ∀ {b : Nat} {q : Obj}, W.heap[b]? = some q → b < w.heap.size + 3 → W4.heap[b]? = some q := fun hb hl => grown_obj hg ((hA.block _ (lt_of_obj hb)).trans hb) (hne _ hl)
 exact ⟨keep h.box (by omega), keep h.res (by omega), keep h.out (by omega), hown, by omega, (h.below.trans (hA.mono h.below.size)).grown hg (Nat.le_trans h.below.size hbig) (fun j hj => by have := owns_lt hO j hj; omega)⟩
theorem Db.store (h : Db w a n c nx L u v W) : Db w a n c nx L v v (W.setCell ⟨w.heap.size + 1 + 1, 0, none⟩ v) := by
 have ho : ∀ {b : Nat} {q : Obj}, W.heap[b]? = some q → b ≠ w.heap.size + 1 + 1 → (W.setCell ⟨w.heap.size + 1 + 1, 0, none⟩ v).heap[b]? = some q := fun hb hne => (heap_setCell_other W ⟨w.heap.size + 1 + 1, 0, none⟩ _ _ hne).trans hb
 have hs := heap_setCell_same W (w.heap.size + 1 + 1) 0 _ 29 v h.out
 refine ⟨ho h.box (by omega), ho h.res (by omega), by simpa using hs, own6_set h.own (by omega) 0 v, ?_, h.below.setCell (by show w.heap.size ≤ w.heap.size + 1 + 1; omega) v⟩
 have := h.big
 simpa [World.setCell] using this
end
end Go.Proofs.YthehblmjloohiaaGreatDoor

namespace Go.Proofs.YthehblmjloohiaaGreatDoor
set_option maxRecDepth 100000
open Go.RowKit Go.Less
attribute [local go_sem 9000] sem_eql sem_neq
structure Wb (w : World) (a : Option Addr) (n c : Nat) (nx : Int) (W : World) : Prop where
 box : W.heap[w.heap.size]? = some (.cells #[.slice a n c, .int .i64 nx] 29 (0, 0))
 below : Below w.heap.size w W
theorem Wb.kept {w W W' : World} {a : Option Addr} {n c : Nat} {nx : Int} (h : Wb w a n c nx W) (hb : Below W.heap.size W W') : Wb w a n c nx W' :=
 ⟨(hb.block _ (lt_of_obj h.box)).trans h.box, h.below.trans (hb.mono h.below.size)⟩
def at_ (ss : List ByteArray) (j : Nat) : ByteArray := ss.getD j ByteArray.empty
theorem walk_at {l : List Fs.Item} {ss : List ByteArray} {j : Nat} (i : Int) (h : j < ss.length) : Fs.walk l i (ss.drop j) = if (Fs.nodeD l i).kind ≠ 2 then .error 10 else match Nd.find (Fs.nodeD l i).ents (at_ ss j) with
  | none => .error 4
  | some c => Fs.walk l c (ss.drop (j + 1)) := by
 rw [List.drop_eq_getElem_cons h, Fs.walk]
 have : ss[j] = at_ ss j := by unfold at_; rw [List.getD, List.getElem?_eq_getElem h]; rfl
 rw [this]; rfl
end Go.Proofs.YthehblmjloohiaaGreatDoor

namespace Go.Proofs.YthehblmjloohiaaGreatDoor
set_option maxRecDepth 100000
open Go.RowKit
structure Splitted (l : List UInt8) (w : World) (e : Ending) (w' : World) : Prop where
 yes : ∀ ns, Nm.split l = some ns → ∃ ao cap, e = .returned (.tuple #[.slice ao ns.length cap, .int .i64 0]) ∧ Trow w.heap.size (.slice ao ns.length cap) ns w'
 no : Nm.split l = none → e = .returned (.tuple #[.slice none 0 0, .int .i64 14])
 below : Below w.heap.size w w'
theorem split_none {l : List UInt8} {w w' : World} (h : Nm.split l = none) (hb : Below w.heap.size w w') : Splitted l w (.returned (.tuple #[.slice none 0 0, .int .i64 14])) w' :=
 ⟨(fun ns e => by rw [h] at e; cases e), (fun _ => rfl), hb⟩
theorem split_some {l : List UInt8} {ns : List (List UInt8)} {w w' : World} {ao : Option Addr} {cap : Nat} (h : Nm.split l = some ns) (hT : Trow w.heap.size (.slice ao ns.length cap) ns w') (hb : Below w.heap.size w w') : Splitted l w (.returned (.tuple #[.slice ao ns.length cap, .int .i64 0])) w' :=
 ⟨(fun ms e => by rw [h] at e; cases e; exact ⟨ao, cap, rfl, hT⟩), (fun e => by rw [h] at e; cases e), hb⟩
theorem toList_eq {x : ByteArray} {l : List UInt8} (h : x.data.toList = l) : (x.toList == l) = true := by rw [Lib.toList_data, h, beq_iff_eq]
end Go.Proofs.YthehblmjloohiaaGreatDoor

namespace Go.Proofs.YthehblmjloohiaaGreatDoor
set_option maxRecDepth 100000
open Go.RowKit Go.Less
attribute [local go_sem 9000] sem_eql sem_neq
theorem split_few {l : List UInt8} {ns : List (List UInt8)} (h : Nm.split l = some ns) : ns.length ≤ 8 := by
 have h1 := Nm.join_split h
 unfold Nm.join at h1
 split at h1
 ·rename_i hx; exact hx.1
 ·cases h1
def spl (p : ByteArray) : Option (List ByteArray) := (Nm.split p.data.toList).map fun ns => ns.map lstr
theorem results_mid {fn : Func} {p u v : Tmp} (h : fn.results = #[.tmp u, .cell p 43, .tmp v]) (tmps : Array Value) (w : World) (g : Nat) (k m d t e : Value)
  (hp : tmps.getD p undef = .pointer (some ⟨g, 0, none⟩)) (hg : w.heap[g]? = some (.cells #[k, m, d, t, e] 43 (0, 0))) :
  (results fn tmps).run Tryz.prog w = .ok (.tuple #[tmps.getD u undef, .agg #[k, m, d, t, e], tmps.getD v undef]) w := by
 simp only [results, h]
 simp only [List.mapM_cons, List.mapM_nil, Array.mapM_eq_mapM_toList, Sem.run_bind]
 simp [Result.andThen, hp, asAddr, run_loadVar_row (P := Tryz.prog) w g 43 43 #[k, m, d, t, e] (0, 0) _ hg Tryz.underlying43 rfl size24]
theorem ents_keep {a : Option Addr} {n p : Nat} {l : List En} {W : World} {k m : Int} {d t : ByteArray} {a' : Option Addr} {n' c' : Nat} (h : Ents a n l W)
  (hp : W.heap[p]? = some (.cells #[.int .i64 k, .int .i64 m, .string d, .string t, .slice a' n' c'] 43 (0, 0))) (v0 v1 v2 v3 v4 : Value) :
  Ents a n l (((((W.setCell ⟨p, 0, none⟩ v0).setCell ⟨p, 1, none⟩ v1).setCell ⟨p, 2, none⟩ v2).setCell ⟨p, 3, none⟩ v3).setCell ⟨p, 4, none⟩ v4) := by
 have hk : ∀ q, q ≠ p → (((((W.setCell ⟨p, 0, none⟩ v0).setCell ⟨p, 1, none⟩ v1).setCell ⟨p, 2, none⟩ v2).setCell ⟨p, 3, none⟩ v3).setCell ⟨p, 4, none⟩ v4).heap[q]? = W.heap[q]? := fun q hq => by
  rw [heap_setCell_other _ _ q _ (fun e => hq e), heap_setCell_other _ _ q _ (fun e => hq e), heap_setCell_other _ _ q _ (fun e => hq e), heap_setCell_other _ _ q _ (fun e => hq e), heap_setCell_other _ _ q _ (fun e => hq e)]
 refine ⟨h.count, fun i hi => ?_⟩
 obtain ⟨b, off, rfl, h0, h1⟩ := h.cell i hi
 by_cases hb : b = p
 ·subst hb
  rw [cell_obj hp] at h0 h1
  generalize off + i * 2 = j at h0 h1
  match j with
  | 0 => cases h0
  | 1 => cases h0
  | 2 => cases h1
  | 3 => cases h1
  | 4 => cases h0
  | j + 5 => simp at h0
 ·refine ⟨b, off, rfl, ?_, ?_⟩
  ·rw [← h0]; simp only [World.cell?, hk b hb]
  ·rw [← h1]; simp only [World.cell?, hk b hb]
def findR (l : List Fs.Item) (p : ByteArray) : Int × Nd.Node × Int := match spl p with
 | none => (0, Nd.none0, 14)
 | some ns => match Fs.walk l 1 ns with
  | .error e => (0, Nd.none0, e)
  | .ok i => (i, Fs.nodeD l i, 0)
def Foundy (r : Int × Nd.Node × Int) (w : World) (e : Ending) (w' : World) : Prop :=
 ∃ ea ec, e = .returned (.tuple #[.int .i64 r.1, nv r.2.1.kind r.2.1.mode r.2.1.data r.2.1.target ea r.2.1.ents.length ec, .int .i64 r.2.2]) ∧ Ents ea r.2.1.ents.length r.2.1.ents w' ∧ Below w.heap.size w w'
theorem Fb.kept {w W W' : World} {a : Option Addr} {n c : Nat} {nx : Int} (h : Fb w a n c nx W) (hb : Below W.heap.size W W') : Fb w a n c nx W' :=
 ⟨(hb.block _ (lt_of_obj h.box)).trans h.box, (hb.block _ (lt_of_obj h.res)).trans h.res, h.below.trans (hb.mono h.below.size)⟩
theorem foundy_none (c : Int) {w W : World} (hb : Below w.heap.size w W) {r : Int × Nd.Node × Int} (h : r = (0, Nd.none0, c)) :
  Foundy r w (.returned (.tuple #[.int .i64 0, .agg #[.int .i64 0, .int .i64 0, .string ⟨#[]⟩, .string ⟨#[]⟩, .slice none 0 0], .int .i64 c])) W := by
 subst h
 exact ⟨none, 0, rfl, ents_nil _, hb⟩
theorem walk_code (l : List Fs.Item) : ∀ (ns : List ByteArray) (i : Int), (∃ j, Fs.walk l i ns = .ok j) ∨ Fs.walk l i ns = .error 10 ∨ Fs.walk l i ns = .error 4
 | [], i => .inl ⟨i, rfl⟩
 | n :: ns, i => by
  unfold Fs.walk
  split
  ·exact .inr (.inl rfl)
  ·split
   ·exact .inr (.inr rfl)
   ·exact walk_code l ns _
end Go.Proofs.YthehblmjloohiaaGreatDoor
