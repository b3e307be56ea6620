/- Layer 11, a law walked. -/
import Derived.Test.YthehblmjloohiaaGreatDoorM39
namespace Go.Proofs.YthehblmjloohiaaGreatDoor
set_option maxRecDepth 100000
open Go.RowKit Go.Less Go.Maps
open T8 (pv Dg)
attribute [local go_sem 9000] sem_eql sem_neq
theorem setCell_self {w : World} {g : Nat} {v : Value} {t : TypeId} (hg : w.heap[g]? = some (.cells #[v] t (0, 0))) : w.setCell ⟨g, 0, none⟩ v = w := by
 have hlt : g < w.heap.size := (Array.getElem?_eq_some_iff.1 hg).1
 have hv : w.heap[g] = .cells #[v] t (0, 0) := (Array.getElem?_eq_some_iff.1 hg).2
 obtain ⟨heap, tape, drawn, os, output⟩ := w
 unfold World.setCell
 congr 1
 apply Array.ext
 ·simp
 ·intro k h1 h2
  simp only [Array.getElem_modify]
  split
  ·rename_i hk; subst hk; simp only at hv; rw [hv]; rfl
  ·rfl
def ptx (ns : List ByteArray) : ByteArray := ns.foldl (fun p n => p ++ ⟨#[47]⟩ ++ n) ⟨#[]⟩
theorem ptx_snoc (ns : List ByteArray) (n : ByteArray) : ptx (ns ++ [n]) = ptx ns ++ ⟨#[47]⟩ ++ n := by unfold ptx; rw [List.foldl_append]; rfl
theorem ptx_from (ns : List ByteArray) (p : ByteArray) : (ns.foldl (fun p n => p ++ ⟨#[47]⟩ ++ n) p).data.toList = p.data.toList ++ ((ns.map Nd.bs).map (47 :: ·)).flatten := by
 induction ns generalizing p with
 | nil => simp
 | cons n ns ih =>
  rw [List.foldl_cons, ih]
  simp [Nd.bs, ByteArray.data_append]
theorem ptx_list (ns : List ByteArray) : (ptx ns).data.toList = ((ns.map Nd.bs).map (47 :: ·)).flatten := by
 have := ptx_from ns ⟨#[]⟩
 simpa [ptx] using this
def atx (ns : List ByteArray) : ByteArray := if ns = [] then ⟨#[47]⟩ else ptx ns
theorem lstr_bs (n : ByteArray) : lstr (Nd.bs n) = n := rfl
theorem spl_atx {ns : List ByteArray} (h8 : ns.length ≤ 8) (hr : ∀ n ∈ ns, Nm.right (Nd.bs n) = true) : spl (atx ns) = some ns := by
 have hp : Nm.split (Nm.pathOf (ns.map Nd.bs)) = some (ns.map Nd.bs) := Nm.path_split (by rw [List.length_map]; exact h8) (List.all_eq_true.2 fun x hx => by obtain ⟨n, hn, rfl⟩ := List.mem_map.1 hx; exact hr n hn)
 have ha : (atx ns).data.toList = Nm.pathOf (ns.map Nd.bs) := by
  unfold atx Nm.pathOf
  by_cases h : ns = []
  ·subst h; rfl
  ·rw [if_neg h, if_neg (by simpa using h), ptx_list]
 unfold spl
 rw [ha, hp]
 simp [Function.comp_def, lstr_bs]
theorem right_size {n : ByteArray} (h : Nm.right (Nd.bs n) = true) : 1 ≤ n.size ∧ n.size ≤ 16 := by
 unfold Nm.right at h
 simp only [Bool.and_eq_true, decide_eq_true_eq] at h
 have e : (Nd.bs n).length = n.size := Array.length_toList
 omega
theorem ptx_size {ns : List ByteArray} (hr : ∀ n ∈ ns, Nm.right (Nd.bs n) = true) : (ptx ns).size ≤ 17 * ns.length ∧ (ns ≠ [] → 1 ≤ (ptx ns).size) := by
 have e : (ptx ns).data.toList.length = (ptx ns).size := Array.length_toList
 rw [← e, ptx_list]
 clear e
 induction ns with
 | nil => exact ⟨Nat.zero_le _, fun h => absurd rfl h⟩
 | cons n ns ih =>
  have h1 := (right_size (hr n List.mem_cons_self)).2
  have h2 := (ih fun m hm => hr m (List.mem_cons_of_mem _ hm)).1
  have e : (Nd.bs n).length = n.size := Array.length_toList
  simp only [List.map_cons, List.flatten_cons, List.length_append, List.length_cons]
  refine ⟨by omega, fun _ => by omega⟩
theorem ptx_empty {ns : List ByteArray} (hr : ∀ n ∈ ns, Nm.right (Nd.bs n) = true) : alike (ptx ns) ⟨#[]⟩ = decide (ns = []) := by
 cases ns with
 | nil => rfl
 | cons n ns =>
  rw [decide_eq_false (by simp)]
  have := (ptx_size hr).2 (by simp)
  cases h : alike (ptx (n :: ns)) ⟨#[]⟩ with
  | false => rfl
  | true => rw [alike_eq.1 h] at this; exact absurd this (by decide)
theorem go_right {f : Fs.FS} (G : Fs.Good env f) : ∀ {ns : List ByteArray} {i j : Int}, Gr.go (Fs.step f.l) i ns = some j → ∀ n ∈ ns, Nm.right (Nd.bs n) = true
 | [], _, _, _, n, hn => by cases hn
 | m :: ns, i, j, h, n, hn => by
  obtain ⟨c, hs, hg⟩ := Gr.go_cons.1 h
  rcases List.mem_cons.1 hn with rfl | hn
  ·obtain ⟨x, hx, hf⟩ := Fs.step_iff.1 hs
   exact ((G.right hx).ok _ (Nd.find_mem hf)).1
  ·exact go_right G hg n hn
theorem reach_all {f : Fs.FS} (H : Fs.Good env f) : (reachL f.l 9 1 []).2.length = f.l.length := by
 have := sound_good H
 unfold soundL at this
 simp only [Bool.and_eq_true, decide_eq_true_eq] at this
 exact this.2.2.2.2
theorem turn_cell_map {b : Nat} {w W : World} (h : Turn b w W) (hm : ∃ es c, w.heap[b]? = some (.map es c)) {k o : Nat} {v : Value} (hc : w.cell? ⟨k, o, none⟩ = some v) : W.cell? ⟨k, o, none⟩ = some v :=
 turn_cell h hc (by obtain ⟨es, c, hm⟩ := hm; rintro rfl; exact not_map hc hm)
structure Tx (w : World) (pf pk ps pw g mb : Nat) : Prop where
 f : w.heap[pf]? = some (.cells #[ptg g] 25 (0, 0))
 k : w.heap[pk]? = some (.cells #[.bool true] 4 (0, 0))
 s : w.heap[ps]? = some (.cells #[.map (some mb)] 80 (0, 0))
 w : w.heap[pw]? = some (.cells #[.func (.func 37) #[] #[.pointer (some ⟨pf, 0, none⟩), .pointer (some ⟨pk, 0, none⟩), .pointer (some ⟨ps, 0, none⟩), .pointer (some ⟨pw, 0, none⟩)]] 81 (0, 0))
theorem Tx.below {w W : World} {pf pk ps pw g mb : Nat} (h : Tx w pf pk ps pw g mb) (hb : Below w.heap.size w W) : Tx W pf pk ps pw g mb :=
 ⟨(hb.block _ (lt_of_obj h.f)).trans h.f, (hb.block _ (lt_of_obj h.k)).trans h.k, (hb.block _ (lt_of_obj h.s)).trans h.s, (hb.block _ (lt_of_obj h.w)).trans h.w⟩
theorem Tx.turn {w W : World} {pf pk ps pw g mb : Nat} (h : Tx w pf pk ps pw g mb) (hm : ∃ es c, w.heap[mb]? = some (.map es c)) (ht : Turn mb w W) : Tx W pf pk ps pw g mb := by
 obtain ⟨es, c, hm⟩ := hm
 exact ⟨ht.obj h.f (by rintro rfl; have := h.f; rw [hm] at this; cases this), ht.obj h.k (by rintro rfl; have := h.k; rw [hm] at this; cases this), ht.obj h.s (by rintro rfl; have := h.s; rw [hm] at this; cases this), ht.obj h.w (by rintro rfl; have := h.w; rw [hm] at this; cases this)⟩
def Treed (r : Bool × List Int) (w0 : World) (mb : Nat) (w : World) (e : Ending) (w' : World) : Prop := e = .returned (.tuple #[]) ∧ Rmap w' mb r.2 ∧ Turn mb w w' ∧ Below w0.heap.size w0 w'
set_option maxHeartbeats 8000000 in
theorem trees_any (f : Fs.FS) (G : Fs.Good env f) (w0 : World) (pf pk ps pw g mb : Nat) (hF : Fo w0 g f) (hmb : w0.heap.size ≤ mb) :
  ∀ (K : Nat), K ≤ 9 → ∀ (ns : List ByteArray) (i : Int) (R : List Int) (w : World), ns.length + K = 9 → Gr.go (Fs.step f.l) 1 ns = some i → Rok f.l R → Below w0.heap.size w0 w → Tx w pf pk ps pw g mb → Rmap w mb R →
   Calls Tryz.prog 37 #[.string (ptx ns), .int .i64 i, .int .i64 (ns.length : Int), .pointer (some ⟨pf, 0, none⟩), .pointer (some ⟨pk, 0, none⟩), .pointer (some ⟨ps, 0, none⟩), .pointer (some ⟨pw, 0, none⟩)] w (Treed (reachL f.l K i R) w0 mb w) := by
 intro K
 induction K with
 | zero =>
  intro _ ns i R w hd hgo
  have := G.tree.deep hgo
  omega
 | succ K ih =>
  intro hK ns i R w hd hgo hR hb hT hm
  have hns := go_right G hgo
  have h8 : ns.length ≤ 8 := by omega
  obtain ⟨y, hy⟩ := Option.isSome_iff_exists.1 (G.go_node G.top_some hgo)
  have hyr := G.right hy
  have hi : i ∈ inosL f.l := node_some_iff.1 (by rw [hy]; rfl)
  have hpos := G.pos _ (Fs.node_mem hy)
  have hwfi : (ik i).wf = true := WalkArith.wf_i64 (by obtain ⟨_, _, hS0⟩ := hF; have := hS0.ok.pos _ (Fs.node_mem hy); simp only at this; omega)
  have hfd : findR f.l (atx ns) = (i, y, 0) := by rw [findR_ok (spl_atx h8 hns) (G.walk_iff.2 hgo), Fs.nodeD_of hy]
  have hsz := (ptx_size hns).1
  have hasz : (atx ns).size ≤ 140737488355328 := by
   unfold atx
   split
   ·decide
   ·omega
  have HNd := Lib.hid (fun W (hb : Below w0.heap.size w0 W) => qNode_any (hF.below hb) i)
  have HFd := Lib.hid (fun W (hb : Below w0.heap.size w0 W) => (show Calls Tryz.prog 19 #[ptg g, .string (atx ns)] W (Foundy (i, y, 0) W) from hfd ▸ qFind_any (hF.below hb) (atx ns) hasz))
  have HNd := Lib.hid (show ∀ W, Below w0.heap.size w0 W → Calls Tryz.prog 38 #[ptg g, .int .i64 i] W (fun e w' => ∃ ea ec, e = .returned (.tuple #[nv y.kind y.mode y.data y.target ea y.ents.length ec, .bool true]) ∧ Ents ea y.ents.length y.ents w' ∧ Below W.heap.size W w') from fun W hb => by
   have := HNd.out W hb
   unfold Node11 at this
   rwa [hy, Fs.nodeD_of hy] at this)
  have HS := Lib.hid (show reachL f.l (K + 1) i R = y.ents.foldl (stepR f.l K) (true, ins1 i R) by rw [reachL_succ, Fs.nodeD_of hy])
  have hchild : ∀ e ∈ y.ents, Gr.go (Fs.step f.l) 1 (ns ++ [e.1]) = some e.2 := fun e he => Gr.go_snoc.2 ⟨i, hgo, G.ent_step env_ok hy he⟩
  have hK0 : ∀ e ∈ y.ents, 1 ≤ K := fun e he => by
   have := G.tree.deep (hchild e he)
   simp only [List.length_append, List.length_cons, List.length_nil] at this
   omega
  have HIn := Lib.hid (fun e (he : e ∈ y.ents) => (show e.2 ∈ inosL f.l from node_some_iff.1 (G.there (G.ent_step env_ok hy he))))
  have HOkc := Lib.hid (fun (i : Int) (R : List Int) (hi : i ∈ inosL f.l) (hR : Rok f.l R) => reachL_ok (l := f.l) (fun i e he => areB_in (areB_good G) (nodeD_in he)) K i R hi hR)
  have HGood := Lib.hid (fun e (he : e ∈ y.ents) R => (show (reachL f.l K e.2 R).1 = true by
   have h1 := hK0 e he
   obtain ⟨k, rfl⟩ : ∃ k, K = k + 1 := ⟨K - 1, by omega⟩
   refine (reach_good G k e.2 R fun ms j hg => ?_).1
   have := G.tree.deep (Gr.go_append_iff.2 ⟨e.2, hchild e he, hg⟩)
   simp only [List.length_append, List.length_cons, List.length_nil] at this
   omega))
  have HIH := Lib.hid (fun e (he : e ∈ y.ents) R W (hR : Rok f.l R) (hb : Below w0.heap.size w0 W) (hT : Tx W pf pk ps pw g mb) (hm : Rmap W mb R) => (show Calls Tryz.prog 37 #[.string (ptx ns ++ ⟨#[47]⟩ ++ e.1), .int .i64 e.2, .int .i64 ((ns.length : Int) + 1), .pointer (some ⟨pf, 0, none⟩), .pointer (some ⟨pk, 0, none⟩), .pointer (some ⟨ps, 0, none⟩), .pointer (some ⟨pw, 0, none⟩)] W (Treed (reachL f.l K e.2 R) w0 mb W) by
   have := ih (by omega) (ns ++ [e.1]) e.2 R W (by simp only [List.length_append, List.length_cons, List.length_nil]; omega) (hchild e he) hR hb hT hm
   rw [ptx_snoc, List.length_append, List.length_singleton, Int.natCast_add] at this
   exact this))
  have hyl : y.ents.length ≤ 64 := hyr.len
  have HNs := Lib.hid (fun e (he : e ∈ y.ents) => (right_size (hyr.ok e he).1).2)
  have hemp := ptx_empty hns
  have hat : (if decide (ns = []) = true then (⟨#[47]⟩ : ByteArray) else ptx ns) = atx ns := by unfold atx; simp
  have HTx := Lib.hid (fun W hb => hT.below (W := W) hb)
  have HM := Lib.hid (fun W (hb : Below w.heap.size w W) => hm.below hb)
  have HTt := Lib.hid (fun W (ht : Turn mb w W) => hT.turn hm.isMap ht)
  have hRl := Nat.le_trans hR.len (Nat.le_trans G.few (show 256 ≤ 1000000 by decide))
  have HR1 := Lib.hid (hR.ins hi)
  have HB0 := Lib.hid hb
  have HW := Lib.hid hwfi
  have hlm := hm.lt
  have hdd : (ns.length : Int) ≤ 8 := by omega
  have hd9 : (ns.length : Int) < 9 := by omega
  generalize ns.length = d at *
  generalize atx ns = ta at *
  generalize ptx ns = tp at *
  obtain ⟨bn, hbn⟩ : ∃ b, decide (ns = []) = b := ⟨_, rfl⟩
  rw [hbn] at hemp hat
  have hz1 : ¬ 9223372036854775807 < tp.size + 1 := by omega
  obtain ⟨yk, ym, yd, yt, ye⟩ := y
  dsimp only at hyl HS HIn HGood HIH HNs HNd
  have HSm := Lib.hid (fun W a1 c1 a2 c2 (h1 : Ents a1 ye.length ye W) (h2 : Ents a2 ye.length ye W) => q_rsame (k := yk) (m := ym) (d := yd) (t := yt) (c := c1) (k' := yk) (m' := ym) (d' := yd) (t' := yt) (c' := c2) W h1 h2 (by omega) (by omega) (sameN_self yk ym yd yt ye))
  have hnil : (ye.length : Int) ≤ 64 := by omega
  have hwr : IntKind.i64.wrap ((d : Int) + 1) = (d : Int) + 1 := IntWalk.i64_in _ (by omega)
  have cf : w.cell? ⟨pf, 0, none⟩ = some (ptg g) := cell_obj hT.f 0
  generalize reachL f.l (K + 1) i R = RR at HS ⊢
  clear hfd hasz hy hyr hi hpos hgo hns ih hF hd hb hT hm hR hwfi hchild hK0 hbn h8 G
  cases bn
  all_goals
   first
    |rw [if_pos rfl] at hat
    |rw [if_neg (by decide)] at hat
   subst hat
   go_enter Tryz.func37, Tryz.ntmps37
   go_wp2_with fail
   refine (HNd.out w HB0.out).mono ?_
   rintro e w1 ⟨a1, c1, rfl, hE, hb⟩
   have hbx := below_one w1 (.cells #[.int .i64 yk, .int .i64 ym, .string yd, .string yt, .slice a1 ye.length c1] 43)
   have hb2 := hb.trans (hbx.mono hb.size)
   have HB1 := Lib.hid hb2
   have HX1 := Lib.hid (show (w1.alloc (.cells #[.int .i64 yk, .int .i64 ym, .string yd, .string yt, .slice a1 ye.length c1] 43)).heap[w1.heap.size]? = some (.cells #[.int .i64 yk, .int .i64 ym, .string yd, .string yt, .slice a1 ye.length c1] 43 (0, 0)) from heap_alloc_new _ _)
   have HE1 := Lib.hid (hE.below hbx)
   have cf : (w1.alloc (.cells #[.int .i64 yk, .int .i64 ym, .string yd, .string yt, .slice a1 ye.length c1] 43)).cell? ⟨pf, 0, none⟩ = some (ptg g) := cell_obj (HTx.out _ hb2).f 0
   clear hb hE hbx hb2
   dsimp only
   go_wp2_with fail
   refine (HFd.out _ (HB0.out.trans (HB1.out.mono HB0.out.size))).mono ?_
   rintro e w2 ⟨a2, c2, rfl, hE, hb⟩
   have hbx := below_one w2 (.cells #[.int .i64 yk, .int .i64 ym, .string yd, .string yt, .slice a2 ye.length c2] 43)
   have hb2 := hb.trans (hbx.mono hb.size)
   have HB2 := Lib.hid (HB1.out.trans (hb2.mono HB1.out.size))
   have hX1 := (hb2.block _ (lt_of_obj HX1.out)).trans HX1.out
   have HX1 := Lib.hid hX1
   have HE1 := Lib.hid (HE1.out.below hb2)
   have HSc := Lib.hid (HSm.out _ a1 c1 a2 c2 HE1.out (hE.below hbx))
   have ck : (w2.alloc (.cells #[.int .i64 yk, .int .i64 ym, .string yd, .string yt, .slice a2 ye.length c2] 43)).cell? ⟨pk, 0, none⟩ = some (.bool true) := cell_obj (HTx.out _ HB2.out).k 0
   have u0 : (w2.alloc (.cells #[.int .i64 yk, .int .i64 ym, .string yd, .string yt, .slice a2 ye.length c2] 43)).cell? ⟨w1.heap.size, 0, none⟩ = some (.int .i64 yk) := cell_obj hX1 0
   have u1 : (w2.alloc (.cells #[.int .i64 yk, .int .i64 ym, .string yd, .string yt, .slice a2 ye.length c2] 43)).cell? ⟨w1.heap.size, 1, none⟩ = some (.int .i64 ym) := cell_obj hX1 1
   have u2 : (w2.alloc (.cells #[.int .i64 yk, .int .i64 ym, .string yd, .string yt, .slice a2 ye.length c2] 43)).cell? ⟨w1.heap.size, 2, none⟩ = some (.string yd) := cell_obj hX1 2
   have u3 : (w2.alloc (.cells #[.int .i64 yk, .int .i64 ym, .string yd, .string yt, .slice a2 ye.length c2] 43)).cell? ⟨w1.heap.size, 3, none⟩ = some (.string yt) := cell_obj hX1 3
   have u4 : (w2.alloc (.cells #[.int .i64 yk, .int .i64 ym, .string yd, .string yt, .slice a2 ye.length c2] 43)).cell? ⟨w1.heap.size, 4, none⟩ = some (.slice a1 ye.length c1) := cell_obj hX1 4
   have v0 : (w2.alloc (.cells #[.int .i64 yk, .int .i64 ym, .string yd, .string yt, .slice a2 ye.length c2] 43)).cell? ⟨w2.heap.size, 0, none⟩ = some (.int .i64 yk) := World.cell?_alloc_new _ _ _ _
   have v1 : (w2.alloc (.cells #[.int .i64 yk, .int .i64 ym, .string yd, .string yt, .slice a2 ye.length c2] 43)).cell? ⟨w2.heap.size, 1, none⟩ = some (.int .i64 ym) := World.cell?_alloc_new _ _ _ _
   have v2 : (w2.alloc (.cells #[.int .i64 yk, .int .i64 ym, .string yd, .string yt, .slice a2 ye.length c2] 43)).cell? ⟨w2.heap.size, 2, none⟩ = some (.string yd) := World.cell?_alloc_new _ _ _ _
   have v3 : (w2.alloc (.cells #[.int .i64 yk, .int .i64 ym, .string yd, .string yt, .slice a2 ye.length c2] 43)).cell? ⟨w2.heap.size, 3, none⟩ = some (.string yt) := World.cell?_alloc_new _ _ _ _
   have v4 : (w2.alloc (.cells #[.int .i64 yk, .int .i64 ym, .string yd, .string yt, .slice a2 ye.length c2] 43)).cell? ⟨w2.heap.size, 4, none⟩ = some (.slice a2 ye.length c2) := World.cell?_alloc_new _ _ _ _
   clear hb hE hbx hb2 hX1 cf
   dsimp only
   go_wp2_with fail
   refine HSc.out.mono ?_
   rintro e w3 ⟨rfl, hb⟩
   have hB3 := HB2.out.trans (hb.mono HB2.out.size)
   have hT3 := HTx.out _ hB3
   have hself := setCell_self hT3.k
   have hfz := frozen_of_row w3 pk 0 _ 4 hT3.k
   have ck : w3.cell? ⟨pk, 0, none⟩ = some (.bool true) := cell_obj hT3.k 0
   have cs : w3.cell? ⟨ps, 0, none⟩ = some (.map (some mb)) := cell_obj hT3.s 0
   obtain ⟨w4, hr4, hM4, ht4⟩ := (HM.out _ hB3).store hRl HW.out
   have hX4 := ((Turn.refl mb w3).turned ht4).obj ((hb.block _ (lt_of_obj HX1.out)).trans HX1.out) (by rintro e; have h1 := hb.block _ (lt_of_obj HX1.out); rw [HX1.out, e] at h1; obtain ⟨es, cl, h2⟩ := (HM.out _ hB3).isMap; rw [h2] at h1; cases h1)
   have HX4 := Lib.hid (fun W (hT : Turn mb w4 W) => (show W.heap[w1.heap.size]? = some (.cells #[.int .i64 yk, .int .i64 ym, .string yd, .string yt, .slice a1 ye.length c1] 43 (0, 0)) from hT.obj hX4 (by rintro e; rw [e] at hX4; obtain ⟨es, cl, h2⟩ := hM4.isMap; rw [h2] at hX4; cases hX4)))
   have HE4 := Lib.hid (fun W (hT : Turn mb w4 W) => turn_ents hT hM4.isMap (turn_ents ((Turn.refl mb w3).turned ht4) (HM.out _ hB3).isMap (HE1.out.below hb)))
   have HT4 := Lib.hid ((Turn.refl mb w).below hB3 |>.turned ht4)
   have HW4 := Lib.hid (below_turned (HB0.out.trans (hB3.mono HB0.out.size)) ht4 hmb)
   have HM4 := Lib.hid hM4
   clear hb hB3 hT3 hM4 ht4 hX4 HE1 HX1 HSc HB1 HB2
   dsimp only
   go_wp2_with fail
   go_loopw [16] (fun x16 wr => ∃ (q : Nat) (R' : List Int), q ≤ ye.length ∧ x16 = .int .i64 q ∧ Hid ((ye.take q).foldl (stepR f.l K) (true, ins1 i R) = (true, R')) ∧ Rok f.l R' ∧ Rmap wr mb R' ∧ Turn mb w wr ∧ Turn mb w4 wr ∧ Below w0.heap.size w0 wr) (fun x16 _ => ye.length - (intOf x16).toNat)
   case atStart => exact ⟨0, _, Nat.zero_le _, rfl, rfl, HR1.out, HM4.out, HT4.out, Turn.refl _ _, HW4.out⟩
   case round =>
    clear HM4 HT4 HW4 HR1 hr4 hself hfz ck cs u0 u1 u2 u3 u4 v0 v1 v2 v3 v4
    obtain ⟨q, R', hq, rfl, HFo, hR', hM', hT', hT1', hW'⟩ := hrel
    have HR' := Lib.hid hR'
    have HM' := Lib.hid hM'
    have HT' := Lib.hid hT'
    have HT1' := Lib.hid hT1'
    have HW' := Lib.hid hW'
    clear hR' hM' hT' hT1' hW'
    have hX := HX4.out wr HT1'.out
    have x4 : wr.cell? ⟨w1.heap.size, 4, none⟩ = some (.slice a1 ye.length c1) := cell_obj hX 4
    clear hX
    by_cases hlt : q < ye.length
    ·have q0 : (q : Int) < (ye.length : Int) := by omega
     have hq0 : (0 : Int) ≤ (q : Int) := by omega
     have hE := HE4.out wr HT1'.out
     obtain ⟨b2, o2, rfl, -, -⟩ := hE.cell q hlt
     obtain ⟨e, he, d0, d1⟩ := ents_at hE hlt
     have hem := List.mem_of_getElem? he
     have hT := HTt.out wr HT'.out
     have cw : wr.cell? ⟨pw, 0, none⟩ = some (.func (.func 37) #[] #[.pointer (some ⟨pf, 0, none⟩), .pointer (some ⟨pk, 0, none⟩), .pointer (some ⟨ps, 0, none⟩), .pointer (some ⟨pw, 0, none⟩)]) := cell_obj hT.w 0
     have HC := Lib.hid (HIH.out e hem R' wr.drew HR'.out HW'.out.drew (hT.below (Below.refl wr.heap.size wr).drew) (HM'.out.below (Below.refl wr.heap.size wr).drew))
     have hG := HGood.out e hem R'
     have HOe := Lib.hid (HOkc.out e.2 R' (HIn.out e hem) HR'.out)
     have HFm := Lib.hid (show (ye.take (q + 1)).foldl (stepR f.l K) (true, ins1 i R) = reachL f.l K e.2 R' by rw [fold_more he, HFo.out]; rfl)
     have hsz2 := HNs.out e hem
     obtain ⟨en, ei⟩ := e
     dsimp only at d0 d1 HC HOe HFm hsz2 hG
     have hz2 : ¬ 9223372036854775807 < tp.size + 1 + en.size := by omega
     have HSx := Lib.hid (fun W (ht : Turn mb wr.drew W) => (⟨turn_cell_map ht HM'.out.isMap x4, turn_cell_map ht HM'.out.isMap d0, turn_cell_map ht HM'.out.isMap d1, turn_cell_map ht HM'.out.isMap cw⟩ : W.cell? ⟨w1.heap.size, 4, none⟩ = some (.slice (some ⟨b2, o2, none⟩) ye.length c1) ∧ W.cell? ⟨b2, o2 + q * 2, none⟩ = some (.string en) ∧ W.cell? ⟨b2, o2 + q * 2 + 1, none⟩ = some (.int .i64 ei) ∧ W.cell? ⟨pw, 0, none⟩ = some (.func (.func 37) #[] #[.pointer (some ⟨pf, 0, none⟩), .pointer (some ⟨pk, 0, none⟩), .pointer (some ⟨ps, 0, none⟩), .pointer (some ⟨pw, 0, none⟩)])))
     clear hE he hem hT
     unfold Treed at HC
     obtain ⟨⟨rr, R2⟩, hrr⟩ : ∃ r, reachL f.l K ei R' = r := ⟨_, rfl⟩
     rw [hrr] at HC HOe HFm hG
     dsimp only at HC HOe hG
     subst hG
     clear hrr
     go_wp2_with fail
     go_region_held3 (fun W => W.cell? ⟨w1.heap.size, 4, none⟩ = some (.slice (some ⟨b2, o2, none⟩) ye.length c1) ∧ W.cell? ⟨b2, o2 + q * 2, none⟩ = some (.string en) ∧ W.cell? ⟨b2, o2 + q * 2 + 1, none⟩ = some (.int .i64 ei) ∧ W.cell? ⟨pw, 0, none⟩ = some (.func (.func 37) #[] #[.pointer (some ⟨pf, 0, none⟩), .pointer (some ⟨pk, 0, none⟩), .pointer (some ⟨ps, 0, none⟩), .pointer (some ⟨pw, 0, none⟩)]))
      (first | exact ⟨x4, d0, d1, cw⟩ | exact HSx.out _ ht5)
      (first | (go_at_call 37; (with_reducible refine HC.out.mono ?_); rintro e5 w5 ⟨rfl, hm5, ht5, hb5⟩))
     all_goals
      have HX := Lib.hid (And.intro hm5 (And.intro ((HT'.out.below (Below.refl wr.heap.size wr).drew).trans ht5) (And.intro ((HT1'.out.below (Below.refl wr.heap.size wr).drew).trans ht5) hb5)))
      clear hm5 ht5 hb5 d0 d1 cw x4
      go_wp2_with fail
      go_roundw
      case rel => exact ⟨q + 1, R2, by omega, by go_num, HFm.out, HOe.out, HX.out.1, HX.out.2.1, HX.out.2.2.1, HX.out.2.2.2⟩
      case measure => simp [intOf]; omega
    ·obtain rfl : q = ye.length := by omega
     have hge : ¬ ((ye.length : Int) < (ye.length : Int)) := by omega
     have hfo := HFo.out
     rw [List.take_length] at hfo
     have HF := Lib.hid (show Treed RR w0 mb w (.returned (.tuple #[])) wr by rw [HS.out, hfo]; exact ⟨rfl, HM'.out, HT'.out, HW'.out⟩)
     clear hfo
     go_wp2_with fail
     go_end0
     exact HF.out
theorem law_boxes (w3 : World) (g : Nat) : ∃ w5, w5 = (((((w3.alloc (.cells #[ptg g] 25)).alloc (.map #[] 0)).alloc (.cells #[.map (some (w3.heap.size + 1))] 80)).alloc (.cells #[.bool true] 4)).alloc (.cells #[.func (.func 37) #[] #[.pointer (some ⟨w3.heap.size, 0, none⟩), .pointer (some ⟨w3.heap.size + 1 + 1 + 1, 0, none⟩), .pointer (some ⟨w3.heap.size + 1 + 1, 0, none⟩), .pointer (some ⟨w3.heap.size + 1 + 1 + 1 + 1, 0, none⟩)]] 81)) ∧
  Below (w3.alloc (.cells #[ptg g] 25)).heap.size (w3.alloc (.cells #[ptg g] 25)) w5 ∧ Tx w5 w3.heap.size (w3.heap.size + 1 + 1 + 1) (w3.heap.size + 1 + 1) (w3.heap.size + 1 + 1 + 1 + 1) g (w3.heap.size + 1) ∧ Rmap w5 (w3.heap.size + 1) [] := by
 have b0 := below_one w3 (.cells #[ptg g] 25)
 have n0 := heap_alloc_new w3 (.cells #[ptg g] 25)
 have z0 : (w3.alloc (.cells #[ptg g] 25)).heap.size = w3.heap.size + 1 := size1 _ _
 generalize w3.alloc (.cells #[ptg g] 25) = W0 at *
 have b1 := below_one W0 (.map #[] 0)
 have hr := Rmap.made W0
 have z1 : (W0.alloc (.map #[] 0)).heap.size = W0.heap.size + 1 := size1 _ _
 generalize W0.alloc (.map #[] 0) = W1 at *
 rw [z0] at z1 hr
 have b2 := below_one W1 (.cells #[.map (some (w3.heap.size + 1))] 80)
 have n2 := heap_alloc_new W1 (.cells #[.map (some (w3.heap.size + 1))] 80)
 have z2 : (W1.alloc (.cells #[.map (some (w3.heap.size + 1))] 80)).heap.size = W1.heap.size + 1 := size1 _ _
 generalize W1.alloc (.cells #[.map (some (w3.heap.size + 1))] 80) = W2 at *
 rw [z1] at z2 n2
 have b3 := below_one W2 (.cells #[.bool true] 4)
 have n3 := heap_alloc_new W2 (.cells #[.bool true] 4)
 have z3 : (W2.alloc (.cells #[.bool true] 4)).heap.size = W2.heap.size + 1 := size1 _ _
 generalize W2.alloc (.cells #[.bool true] 4) = W3 at *
 rw [z2] at z3 n3
 have b4 := below_one W3 (.cells #[.func (.func 37) #[] #[.pointer (some ⟨w3.heap.size, 0, none⟩), .pointer (some ⟨w3.heap.size + 1 + 1 + 1, 0, none⟩), .pointer (some ⟨w3.heap.size + 1 + 1, 0, none⟩), .pointer (some ⟨w3.heap.size + 1 + 1 + 1 + 1, 0, none⟩)]] 81)
 have n4 := heap_alloc_new W3 (.cells #[.func (.func 37) #[] #[.pointer (some ⟨w3.heap.size, 0, none⟩), .pointer (some ⟨w3.heap.size + 1 + 1 + 1, 0, none⟩), .pointer (some ⟨w3.heap.size + 1 + 1, 0, none⟩), .pointer (some ⟨w3.heap.size + 1 + 1 + 1 + 1, 0, none⟩)]] 81)
 rw [z3] at n4
 have b34 := b3.trans (b4.mono b3.size)
 have b24 := b2.trans (b34.mono b2.size)
 have b14 := b1.trans (b24.mono b1.size)
 refine ⟨_, rfl, b14, ⟨(b14.block _ (by rw [z0]; omega)).trans n0, (b4.block _ (by rw [z3]; omega)).trans n3, (b34.block _ (by rw [z2]; omega)).trans n2, n4⟩, hr.below b24⟩
set_option maxHeartbeats 16000000 in
theorem fsTrees_any (a : Option Addr) (n cap : Nat) (l : List Fs.Op) (w : World) (hS : Opr a n l w) (hn : n ≤ 140737488355328) (hD : Dg w) :
  Calls Tryz.prog 9 #[.slice a n cap] w fun e w' => e = .returned (.bool true) ∧ Below w.heap.size w w' := by
 have HAw := Lib.hid (awake_any w hD)
 have HSr := Lib.hid (fun W (hb : Below w.heap.size w W) => hS.below hb)
 have HDg := Lib.hid (fun W (hb : Below w.heap.size w W) => hD.below hb)
 have HN := Lib.hid hS.count
 have HFw := Lib.hid (fun W (hb : Below w.heap.size w W) => few_any a n cap l W (hS.below hb) hn)
 clear hS hD
 cases hfew : few11 l with
 | false =>
  rw [hfew] at HFw
  go_enter Tryz.func9, Tryz.ntmps9
  go_wp2_with fail
  refine HAw.out.mono ?_
  rintro e w1 ⟨rfl, hb⟩
  have HB := Lib.hid hb
  clear hb
  dsimp only
  go_wp2_with fail
  refine (HFw.out w1 HB.out).mono ?_
  rintro e w2 ⟨rfl, hb⟩
  have HB := Lib.hid (HB.out.trans (hb.mono HB.out.size))
  clear hb
  dsimp only
  go_wp2_with fail
  go_ret
  exact ⟨rfl, HB.out⟩
 | true =>
  rw [hfew] at HFw
  have hln := few_len hfew
  have hn2 : n ≤ 120 := by rw [HN.out]; exact hln
  obtain ⟨G, hnx⟩ := done_all (l := l) (by omega)
  have HDn := Lib.hid (fun W (hb : Below w.heap.size w W) => done_any a n cap l W (HSr.out W hb) (by omega) (HDg.out W hb))
  generalize doneF Fs.new l = f at *
  have HG := Lib.hid G
  have HAll := Lib.hid (reach_all G)
  have hf256 := G.few
  have HIn := Lib.hid (fun g W (h : Fo W g f) => (show Calls Tryz.prog 39 #[ptg g] W (fun e w' => ∃ ao ca, e = .returned (.slice ao f.l.length ca) ∧ Below W.heap.size W w') from (qInos_any h).mono fun e w' h => by
   obtain ⟨ao, ca, h1, _, h2⟩ := h
   rw [show (inosL f.l).length = f.l.length by unfold inosL; rw [List.length_map]] at h1
   exact ⟨ao, ca, h1, h2⟩))
  have HMp := Lib.hid (fun g W (h : Fo W g f) => qMap_any h)
  have HLn := Lib.hid (fun m W (h : Sv W m f.l) => qLen_any h)
  clear hfew HSr HDg HN hn hn2 hln G hnx
  go_enter Tryz.func9, Tryz.ntmps9
  go_wp2_with fail
  refine HAw.out.mono ?_
  rintro e w1 ⟨rfl, hb⟩
  have HB := Lib.hid hb
  clear hb
  dsimp only
  go_wp2_with fail
  refine (HFw.out w1 HB.out).mono ?_
  rintro e w2 ⟨rfl, hb⟩
  have HB := Lib.hid (HB.out.trans (hb.mono HB.out.size))
  clear hb
  dsimp only
  go_wp2_with fail
  refine (HDn.out w2 HB.out).mono ?_
  rintro e w3 ⟨g, rfl, hF, hg, hb⟩
  have HB := Lib.hid (HB.out.trans (hb.mono HB.out.size))
  have HF := Lib.hid hF
  clear hF hg hb
  obtain ⟨w5, hw5, hb5, hT5, hR5⟩ := law_boxes w3 g
  subst hw5
  have hb3 := below_one w3 (.cells #[ptg g] 25)
  have hFo := HF.out.below hb3
  have hsz : (w3.alloc (.cells #[ptg g] 25)).heap.size = w3.heap.size + 1 := size1 _ _
  have HC := Lib.hid (show Calls Tryz.prog 37 #[.string ⟨#[]⟩, .int .i64 1, .int .i64 0, .pointer (some ⟨w3.heap.size, 0, none⟩), .pointer (some ⟨w3.heap.size + 1 + 1 + 1, 0, none⟩), .pointer (some ⟨w3.heap.size + 1 + 1, 0, none⟩), .pointer (some ⟨w3.heap.size + 1 + 1 + 1 + 1, 0, none⟩)] _ (Treed (reachL f.l 9 1 []) (w3.alloc (.cells #[ptg g] 25)) (w3.heap.size + 1) _) from
   trees_any f HG.out (w3.alloc (.cells #[ptg g] 25)) w3.heap.size (w3.heap.size + 1 + 1 + 1) (w3.heap.size + 1 + 1) (w3.heap.size + 1 + 1 + 1 + 1) g (w3.heap.size + 1) hFo (by rw [hsz]; exact Nat.le_refl _) 9 (Nat.le_refl _) [] 1 [] _ rfl rfl ⟨List.nodup_nil, fun x hx => by cases hx⟩ hb5 hT5 hR5)
  have HT5 := Lib.hid (fun W ht => hT5.turn (W := W) hR5.isMap ht)
  have HB0 := Lib.hid (show Below w.heap.size w (w3.alloc (.cells #[ptg g] 25)) from HB.out.trans (hb3.mono HB.out.size))
  have HFo := Lib.hid (fun W (hb : Below (w3.alloc (.cells #[ptg g] 25)).heap.size (w3.alloc (.cells #[ptg g] 25)) W) => hFo.below hb)
  have cw := cell_obj hT5.w 0
  have hmm := @run_makeMap Tryz.prog
  clear hb5 hT5 hR5 hb3 hFo HF HB
  dsimp only
  go_wp2_with fail
  refine HC.out.mono ?_
  rintro e w6 ⟨rfl, hR, hT, hb⟩
  have hTx := HT5.out _ hT
  have HB6 := Lib.hid (HB0.out.trans (hb.mono HB0.out.size))
  have HFx := Lib.hid (fun W (hw : Below w6.heap.size w6 W) => HFo.out W (hb.trans (hw.mono hb.size)))
  have hlen := fun W (hw : Below w6.heap.size w6 W) => (hR.below hw).len
  rw [HAll.out] at hlen
  generalize f.l.length = N at *
  have hNi : (N : Int) ≤ 256 := by omega
  have HSx := Lib.hid (fun W (hw : Below w6.heap.size w6 W) => (⟨cell_obj (hTx.below hw).k 0, cell_obj (hTx.below hw).s 0, cell_obj (hTx.below hw).f 0, hlen W hw, hw⟩ : W.cell? ⟨w3.heap.size + 1 + 1 + 1, 0, none⟩ = some (.bool true) ∧ W.cell? ⟨w3.heap.size + 1 + 1, 0, none⟩ = some (.map (some (w3.heap.size + 1))) ∧ W.cell? ⟨w3.heap.size, 0, none⟩ = some (ptg g) ∧ (Builtin.len_ #[80] 3 #[.map (some (w3.heap.size + 1))]).run Tryz.prog W = .ok (.int .i64 (N : Int)) W ∧ Below w6.heap.size w6 W))
  have hBd := (Below.refl w6.heap.size w6).drew
  clear hR hT hb hTx hlen HC HT5 HFo HB0 cw hmm HAll
  dsimp only
  go_wp2_with fail
  go_region_held3 (fun W => W.cell? ⟨w3.heap.size + 1 + 1 + 1, 0, none⟩ = some (.bool true) ∧ W.cell? ⟨w3.heap.size + 1 + 1, 0, none⟩ = some (.map (some (w3.heap.size + 1))) ∧ W.cell? ⟨w3.heap.size, 0, none⟩ = some (ptg g) ∧ (Builtin.len_ #[80] 3 #[.map (some (w3.heap.size + 1))]).run Tryz.prog W = .ok (.int .i64 (N : Int)) W ∧ Below w6.heap.size w6 W)
   (first | exact HSx.out _ (by assumption))
   (first
    | (go_at_call 39; (with_reducible refine (HIn.out _ _ (HFx.out _ (by assumption))).mono ?_); rintro e w7 ⟨ao, ca, rfl, hw7⟩; have hb7 := T8.btrans hw7 (by assumption))
    | (go_at_call 26; (with_reducible refine (HMp.out _ _ (HFx.out _ (by assumption))).mono ?_); rintro e w8 ⟨m, rfl, hSv8, rfl⟩)
    | (go_at_call 40; (with_reducible refine (HLn.out _ _ hSv8).mono ?_); rintro e w9 ⟨rfl, hw9⟩; have hb9 := T8.btrans hw9 (by assumption)))
  all_goals
   go_wp2_with fail
   go_ret
   exact ⟨by simp, HB6.out.trans (hb9.mono HB6.out.size)⟩
end Go.Proofs.YthehblmjloohiaaGreatDoor
