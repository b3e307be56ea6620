/- Layer 11, a part of the proofs: no statement of its own. -/
import Derived.Test.YthehblmjloohiaaGreatDoorM37
namespace Go.Proofs.YthehblmjloohiaaGreatDoor
set_option maxRecDepth 100000
open Go.RowKit Go.Less Go.Maps
open T8 (pv Dg Rp Pr mlen_any)
attribute [local go_sem 9000] sem_eql sem_neq
def soundL (l : List Fs.Item) : Bool := decide (l.length ≤ 256) && (decide ((Fs.nodeD l 1).kind = 2) && (areB l && ((reachL l 9 1 []).1 && decide ((reachL l 9 1 []).2.length = l.length))))
theorem okp_right {p : Pr} (h : okp p) : Nd.Right less Nm.right (itm p).2 := (parseR_right (x := (parseR p.2.data.toList).1) (by rw [← h.2])).1
theorem nodeD_few {l : List Fs.Item} (h : ∀ y ∈ l, Nd.Right less Nm.right y.2) (i : Int) : (Fs.nodeD l i).ents.length ≤ 64 := by
 unfold Fs.nodeD
 cases hn : Fs.node l i with
 | none => exact Nat.zero_le _
 | some x => exact (h _ (Fs.node_mem hn)).len
theorem nodeD_in {l : List Fs.Item} {i : Int} {e : En} (he : e ∈ (Fs.nodeD l i).ents) : e ∈ allE l := by
 unfold Fs.nodeD at he
 cases hn : Fs.node l i with
 | none => rw [hn] at he; cases he
 | some x => rw [hn] at he; exact allE_mem (Fs.node_mem hn) he
theorem areB_in {l : List Fs.Item} (h : areB l = true) {e : En} (he : e ∈ allE l) : e.2 ∈ inosL l := by
 unfold areB at h
 rw [Bool.and_eq_true] at h
 exact node_some_iff.1 (List.all_eq_true.1 h.1 e he)
theorem Nmap.len {w : World} {b : Nat} {l : List Fs.Item} (h : Nmap w b l) : (Builtin.len_ #[126] 3 #[.map (some b)]).run Tryz.prog w = .ok (.int .i64 (l.length : Int)) w := by
 obtain ⟨⟨f, h1, _⟩⟩ := h
 exact h1.len Tryz.underlying126 3
def SoundR (r : Bool) (w : World) (e : Ending) (w' : World) : Prop := e = .returned (.bool r) ∧ Below w.heap.size w w'
set_option maxHeartbeats 4000000 in
theorem sound_many (m : Option Nat) (kvs : List Pr) (w : World) (h : Rp w m kvs) (hn : 256 < kvs.length) (hn2 : kvs.length ≤ 100000) : Calls Tryz.prog 29 #[pv m] w (SoundR false w) := by
 have HL := Lib.hid (mlen_any h)
 have hni : (256 : Int) < (kvs.length : Int) := by omega
 clear h
 go_enter Tryz.func29, Tryz.ntmps29
 go_wp2_with fail
 refine HL.out.mono ?_
 rintro e w1 ⟨rfl, hb⟩
 dsimp only
 go_wp2_with fail
 go_ret
 exact ⟨rfl, hb⟩
set_option maxHeartbeats 4000000 in
theorem sound_bad (m : Option Nat) (kvs : List Pr) (j : Nat) (w : World) (h : Rp w m kvs) (hn : kvs.length ≤ 256) (hvs : ∀ p ∈ kvs, p.2.size ≤ 100000) (hj : j < kvs.length)
  (hok : ∀ i p, i < j → kvs[i]? = some p → okp p) (hbad : ∀ p, kvs[j]? = some p → ¬ okp p) (hnd : (((kvs.take j).map itm).map (·.1)).Nodup) : Calls Tryz.prog 29 #[pv m] w (SoundR false w) := by
 have HL := Lib.hid (mlen_any h)
 have HRd := Lib.hid (fun W (hb : Below w.heap.size w W) => readNodes_any m kvs j W (h.below hb) (by omega) hvs (by omega) hok hbad hnd)
 unfold ReadN at HRd
 simp only [show (j = kvs.length) = False from eq_false (by omega), if_false] at HRd
 have hni : ¬ (256 : Int) < (kvs.length : Int) := by omega
 clear h hok hbad hnd hvs
 go_enter Tryz.func29, Tryz.ntmps29
 go_wp2_with fail
 refine HL.out.mono ?_
 rintro e w1 ⟨rfl, hb⟩
 have HB := Lib.hid hb
 clear hb
 dsimp only
 go_wp2_with fail
 refine (HRd.out w1 HB.out).mono ?_
 rintro e w2 ⟨hb2, rfl⟩
 have HB2 := Lib.hid (HB.out.trans (hb2.mono HB.out.size))
 clear hb2
 dsimp only
 go_wp2_with fail
 go_ret
 exact ⟨rfl, HB2.out⟩
set_option maxHeartbeats 8000000 in
theorem sound_all (m : Option Nat) (kvs : List Pr) (w : World) (h : Rp w m kvs) (hn : kvs.length ≤ 1000) (hvs : ∀ p ∈ kvs, p.2.size ≤ 100000) (hok : ∀ p ∈ kvs, okp p) (hr : Fs.Rising (kvs.map itm)) :
  Calls Tryz.prog 29 #[pv m] w (SoundR (soundL (kvs.map itm)) w) := by
 have hlen : (kvs.map itm).length = kvs.length := List.length_map _
 by_cases hmany : 256 < kvs.length
 ·rw [show soundL (kvs.map itm) = false by unfold soundL; rw [decide_eq_false (by omega), Bool.false_and]]
  exact sound_many m kvs w h hmany (by omega)
 have hmm := @run_makeMap Tryz.prog
 have hfd := field43_0
 have HL := Lib.hid (mlen_any h)
 have HRd := Lib.hid (fun W (hb : Below w.heap.size w W) => readNodes_any m kvs kvs.length W (h.below hb) hn hvs (Nat.le_refl _) (fun i p _ hp => hok p (List.mem_of_getElem? hp)) (fun p hp => by rw [List.getElem?_eq_none (Nat.le_refl _)] at hp; cases hp) (by rw [List.take_length]; exact rising_nodup hr))
 unfold ReadN at HRd
 simp only [if_true] at HRd
 have hni : ¬ (256 : Int) < (kvs.length : Int) := by omega
 have hrt : ∀ y ∈ kvs.map itm, Nd.Right less Nm.right y.2 := fun y hy => by
  obtain ⟨p, hp, rfl⟩ := List.mem_map.1 hy; exact okp_right (hok p hp)
 have hwf : ∀ y ∈ kvs.map itm, (ik y.1).wf = true := fun y hy => by
  obtain ⟨p, hp, rfl⟩ := List.mem_map.1 hy
  have := ino_ok (hok p hp).1
  exact ik_wf this.1 this.2
 have hew : ∀ e ∈ allE (kvs.map itm), (ik e.2).wf = true := fun e he => by
  obtain ⟨es, hes, he⟩ := List.mem_flatten.1 he
  obtain ⟨y, hy, rfl⟩ := List.mem_map.1 hes
  have := ((hrt y hy).ok e he).2
  exact ik_wf this.1 this.2
 have hel := fun y hy => (hrt y hy).len
 rw [← hlen] at hn
 have HAr := Lib.hid (fun mb W (hM : Nmap W mb (kvs.map itm)) => areNamed_any mb (kvs.map itm) W hM hr hwf hn hel hew)
 have HRe := Lib.hid (fun (hA : areB (kvs.map itm) = true) (h1 : 1 ∈ inosL (kvs.map itm)) mb rb W0 W (hM : Nmap W0 mb (kvs.map itm)) (hb : Below W0.heap.size W0 W) (hrb : W0.heap.size ≤ rb) (hm : Rmap W rb []) => reach_any mb (kvs.map itm) W0 hM hwf hn (nodeD_few hrt) (fun i e he => areB_in hA (nodeD_in he)) 9 (Nat.le_refl _) 1 [] rb W h1 ⟨List.nodup_nil, fun x hx => by cases hx⟩ hb hrb hm)
 have h256 : (kvs.map itm).length ≤ 256 := by omega
 clear h hvs hok hr hrt hwf hew hel hmany hlen
 generalize kvs.map itm = l at *
 have hS : soundL l = (decide ((Fs.nodeD l 1).kind = 2) && (areB l && ((reachL l 9 1 []).1 && decide ((reachL l 9 1 []).2.length = l.length)))) := by unfold soundL; rw [decide_eq_true h256, Bool.true_and]
 clear h256 hn
 by_cases hk : (Fs.nodeD l 1).kind = 2
 ·have h1 : 1 ∈ inosL l := node_some_iff.1 (by
   cases hx : Fs.node l 1 with
   | some x => rfl
   | none => unfold Fs.nodeD at hk; rw [hx] at hk; exact absurd hk (by decide))
  rw [decide_eq_true hk, Bool.true_and] at hS
  cases hA : areB l with
  | false =>
   rw [hA, Bool.false_and] at hS
   rw [hA] at HAr
   have HS := Lib.hid hS
   clear hS HRe
   go_enter Tryz.func29, Tryz.ntmps29
   go_wp2_with fail
   refine HL.out.mono ?_
   rintro e w1 ⟨rfl, hb⟩
   have HB := Lib.hid hb
   clear hb
   dsimp only
   go_wp2_with fail
   refine (HRd.out w1 HB.out).mono ?_
   rintro e w2 ⟨hb2, mb, rfl, hM⟩
   have HB2 := Lib.hid (HB.out.trans (hb2.mono HB.out.size))
   have HM := Lib.hid hM
   obtain ⟨a, c, hlk, -, -⟩ := hM.look (i := 1) (by decide)
   clear hb2 hM
   generalize Fs.nodeD l 1 = x at *
   obtain ⟨xk, xm, xd, xt, xe⟩ := x
   unfold nvx nv at hlk
   dsimp only at hlk hk
   subst hk
   dsimp only
   go_wp2_with fail
   refine (HAr.out mb w2 HM.out).mono ?_
   rintro e w3 ⟨rfl, hb3⟩
   have HB3 := Lib.hid (HB2.out.trans (hb3.mono HB2.out.size))
   clear hb3 hlk
   dsimp only
   go_wp2_with fail
   go_ret
   rw [HS.out]
   exact ⟨rfl, HB3.out⟩
  | true =>
   rw [hA, Bool.true_and] at hS
   rw [hA] at HAr
   have HRx := Lib.hid (HRe.out hA h1)
   unfold Reached at HRx
   rw [show (9 : Int) - ((9 : Nat) : Int) = 0 from rfl] at HRx
   obtain ⟨⟨rr, R⟩, hrr⟩ : ∃ r, reachL l 9 1 [] = r := ⟨_, rfl⟩
   rw [hrr] at hS HRx
   dsimp only at hS HRx
   have HS := Lib.hid hS
   clear hS HRe hrr hA h1
   cases rr with
   | false =>
    go_enter Tryz.func29, Tryz.ntmps29
    go_wp2_with fail
    refine HL.out.mono ?_
    rintro e w1 ⟨rfl, hb⟩
    have HB := Lib.hid hb
    clear hb
    dsimp only
    go_wp2_with fail
    refine (HRd.out w1 HB.out).mono ?_
    rintro e w2 ⟨hb2, mb, rfl, hM⟩
    have HB2 := Lib.hid (HB.out.trans (hb2.mono HB.out.size))
    have HM := Lib.hid hM
    obtain ⟨a, c, hlk, -, -⟩ := hM.look (i := 1) (by decide)
    clear hb2 hM
    generalize Fs.nodeD l 1 = x at *
    obtain ⟨xk, xm, xd, xt, xe⟩ := x
    unfold nvx nv at hlk
    dsimp only at hlk hk
    subst hk
    dsimp only
    go_wp2_with fail
    refine (HAr.out mb w2 HM.out).mono ?_
    rintro e w3 ⟨rfl, hb3⟩
    have HB3 := Lib.hid (HB2.out.trans (hb3.mono HB2.out.size))
    have HC := Lib.hid (HRx.out mb w3.heap.size w3 _ (HM.out.below hb3) (below_one w3 (.map #[] 0)) (Nat.le_refl _) (Rmap.made w3))
    clear hb3 hlk
    dsimp only
    go_wp2_with fail
    refine HC.out.mono ?_
    rintro e w4 ⟨rfl, -, -, hb4⟩
    have HB4 := Lib.hid (HB3.out.trans (hb4.mono HB3.out.size))
    clear hb4
    dsimp only
    go_wp2_with fail
    go_ret
    rw [HS.out]
    exact ⟨rfl, HB4.out⟩
   | true =>
    go_enter Tryz.func29, Tryz.ntmps29
    go_wp2_with fail
    refine HL.out.mono ?_
    rintro e w1 ⟨rfl, hb⟩
    have HB := Lib.hid hb
    clear hb
    dsimp only
    go_wp2_with fail
    refine (HRd.out w1 HB.out).mono ?_
    rintro e w2 ⟨hb2, mb, rfl, hM⟩
    have HB2 := Lib.hid (HB.out.trans (hb2.mono HB.out.size))
    have HM := Lib.hid hM
    obtain ⟨a, c, hlk, -, -⟩ := hM.look (i := 1) (by decide)
    clear hb2 hM
    generalize Fs.nodeD l 1 = x at *
    obtain ⟨xk, xm, xd, xt, xe⟩ := x
    unfold nvx nv at hlk
    dsimp only at hlk hk
    subst hk
    dsimp only
    go_wp2_with fail
    refine (HAr.out mb w2 HM.out).mono ?_
    rintro e w3 ⟨rfl, hb3⟩
    have HB3 := Lib.hid (HB2.out.trans (hb3.mono HB2.out.size))
    have HM3 := Lib.hid (HM.out.below hb3)
    have HC := Lib.hid (HRx.out mb w3.heap.size w3 _ (HM.out.below hb3) (below_one w3 (.map #[] 0)) (Nat.le_refl _) (Rmap.made w3))
    clear hb3 hlk
    dsimp only
    go_wp2_with fail
    refine HC.out.mono ?_
    rintro e w4 ⟨rfl, hm4, -, hb4⟩
    have HB4 := Lib.hid (HB3.out.trans (hb4.mono HB3.out.size))
    have hl1 := hm4.len
    have hl2 := (HM3.out.below hb4).len
    clear hb4 hm4
    dsimp only
    go_wp2_with fail
    go_ret
    rw [HS.out]
    have hq : ((R.length : Int) == (l.length : Int)) = decide (R.length = l.length) := by
     by_cases h9 : R.length = l.length
     ·rw [decide_eq_true h9, h9]; simp
     ·rw [decide_eq_false h9]; simp only [beq_eq_false_iff_ne]; omega
    refine ⟨?_, HB4.out⟩
    show Ending.returned (.bool ((R.length : Int) == (l.length : Int))) = _
    rw [hq, Bool.true_and]
 ·rw [decide_eq_false hk, Bool.false_and] at hS
  have HS := Lib.hid hS
  clear hS HRe HAr
  go_enter Tryz.func29, Tryz.ntmps29
  go_wp2_with fail
  refine HL.out.mono ?_
  rintro e w1 ⟨rfl, hb⟩
  have HB := Lib.hid hb
  clear hb
  dsimp only
  go_wp2_with fail
  refine (HRd.out w1 HB.out).mono ?_
  rintro e w2 ⟨hb2, mb, rfl, hM⟩
  have HB2 := Lib.hid (HB.out.trans (hb2.mono HB.out.size))
  obtain ⟨a, c, hlk, -, -⟩ := hM.look (i := 1) (by decide)
  clear hb2 hM
  generalize Fs.nodeD l 1 = x at *
  obtain ⟨xk, xm, xd, xt, xe⟩ := x
  unfold nvx nv at hlk
  dsimp only at hlk hk
  dsimp only
  go_wp2_with fail
  go_ret
  rw [HS.out]
  exact ⟨rfl, HB2.out⟩
end Go.Proofs.YthehblmjloohiaaGreatDoor

namespace Go.Proofs.YthehblmjloohiaaGreatDoor
set_option maxRecDepth 100000
open Go.RowKit Go.Less
theorem links_cnt (l : List Fs.Item) (i : Int) : cnt (allE l) i = Fs.links l i := by
 unfold cnt allE Fs.links
 rw [List.countP_flatten, List.map_map]
 rfl
theorem sum_zero {α : Type} {l : List α} {c : α → Nat} (h : ∀ y ∈ l, c y = 0) : (l.map c).sum = 0 := by
 induction l with
 | nil => rfl
 | cons y l ih => rw [List.map_cons, List.sum_cons, h y List.mem_cons_self, ih fun z hz => h z (List.mem_cons_of_mem _ hz)]
theorem sum_one {l : List Fs.Item} (hr : Fs.Rising l) {c : Fs.Item → Nat} {k : Int} (h0 : ∀ y ∈ l, y.1 ≠ k → c y = 0) (h1 : ∀ y ∈ l, c y ≤ 1) : (l.map c).sum ≤ 1 := by
 induction l with
 | nil => exact Nat.zero_le _
 | cons y l ih =>
  have hp := List.pairwise_cons.1 hr
  rw [List.map_cons, List.sum_cons]
  by_cases e : y.1 = k
  ·rw [sum_zero (l := l) fun z hz => h0 z (List.mem_cons_of_mem _ hz) (fun e2 => by have : y.1 < z.1 := hp.1 z hz; omega)]
   have := h1 y List.mem_cons_self
   omega
  ·rw [h0 y List.mem_cons_self e]
   have := ih hp.2 (fun z hz => h0 z (List.mem_cons_of_mem _ hz)) (fun z hz => h1 z (List.mem_cons_of_mem _ hz))
   omega
theorem count_one {es : List En} {i : Int} {n : ByteArray} (hp : es.Pairwise fun a b => a.1 ≠ b.1) (h : ∀ e ∈ es, e.2 = i → e.1 = n) : es.countP (fun e => decide (e.2 = i)) ≤ 1 := by
 induction es with
 | nil => exact Nat.zero_le _
 | cons e es ih =>
  have hp2 := List.pairwise_cons.1 hp
  rw [List.countP_cons]
  by_cases he : e.2 = i
  ·have hz : es.countP (fun e => decide (e.2 = i)) = 0 := List.countP_eq_zero.2 fun z hz hd => by
    have hd : z.2 = i := by simpa using hd
    exact hp2.1 z hz ((h e List.mem_cons_self he).trans (h z (List.mem_cons_of_mem _ hz) hd).symm)
   rw [hz, if_pos (by simpa using he)]
   exact Nat.le_refl _
  ·rw [if_neg (by simpa using he)]
   exact ih hp2.2 fun z hz => h z (List.mem_cons_of_mem _ hz)
theorem ents_apart {es : List En} (h : Nd.rises less es = true) : es.Pairwise fun a b => a.1 ≠ b.1 :=
 ((Nd.rises_iff rising es).1 h).imp fun {a b} hab e => by rw [e, rising.irr] at hab; cases hab
theorem named_dir {f : Fs.FS} (H : Fs.Good env f) {i : Int} (hi : i ≠ 1) (hd : Fs.isDir f.l i) : Fs.links f.l i = 1 := by
 obtain ⟨x, hx, hk⟩ := hd
 obtain ⟨ns, hg⟩ := H.reach hx
 have hex : ∃ k n, Fs.step f.l k n = some i := by
  rcases Gr.snoc_cases ns with rfl | ⟨ps, n, rfl⟩
  ·injection hg with hg; exact absurd hg.symm hi
  ·obtain ⟨k, _, h2⟩ := Gr.go_snoc.1 hg; exact ⟨k, n, h2⟩
 obtain ⟨k, n, hs⟩ := hex
 have hne : Fs.links f.l i ≠ 0 := fun h => (H.links_iff env_ok).1 h k n hs
 have hle : Fs.links f.l i ≤ 1 := by
  unfold Fs.links
  refine sum_one H.inos (k := k) (fun y hy hne => ?_) (fun y hy => ?_)
  ·refine List.countP_eq_zero.2 fun e he hd => hne ?_
   have hd : e.2 = i := by simpa using hd
   have h1 := H.ent_step env_ok (Fs.node_at H.inos hy) he
   rw [hd] at h1
   exact (H.tree.one ⟨x, hx, hk⟩ h1 hs).1
  ·have hyn := Fs.node_at H.inos (show (y.1, y.2) ∈ f.l from hy)
   refine count_one (n := n) (ents_apart (H.right hyn).rise) fun e he hd => ?_
   have h1 := H.ent_step env_ok hyn he
   rw [hd] at h1
   exact (H.tree.one ⟨x, hx, hk⟩ h1 hs).2
 omega
theorem named_some {f : Fs.FS} (H : Fs.Good env f) {i : Int} (hi : i ≠ 1) {x : Nd.Node} (hx : Fs.node f.l i = some x) : 0 < Fs.links f.l i := by
 obtain ⟨ns, hg⟩ := H.reach hx
 rcases Gr.snoc_cases ns with rfl | ⟨ps, n, rfl⟩
 ·injection hg with hg; exact absurd hg.symm hi
 ·obtain ⟨k, _, h2⟩ := Gr.go_snoc.1 hg
  exact Nat.pos_of_ne_zero fun h => (H.links_iff env_ok).1 h k n h2
theorem areB_good {f : Fs.FS} (H : Fs.Good env f) : areB f.l = true := by
 unfold areB
 rw [Bool.and_eq_true]
 refine ⟨List.all_eq_true.2 fun e he => ?_, List.all_eq_true.2 fun i hi => ?_⟩
 ·obtain ⟨es, hes, he⟩ := List.mem_flatten.1 he
  obtain ⟨y, hy, rfl⟩ := List.mem_map.1 hes
  exact H.there (H.ent_step env_ok (Fs.node_at H.inos hy) he)
 ·obtain ⟨x, hx⟩ := Option.isSome_iff_exists.1 (node_some_iff.2 hi)
  rw [Fs.nodeD_of hx, links_cnt]
  unfold mayB
  by_cases h1 : i = 1
  ·rw [if_pos h1]
   subst h1
   have : Fs.links f.l 1 = 0 := (H.links_iff env_ok).2 H.tree.root
   rw [this]; rfl
  ·rw [if_neg h1]
   by_cases hk : x.kind = 2
   ·rw [if_pos hk, named_dir H h1 ⟨x, hx, hk⟩]; rfl
   ·rw [if_neg hk]
    have := named_some H h1 hx
    exact decide_eq_true (by omega)
theorem fold_reach {l : List Fs.Item} {k : Nat} : ∀ (es : List En) (r : Bool × List Int), r.1 = true → (∀ e ∈ es, ∀ R, (reachL l k e.2 R).1 = true ∧ (∀ x ∈ R, x ∈ (reachL l k e.2 R).2) ∧ ∀ ns j, Gr.go (Fs.step l) e.2 ns = some j → j ∈ (reachL l k e.2 R).2) →
  (es.foldl (stepR l k) r).1 = true ∧ (∀ x ∈ r.2, x ∈ (es.foldl (stepR l k) r).2) ∧ ∀ e ∈ es, ∀ ns j, Gr.go (Fs.step l) e.2 ns = some j → j ∈ (es.foldl (stepR l k) r).2
 | [], r, h, _ => ⟨h, fun _ hx => hx, fun e he => by cases he⟩
 | e :: es, r, h, hes => by
  have h1 := hes e List.mem_cons_self r.2
  have hst : stepR l k r e = reachL l k e.2 r.2 := by unfold stepR; rw [if_pos h]
  rw [List.foldl_cons, hst]
  have h2 := fold_reach es (reachL l k e.2 r.2) h1.1 fun z hz => hes z (List.mem_cons_of_mem _ hz)
  refine ⟨h2.1, fun x hx => h2.2.1 x (h1.2.1 x hx), fun z hz ns j hg => ?_⟩
  rcases List.mem_cons.1 hz with rfl | hz
  ·exact h2.2.1 j (h1.2.2 ns j hg)
  ·exact h2.2.2 z hz ns j hg
theorem ins_mem {i x : Int} {R : List Int} (h : x ∈ R) : x ∈ ins1 i R := by
 unfold ins1; split
 ·exact h
 ·exact List.mem_cons_of_mem _ h
theorem ins_self (i : Int) (R : List Int) : i ∈ ins1 i R := by
 unfold ins1; split
 ·assumption
 ·exact List.mem_cons_self
theorem reach_good {f : Fs.FS} (H : Fs.Good env f) : ∀ (k : Nat) (i : Int) (R : List Int), (∀ ns j, Gr.go (Fs.step f.l) i ns = some j → ns.length ≤ k) →
  (reachL f.l (k + 1) i R).1 = true ∧ (∀ x ∈ R, x ∈ (reachL f.l (k + 1) i R).2) ∧ ∀ ns j, Gr.go (Fs.step f.l) i ns = some j → j ∈ (reachL f.l (k + 1) i R).2 := by
 intro k
 induction k with
 | zero =>
  intro i R hd
  rw [reachL_succ]
  have he : (Fs.nodeD f.l i).ents = [] := by
   cases hn : Fs.node f.l i with
   | none => unfold Fs.nodeD; rw [hn]; rfl
   | some x =>
    rw [Fs.nodeD_of hn]
    cases hx : x.ents with
    | nil => rfl
    | cons e es =>
     have h1 := H.ent_step env_ok hn (e := e) (by rw [hx]; exact List.mem_cons_self)
     have := hd [e.1] e.2 (Gr.go_cons.2 ⟨e.2, h1, rfl⟩)
     simp at this
  rw [he]
  refine ⟨rfl, fun x hx => ins_mem hx, fun ns j hg => ?_⟩
  have := hd ns j hg
  obtain rfl : ns = [] := List.eq_nil_of_length_eq_zero (by omega)
  injection hg with hg
  subst hg
  exact ins_self _ _
 | succ k ih =>
  intro i R hd
  rw [reachL_succ]
  have hes : ∀ e ∈ (Fs.nodeD f.l i).ents, Fs.step f.l i e.1 = some e.2 := fun e he => by
   cases hn : Fs.node f.l i with
   | none => unfold Fs.nodeD at he; rw [hn] at he; cases he
   | some x => rw [Fs.nodeD_of hn] at he; exact H.ent_step env_ok hn he
  have h := fold_reach (l := f.l) (k := k + 1) (Fs.nodeD f.l i).ents (true, ins1 i R) rfl fun e he R2 => ih e.2 R2 fun ns j hg => by
   have := hd (e.1 :: ns) j (Gr.go_cons.2 ⟨e.2, hes e he, hg⟩)
   simpa using this
  refine ⟨h.1, fun x hx => h.2.1 x (ins_mem hx), fun ns j hg => ?_⟩
  cases ns with
  | nil => injection hg with hg; subst hg; exact h.2.1 _ (ins_self _ _)
  | cons n ns =>
   obtain ⟨c, hs, hg⟩ := Gr.go_cons.1 hg
   obtain ⟨x, hx, hf⟩ := Fs.step_iff.1 hs
   have hm := Nd.find_mem hf
   have := h.2.2 (n, c) (by rw [Fs.nodeD_of hx]; exact hm) ns j hg
   exact this
theorem sound_good {f : Fs.FS} (H : Fs.Good env f) : soundL f.l = true := by
 have hr := reach_good H 8 1 [] fun ns j hg => H.tree.deep hg
 have hk := Fs.dir_iff.1 H.top
 have hA := areB_good H
 have hok := reachL_ok (l := f.l) (fun i e he => areB_in hA (nodeD_in he)) 9 1 [] (node_some_iff.1 (by obtain ⟨x, hx, _⟩ := H.top; rw [hx]; rfl)) ⟨List.nodup_nil, fun x hx => by cases hx⟩
 have hlen : (reachL f.l 9 1 []).2.length = f.l.length := by
  refine Nat.le_antisymm hok.len ?_
  have := nodup_len (rising_nodup H.inos) (L := (reachL f.l 9 1 []).2) fun i hi => by
   obtain ⟨x, hx⟩ := Option.isSome_iff_exists.1 (node_some_iff.2 hi)
   obtain ⟨ns, hg⟩ := H.reach hx
   exact hr.2.2 ns i hg
  unfold inosL at this
  rwa [List.length_map] at this
 unfold soundL
 rw [decide_eq_true H.few, decide_eq_true hk, hA, hr.1, decide_eq_true hlen]
 rfl
theorem kv_itm {l : List Fs.Item} (h : Okl l) : (Fs.kv l).map itm = l := by
 unfold Fs.kv
 rw [List.map_map]
 conv => rhs; rw [← List.map_id l]
 refine List.map_congr_left fun y hy => ?_
 show itm (Fs.key y.1, Fs.txt y.2) = y
 unfold itm
 simp only
 rw [ino_key (h.pos y hy), parse_txt (h.right y hy)]
theorem kv_okp {l : List Fs.Item} (h : Okl l) : ∀ p ∈ Fs.kv l, okp p := fun p hp => by
 unfold Fs.kv at hp
 obtain ⟨y, hy, rfl⟩ := List.mem_map.1 hp
 exact ⟨by simp only; rw [ino_key (h.pos y hy)], by simp only; rw [parse_txt (h.right y hy)]⟩
theorem pSound_any (m : Option Nat) (l : List Fs.Item) (w : World) (h : Sv w m l) : Calls Tryz.prog 29 #[T8.pv m] w (SoundR (soundL l) w) := by
 have := sound_all m (Fs.kv l) w h.rp (by rw [Fs.kv_len]; exact h.ok.few) (fun p hp => by
  unfold Fs.kv at hp
  obtain ⟨y, hy, rfl⟩ := List.mem_map.1 hp
  exact Nat.le_trans (txt_size (h.ok.right y hy)) (by decide)) (kv_okp h.ok) (by rw [kv_itm h.ok]; exact h.ok.inos)
 rwa [kv_itm h.ok] at this
end Go.Proofs.YthehblmjloohiaaGreatDoor

namespace Go.Proofs.YthehblmjloohiaaGreatDoor
open T6
set_option maxRecDepth 100000
open Go.RowKit Go.Less
attribute [local go_sem 9000] sem_eql sem_neq
def readR (l : List Fs.Item) (p : ByteArray) (off n : Int) : List UInt8 × Int :=
 if (fileR l p).2.2 ≠ 0 then ([], (fileR l p).2.2) else getR (fileR l p).2.1.data.data.toList off n
end Go.Proofs.YthehblmjloohiaaGreatDoor

namespace Go.Proofs.YthehblmjloohiaaGreatDoor
open T6
set_option maxRecDepth 100000
open Go.RowKit Go.Less
open T8 (pv Dg Rp mname_any mlen_any nm cn)
attribute [local go_sem 9000] sem_eql sem_neq
def Fo (w : World) (g : Nat) (f : Fs.FS) : Prop := ∃ m, w.heap[g]? = some (.cells #[pv m, .int .i64 f.next] 91 (0, 0)) ∧ Sv w m f.l
theorem Fo.below {w w' : World} {g : Nat} {f : Fs.FS} (h : Fo w g f) (hb : Below w.heap.size w w') : Fo w' g f := by
 obtain ⟨m, h1, h2⟩ := h; exact ⟨m, (hb.block _ (lt_of_obj h1)).trans h1, h2.below hb⟩
theorem Fo.lt {w : World} {g : Nat} {f : Fs.FS} (h : Fo w g f) : g < w.heap.size := by obtain ⟨m, h1, _⟩ := h; exact lt_of_obj h1
abbrev ptg (g : Nat) : Value := .pointer (some ⟨g, 0, none⟩)
set_option maxHeartbeats 8000000 in
theorem qFind_any {g : Nat} {f : Fs.FS} {w : World} (h : Fo w g f) (p : ByteArray) (hp : p.size ≤ 140737488355328) : Calls Tryz.prog 19 #[ptg g, .string p] w (Foundy (findR f.l p) w) := by
 obtain ⟨m, hg, hS⟩ := h
 obtain ⟨l, nx⟩ := f
 dsimp only at hg hS ⊢
 have HG := Lib.hid hg
 have HSv := Lib.hid (fun W (hb : Below w.heap.size w W) => hS.below hb)
 have HF := Lib.hid (fun W (hb : Below w.heap.size w W) => pFind_any m nx l p W (hS.below hb) hp)
 obtain ⟨⟨i, ⟨k, mo, d, t, es⟩, code⟩, hr⟩ : ∃ r, findR l p = r := ⟨_, rfl⟩
 rw [hr] at HF ⊢
 clear hg hS hr
 have HB := Lib.hid (show Bxs w [(w.heap.size, #[.int .i64 0, .int .i64 0, .string ⟨#[]⟩, .string ⟨#[]⟩, .slice none 0 0], 43)] (w.alloc (.cells #[.int .i64 0, .int .i64 0, .string ⟨#[]⟩, .string ⟨#[]⟩, .slice none 0 0] 43)) from Bxs.one w _ _)
 have hgW := (HB.out.below.block _ (lt_of_obj HG.out)).trans HG.out
 have g0 : (w.alloc (.cells #[.int .i64 0, .int .i64 0, .string ⟨#[]⟩, .string ⟨#[]⟩, .slice none 0 0] 43)).cell? ⟨g, 0, none⟩ = some (pv m) := cell_obj hgW 0
 have g1 : (w.alloc (.cells #[.int .i64 0, .int .i64 0, .string ⟨#[]⟩, .string ⟨#[]⟩, .slice none 0 0] 43)).cell? ⟨g, 1, none⟩ = some (.int .i64 nx) := cell_obj hgW 1
 clear hgW
 go_enter Tryz.func19, Tryz.ntmps19
 go_wp2_with fail
 clear g0 g1
 generalize w.alloc (.cells #[.int .i64 0, .int .i64 0, .string ⟨#[]⟩, .string ⟨#[]⟩, .slice none 0 0] 43) = W0 at HB ⊢
 refine (HF.out W0 HB.out.below).mono ?_
 rintro e w1 ⟨a, c, rfl, hE, hb⟩
 have hbk := hb
 have HEn := Lib.hid hE
 clear hE
 have HB := Lib.hid (HB.out.kept hbk)
 clear hbk
 obtain ⟨b0_0, b0_1, b0_2, b0_3, b0_4⟩ := HB.out.c5 0 rfl
 dsimp only
 go_wp2_with (first | (refine store_bx HB.out 0 rfl 43 _ _ rfl rfl #[.int .i64 k, .int .i64 mo, .string d, .string t, .slice a es.length c] rfl rfl (by kernel_rfl) rfl rfl (by decide) (by decide) ?_; intro w2 hS hK hbS hsS; have HBS := Lib.hid hS; have HEn := Lib.hid (hK.ents (HB.out.obj 0 rfl) (noEnt43 _ _ _ _ _ _ _) HEn.out); clear hS hK hbS hsS; have HB := HBS; clear HBS; clear b0_0 b0_1 b0_2 b0_3 b0_4; obtain ⟨b0_0, b0_1, b0_2, b0_3, b0_4⟩ := HB.out.c5 0 rfl) | fail)
 refine bodyPost_ret_by (results_mid rfl _ _ w.heap.size _ _ _ _ _ rfl (HB.out.obj 0 rfl)) rfl ?_
 exact ⟨a, c, rfl, HEn.out, HB.out.below⟩
set_option maxHeartbeats 8000000 in
theorem qNode_any {g : Nat} {f : Fs.FS} {w : World} (h : Fo w g f) (k0 : Int) : Calls Tryz.prog 38 #[ptg g, .int .i64 k0] w (Node11 f.l k0 w) := by
 obtain ⟨m, hg, hS⟩ := h
 obtain ⟨l, nx⟩ := f
 dsimp only at hg hS ⊢
 have HG := Lib.hid hg
 have HSv := Lib.hid (fun W (hb : Below w.heap.size w W) => hS.below hb)
 have HF := Lib.hid (fun W (hb : Below w.heap.size w W) => pNode_any m nx l k0 W (hS.below hb))
 clear hg hS
 unfold Node11 at HF ⊢
 generalize (Fs.node l k0).isSome = there at *
 generalize Fs.nodeD l k0 = x at *
 obtain ⟨k, mo, d, t, es⟩ := x
 dsimp only at HF ⊢
 have HB := Lib.hid (show Bxs w [(w.heap.size, #[.int .i64 0, .int .i64 0, .string ⟨#[]⟩, .string ⟨#[]⟩, .slice none 0 0], 43)] (w.alloc (.cells #[.int .i64 0, .int .i64 0, .string ⟨#[]⟩, .string ⟨#[]⟩, .slice none 0 0] 43)) from Bxs.one w _ _)
 have hgW := (HB.out.below.block _ (lt_of_obj HG.out)).trans HG.out
 have g0 : (w.alloc (.cells #[.int .i64 0, .int .i64 0, .string ⟨#[]⟩, .string ⟨#[]⟩, .slice none 0 0] 43)).cell? ⟨g, 0, none⟩ = some (pv m) := cell_obj hgW 0
 have g1 : (w.alloc (.cells #[.int .i64 0, .int .i64 0, .string ⟨#[]⟩, .string ⟨#[]⟩, .slice none 0 0] 43)).cell? ⟨g, 1, none⟩ = some (.int .i64 nx) := cell_obj hgW 1
 clear hgW
 go_enter Tryz.func38, Tryz.ntmps38
 go_wp2_with fail
 clear g0 g1
 generalize w.alloc (.cells #[.int .i64 0, .int .i64 0, .string ⟨#[]⟩, .string ⟨#[]⟩, .slice none 0 0] 43) = W0 at HB ⊢
 refine (HF.out W0 HB.out.below).mono ?_
 rintro e w1 ⟨a, c, rfl, hE, hb⟩
 have hbk := hb
 have HEn := Lib.hid hE
 clear hE
 have HB := Lib.hid (HB.out.kept hbk)
 clear hbk
 obtain ⟨b0_0, b0_1, b0_2, b0_3, b0_4⟩ := HB.out.c5 0 rfl
 dsimp only
 go_wp2_with (first | (refine store_bx HB.out 0 rfl 43 _ _ rfl rfl #[.int .i64 k, .int .i64 mo, .string d, .string t, .slice a es.length c] rfl rfl (by kernel_rfl) rfl rfl (by decide) (by decide) ?_; intro w2 hS hK hbS hsS; have HBS := Lib.hid hS; have HEn := Lib.hid (hK.ents (HB.out.obj 0 rfl) (noEnt43 _ _ _ _ _ _ _) HEn.out); clear hS hK hbS hsS; have HB := HBS; clear HBS; clear b0_0 b0_1 b0_2 b0_3 b0_4; obtain ⟨b0_0, b0_1, b0_2, b0_3, b0_4⟩ := HB.out.c5 0 rfl) | fail)
 refine bodyPost_ret_by (results_nd rfl _ _ w.heap.size _ _ _ _ _ rfl (HB.out.obj 0 rfl)) rfl ?_
 exact ⟨a, c, rfl, HEn.out, HB.out.below⟩
set_option maxHeartbeats 8000000 in
theorem qInos_any {g : Nat} {f : Fs.FS} {w : World} (h : Fo w g f) : Calls Tryz.prog 39 #[ptg g] w (Numbered (inosL f.l) w) := by
 obtain ⟨m, hg, hS⟩ := h
 obtain ⟨l, nx⟩ := f
 dsimp only at hg hS ⊢
 have HG := Lib.hid hg
 have HSv := Lib.hid (fun W (hb : Below w.heap.size w W) => hS.below hb)
 have HF := Lib.hid (inos_any m nx l w hS)
 have g0 : w.cell? ⟨g, 0, none⟩ = some (pv m) := cell_obj hg 0
 have g1 : w.cell? ⟨g, 1, none⟩ = some (.int .i64 nx) := cell_obj hg 1
 clear hg hS
 go_enter Tryz.func39, Tryz.ntmps39
 go_wp2_with fail
 refine HF.out.mono ?_
 rintro e w1 ⟨ao, cap, rfl, hrow, hb⟩
 have HX := Lib.hid (And.intro hrow hb)
 clear hrow hb g0 g1
 dsimp only
 go_wp2_with fail
 go_ret
 exact ⟨ao, cap, rfl, HX.out.1, HX.out.2⟩
set_option maxHeartbeats 8000000 in
theorem qNext_any {g : Nat} {f : Fs.FS} {w : World} (h : Fo w g f) : Calls Tryz.prog 18 #[ptg g] w fun e w' => e = .returned (.int .i64 f.next) ∧ w' = w := by
 obtain ⟨m, hg, hS⟩ := h
 obtain ⟨l, nx⟩ := f
 dsimp only at hg hS ⊢
 have g1 : w.cell? ⟨g, 1, none⟩ = some (.int .i64 nx) := cell_obj hg 1
 clear hg hS
 go_enter Tryz.func18, Tryz.ntmps18
 go_wp2_with fail
 go_ret
 exact ⟨rfl, rfl⟩
def Mapp (l : List Fs.Item) (w : World) (e : Ending) (w' : World) : Prop := ∃ m, e = .returned (pv m) ∧ Sv w' m l ∧ w' = w
set_option maxHeartbeats 8000000 in
theorem qMap_any {g : Nat} {f : Fs.FS} {w : World} (h : Fo w g f) : Calls Tryz.prog 26 #[ptg g] w (Mapp f.l w) := by
 obtain ⟨m, hg, hS⟩ := h
 obtain ⟨l, nx⟩ := f
 dsimp only at hg hS ⊢
 have g0 : w.cell? ⟨g, 0, none⟩ = some (pv m) := cell_obj hg 0
 have HS := Lib.hid hS
 clear hg hS
 go_enter Tryz.func26, Tryz.ntmps26
 go_wp2_with fail
 go_ret
 exact ⟨m, rfl, HS.out, rfl⟩
def Newf (f : Fs.FS) (w : World) (e : Ending) (w' : World) : Prop := ∃ g, e = .returned (ptg g) ∧ Fo w' g f ∧ w.heap.size ≤ g ∧ Below w.heap.size w w'
set_option maxHeartbeats 8000000 in
theorem qCopy_any {g : Nat} {f : Fs.FS} {w : World} (h : Fo w g f) : Calls Tryz.prog 30 #[ptg g] w (Newf f w) := by
 obtain ⟨m, hg, hS⟩ := h
 obtain ⟨l, nx⟩ := f
 dsimp only at hg hS ⊢
 have g0 : w.cell? ⟨g, 0, none⟩ = some (pv m) := cell_obj hg 0
 have g1 : w.cell? ⟨g, 1, none⟩ = some (.int .i64 nx) := cell_obj hg 1
 have HS := Lib.hid hS
 clear hg hS
 go_enter Tryz.func30, Tryz.ntmps30
 go_wp2_with fail
 go_ret
 exact ⟨_, rfl, ⟨m, heap_alloc_new _ _, HS.out.below (below_one _ _)⟩, Nat.le_refl _, below_one _ _⟩
set_option maxHeartbeats 8000000 in
theorem qNew_any (w : World) (hD : Dg w) : Calls Tryz.prog 12 #[] w (Newf Fs.new w) := by
 have hS0 : Sv w none [] := ⟨T8.rp_nil w, ⟨List.Pairwise.nil, fun y hy => absurd hy List.not_mem_nil, fun y hy => absurd hy List.not_mem_nil, Nat.zero_le _⟩, hD⟩
 have hRx : Nd.Right less Nm.right (⟨2, 493, ⟨#[]⟩, ⟨#[]⟩, []⟩ : Nd.Node) := (Fs.new_good (E := env)).right (i := 1) rfl
 have HB := Lib.hid (below_one w (.cells #[.pointer none, .int .i64 2] 88))
 have HW := Lib.hid (pWith_any none 2 [] 1 ⟨2, 493, ⟨#[]⟩, ⟨#[]⟩, []⟩ none 0 _ (hS0.below HB.out) (ents_nil _) hRx (by decide) (.inr fun y hy => absurd hy List.not_mem_nil) (Nat.zero_le _))
 clear hS0 hRx
 unfold nv at HW
 dsimp only [List.length_nil] at HW
 have hcell0 : (w.alloc (.cells #[.pointer none, .int .i64 2] 88)).cell? ⟨w.heap.size, 0, none⟩ = some (.pointer none) := World.cell?_alloc_new _ _ _ _
 have hcell1 : (w.alloc (.cells #[.pointer none, .int .i64 2] 88)).cell? ⟨w.heap.size, 1, none⟩ = some (.int .i64 2) := World.cell?_alloc_new _ _ _ _
 go_enter Tryz.func12, Tryz.ntmps12
 go_wp2_with fail
 refine HW.out.mono ?_
 rintro e w2 ⟨m2, rfl, hS, hb⟩
 have HS := Lib.hid hS
 have HB2 := Lib.hid (HB.out.trans (hb.mono HB.out.size))
 clear hS hb hcell0 hcell1
 dsimp only
 go_wp2_with fail
 go_ret
 exact ⟨_, rfl, ⟨m2, heap_alloc_new _ _, HS.out.below (below_one _ _)⟩, HB2.out.size, HB2.out.trans ((below_one _ _).mono HB2.out.size)⟩
set_option maxHeartbeats 8000000 in
theorem qRead_any {g : Nat} {f : Fs.FS} {w : World} (h : Fo w g f) (G : Fs.Half env f) (p : ByteArray) (off n : Int) (hp : p.size ≤ 140737488355328) (ho : off ≤ 9223372036854775807) (hn : n ≤ 9223372036854775807) : Calls Tryz.prog 21 #[ptg g, .string p, .int .i64 off, .int .i64 n] w (Both (readR f.l p off n) w) := by
 obtain ⟨m, hg, hS⟩ := h
 obtain ⟨l, nx⟩ := f
 dsimp only at hg hS ⊢
 have HF := Lib.hid (pFile_any m nx l p w hS hp (fun i x hx => kinds_of G hx))
 have hds : (fileR l p).2.1.data.size ≤ 4096 := by
  unfold fileR
  split
  ·rename_i h1
   rcases find_cases2 l p with ⟨e, hne, hf⟩ | ⟨ns, j, hs, hw, hf⟩
   ·rw [hf]; exact Nat.zero_le _
   ·rw [hf] at h1; exact absurd rfl h1
  ·rename_i h1
   split
   ·decide
   ·split
    ·decide
    ·rcases find_cases2 l p with ⟨e, hne, hf⟩ | ⟨ns, j, hs, hw, hf⟩
     ·rw [hf]; exact Nat.zero_le _
     ·rw [hf]
      obtain ⟨y, hy, hyD⟩ := G.walk_node hw
      show (Fs.nodeD l j).data.size ≤ 4096
      rw [hyD]
      exact data_size (G.right hy)
 have HR := Lib.hid (show readR l p off n = if (fileR l p).2.2 ≠ 0 then ([], (fileR l p).2.2) else getR (fileR l p).2.1.data.data.toList off n from rfl)
 obtain ⟨⟨i, ⟨k, mo, d, t, es⟩, code⟩, hr⟩ : ∃ r, fileR l p = r := ⟨_, rfl⟩
 rw [hr] at HF HR hds
 dsimp only at HF HR hds
 have HGt := Lib.hid (fun W => get_any d off n W (Nat.le_trans hds (by decide)) ho hn)
 have g0 : w.cell? ⟨g, 0, none⟩ = some (pv m) := cell_obj hg 0
 have g1 : w.cell? ⟨g, 1, none⟩ = some (.int .i64 nx) := cell_obj hg 1
 clear hg hS hr G ho hn hds
 by_cases hc : code = 0
 ·subst hc
  have HR2 := Lib.hid (show readR l p off n = getR d.data.toList off n by rw [HR.out, if_neg (by simp)])
  clear HR
  go_enter Tryz.func21, Tryz.ntmps21
  go_wp2_with fail
  refine HF.out.mono ?_
  rintro e w1 ⟨ea, ec, rfl, -, hb⟩
  have HB := Lib.hid (hb.trans ((below_one w1 (.cells #[.int .i64 k, .int .i64 mo, .string d, .string t, .slice ea es.length ec] 43)).mono hb.size))
  clear hb g0 g1
  dsimp only
  go_wp2_with fail
  refine (HGt.out _).mono ?_
  rintro e w2 ⟨rfl, hb2⟩
  have HB2 := Lib.hid (HB.out.trans (hb2.mono HB.out.size))
  clear hb2
  dsimp only
  go_wp2_with fail
  go_ret2
  show Both (readR l p off n) w _ _
  rw [HR2.out]
  exact ⟨rfl, HB2.out⟩
 ·have HR2 := Lib.hid (show readR l p off n = ([], code) by rw [HR.out, if_pos hc])
  clear HR
  go_enter Tryz.func21, Tryz.ntmps21
  go_wp2_with fail
  refine HF.out.mono ?_
  rintro e w1 ⟨ea, ec, rfl, -, hb⟩
  have HB := Lib.hid (hb.trans ((below_one w1 (.cells #[.int .i64 k, .int .i64 mo, .string d, .string t, .slice ea es.length ec] 43)).mono hb.size))
  clear hb g0 g1
  dsimp only
  go_wp2_with fail
  go_ret2
  show Both (readR l p off n) w _ _
  rw [HR2.out]
  exact ⟨rfl, HB.out⟩
def nmf (l : List Fs.Item) : ByteArray := nm (cn (Fs.kv l))
theorem qName_any {m : Option Nat} {l : List Fs.Item} {w : World} (h : Sv w m l) : Calls Tryz.prog 27 #[pv m] w fun e w' => e = .returned (.string (nmf l)) ∧ Below w.heap.size w w' := mname_any h.rp
theorem qLen_any {m : Option Nat} {l : List Fs.Item} {w : World} (h : Sv w m l) : Calls Tryz.prog 40 #[pv m] w fun e w' => e = .returned (.int .i64 (l.length : Int)) ∧ Below w.heap.size w w' := by
 have := mlen_any h.rp
 rwa [Fs.kv_len] at this
end Go.Proofs.YthehblmjloohiaaGreatDoor
