/- Layer 11, a part of the proofs: no statement of its own. -/
import Derived.Test.YthehblmjloohiaaGreatDoorM36
namespace Go.Proofs.YthehblmjloohiaaGreatDoor
set_option maxRecDepth 100000
open Go.RowKit Go.Less Go.Maps
open T8 (pv Dg Rp Pr)
attribute [local go_sem 9000] sem_eql sem_neq
theorem turn_cell {g : Nat} {w W : World} (h : Turn g w W) {k o : Nat} {v : Value} (hc : w.cell? ⟨k, o, none⟩ = some v) (hk : k ≠ g) : W.cell? ⟨k, o, none⟩ = some v :=
 (World.cell?_of_block (h.block k (block_lt_of_cell hc) hk)).trans hc
theorem not_map {w : World} {k o : Nat} {v : Value} (hc : w.cell? ⟨k, o, none⟩ = some v) {es : Array MapEntry} {c : Nat} (hm : w.heap[k]? = some (.map es c)) : False := by
 unfold World.cell? at hc
 rw [hm] at hc
 cases hc
theorem turn_ints {b : Nat} {w W : World} (h : Turn b w W) (hm : ∃ es c, w.heap[b]? = some (.map es c)) {a : Option Addr} {n : Nat} {l : List Int} (hs : Ints a n l w) : Ints a n l W := by
 obtain ⟨es, c, hm⟩ := hm
 refine ⟨hs.count, fun i hi => ?_⟩
 obtain ⟨k, off, rfl, hc⟩ := hs.cell i hi
 have hk : k ≠ b := by rintro rfl; exact not_map hc hm
 exact ⟨k, off, rfl, turn_cell h hc hk⟩
theorem turn_ents {b : Nat} {w W : World} (h : Turn b w W) (hm : ∃ es c, w.heap[b]? = some (.map es c)) {a : Option Addr} {n : Nat} {l : List En} (hs : Ents a n l w) : Ents a n l W := by
 obtain ⟨es, c, hm⟩ := hm
 refine ⟨hs.count, fun i hi => ?_⟩
 obtain ⟨k, off, rfl, hc, hd⟩ := hs.cell i hi
 have hk : k ≠ b := by rintro rfl; exact not_map hc hm
 exact ⟨k, off, rfl, turn_cell h hc hk, turn_cell h hd hk⟩
theorem Cmap.isMap {w : World} {b : Nat} {E : List En} (h : Cmap w b E) : ∃ es c, w.heap[b]? = some (.map es c) := by
 obtain ⟨n, f, ⟨D, ⟨es, c, hb, _⟩, _⟩, _⟩ := h; exact ⟨es, c, hb⟩
def allE (l : List Fs.Item) : List En := (l.map fun y => y.2.ents).flatten
theorem allE_take {l : List Fs.Item} {k : Nat} {y : Fs.Item} (h : l[k]? = some y) : allE (l.take (k + 1)) = allE (l.take k) ++ y.2.ents := by
 unfold allE
 rw [take_succ_some h, List.map_append, List.flatten_append]
 simp
theorem allE_mem {l : List Fs.Item} {y : Fs.Item} (hy : y ∈ l) {e : En} (he : e ∈ y.2.ents) : e ∈ allE l := List.mem_flatten.2 ⟨_, List.mem_map.2 ⟨y, hy, rfl⟩, he⟩
theorem allE_len {l : List Fs.Item} (h : ∀ y ∈ l, y.2.ents.length ≤ 64) : (allE l).length ≤ 64 * l.length := by
 induction l with
 | nil => simp [allE]
 | cons y l ih =>
  have h1 := h y List.mem_cons_self
  have h2 := ih fun z hz => h z (List.mem_cons_of_mem _ hz)
  have e : allE (y :: l) = y.2.ents ++ allE l := rfl
  rw [e, List.length_append, List.length_cons]
  omega
def areB (l : List Fs.Item) : Bool := (allE l).all (fun e => (Fs.node l e.2).isSome) && (inosL l).all fun i => mayB i (Fs.nodeD l i).kind (cnt (allE l) i : Nat)
theorem areB_false {l : List Fs.Item} {e : En} (he : e ∈ allE l) (hn : (Fs.node l e.2).isSome = false) : areB l = false := by
 unfold areB
 rw [List.all_eq_false.2 ⟨e, he, by rw [hn]; decide⟩, Bool.false_and]
theorem areB_all {l : List Fs.Item} (h : ∀ e ∈ allE l, (Fs.node l e.2).isSome = true) : areB l = !(inosL l).any fun i => !mayB i (Fs.nodeD l i).kind (cnt (allE l) i : Nat) := by
 unfold areB
 rw [List.all_eq_true.2 h, Bool.true_and, List.not_any_eq_all_not]
 congr 1
 funext i
 rw [Bool.not_not]
structure Sd (w W3 : World) (nb : Nat) (E : List En) (wr : World) : Prop where
 below : Below w.heap.size w wr
 turn : Turn nb W3 wr
 cm : Cmap wr nb E
theorem Sd.kept {w W3 wr wr' : World} {nb : Nat} {E : List En} (h : Sd w W3 nb E wr) (hb : Below wr.heap.size wr wr') : Sd w W3 nb E wr' :=
 ⟨h.below.trans (hb.mono h.below.size), h.turn.below hb, h.cm.below hb⟩
theorem Sd.store {w W3 wr : World} {nb : Nat} {E : List En} (h : Sd w W3 nb E wr) (hnb : w.heap.size ≤ nb) (hE : E.length < 1000000) (e : En) (hi : (ik e.2).wf = true) :
  ∃ w', (Instr.mapUpdate 164 (.map (some nb)) (.int .i64 e.2) (.int .i64 ((cnt E e.2 : Nat) + 1))).run Tryz.prog wr = .ok () w' ∧ Sd w W3 nb (E ++ [e]) w' ∧ Turn nb wr w' := by
 obtain ⟨w', hr, hC, ht⟩ := h.cm.store hE e hi
 exact ⟨w', hr, ⟨below_turned h.below ht hnb, h.turn.turned ht, hC⟩, (Turn.refl nb wr).turned ht⟩
set_option maxHeartbeats 8000000 in
theorem areNamed_any (mb : Nat) (l : List Fs.Item) (w : World) (hM : Nmap w mb l) (hr : Fs.Rising l) (hwf : ∀ y ∈ l, (ik y.1).wf = true) (hl : l.length ≤ 1000) (hel : ∀ y ∈ l, y.2.ents.length ≤ 64) (hew : ∀ e ∈ allE l, (ik e.2).wf = true) :
  Calls Tryz.prog 70 #[.map (some mb)] w fun e w' => e = .returned (.bool (areB l)) ∧ Below w.heap.size w w' := by
 have hmm := @run_makeMap Tryz.prog
 have hfd := field43_4
 have HNm := Lib.hid (fun W (hb : Below w.heap.size w W) => hM.below hb)
 have hB0 := below_one w (.cells #[.map (some mb)] 126)
 have HSo := Lib.hid (sorted_any (hM.below hB0) hr hwf hl)
 have HKe := Lib.hid (fun W => keys109_any (some mb) W)
 have hc0 : (w.alloc (.cells #[.map (some mb)] 126)).cell? ⟨w.heap.size, 0, none⟩ = some (.map (some mb)) := World.cell?_alloc_new _ _ _ _
 have HB0 := Lib.hid hB0
 have HC0 := Lib.hid hc0
 have HRi := Lib.hid hr
 have HEl := Lib.hid hel
 have HEw := Lib.hid hew
 have HWf := Lib.hid hwf
 have hall := allE_len hel
 clear hM hr hwf hel hew hB0
 go_enter Tryz.func70, Tryz.ntmps70
 go_wp2_with fail
 generalize w.alloc (.cells #[.map (some mb)] 126) = W0 at HB0 HC0 HSo hc0 ⊢
 refine (HKe.out W0).mono ?_
 rintro e w1 ⟨rfl, rfl⟩
 dsimp only
 clear hc0
 go_wp2_with fail
 refine HSo.out.mono ?_
 rintro e w2 ⟨ao, cap, rfl, hI, hb2⟩
 have hb02 : Below W0.heap.size W0 w2 := (below_one W0 (.cells #[.map (some mb)] 126)).trans (hb2.mono (below_one W0 (.cells #[.map (some mb)] 126)).size)
 have hw2 : Below w.heap.size w w2 := HB0.out.trans (hb02.mono HB0.out.size)
 have hbm := below_one w2 (.map #[] 0)
 have hbx := below_one (w2.alloc (.map #[] 0)) (.cells #[.map (some w2.heap.size)] 164)
 have hmap : ((w2.alloc (.map #[] 0)).alloc (.cells #[.map (some w2.heap.size)] 164)).heap[w2.heap.size]? = some (.map #[] 0) := (hbx.block _ (by rw [size1]; omega)).trans (heap_alloc_new _ _)
 have hSd : Sd w ((w2.alloc (.map #[] 0)).alloc (.cells #[.map (some w2.heap.size)] 164)) w2.heap.size [] ((w2.alloc (.map #[] 0)).alloc (.cells #[.map (some w2.heap.size)] 164)) :=
  ⟨(hw2.trans (hbm.mono hw2.size)).trans (hbx.mono (Nat.le_trans hw2.size hbm.size)), Turn.refl _ _, (Cmap.made w2).below hbx⟩
 have hc1 : ((w2.alloc (.map #[] 0)).alloc (.cells #[.map (some w2.heap.size)] 164)).cell? ⟨w.heap.size, 0, none⟩ = some (.map (some mb)) := by
  have h1 := (hb02.cell (p := ⟨w.heap.size, 0, none⟩) (block_lt_of_cell HC0.out)).trans HC0.out
  have h2 := (hbm.cell (p := ⟨w.heap.size, 0, none⟩) (block_lt_of_cell h1)).trans h1
  exact (hbx.cell (p := ⟨w.heap.size, 0, none⟩) (block_lt_of_cell h2)).trans h2
 have hc4 : ((w2.alloc (.map #[] 0)).alloc (.cells #[.map (some w2.heap.size)] 164)).cell? ⟨w2.heap.size + 1, 0, none⟩ = some (.map (some w2.heap.size)) := by
  have h := World.cell?_alloc_new (w2.alloc (.map #[] 0)) #[.map (some w2.heap.size)] 164 0
  rw [size1] at h
  exact h
 have hI3 := hI.below (hbm.trans (hbx.mono hbm.size))
 have hne1 : w.heap.size ≠ w2.heap.size := fun e => by rw [e] at hc1; exact not_map hc1 hmap
 have HTc := Lib.hid (fun wr (hT : Turn w2.heap.size ((w2.alloc (.map #[] 0)).alloc (.cells #[.map (some w2.heap.size)] 164)) wr) => (⟨turn_cell hT hc1 hne1, turn_cell hT hc4 (by omega), turn_ints hT ⟨_, _, hmap⟩ hI3⟩ : wr.cell? ⟨w.heap.size, 0, none⟩ = some (.map (some mb)) ∧ wr.cell? ⟨w2.heap.size + 1, 0, none⟩ = some (.map (some w2.heap.size)) ∧ Ints ao l.length (inosL l) wr))
 have HS0 := Lib.hid hSd
 have HLe := Lib.hid hw2.size
 obtain ⟨n, hn⟩ : ∃ n, n = l.length := ⟨_, rfl⟩
 have HN := Lib.hid hn
 rw [← hn] at HTc hl hall ⊢
 have hni : (n : Int) ≤ 1000 := by omega
 clear hI hb2 hb02 hw2 hbm hbx hmap hSd hc1 hc4 hI3 hne1 hn HSo HKe HB0 HC0
 dsimp only
 go_wp2_with fail
 generalize (w2.alloc (.map #[] 0)).alloc (.cells #[.map (some w2.heap.size)] 164) = W3 at HTc HS0 ⊢
 generalize w2.heap.size = nb at HTc HS0 HLe ⊢
 go_loopw [6, 8, 9, 10, 18] (fun _ _ _ _ x18 wr => ∃ k : Nat, k ≤ n ∧ x18 = .int .i64 k ∧ Sd w W3 nb (allE (l.take k)) wr ∧ Hid (∀ e ∈ allE (l.take k), (Fs.node l e.2).isSome = true)) (fun _ _ _ _ x18 _ => n - (intOf x18).toNat)
 case atStart => exact ⟨0, Nat.zero_le _, rfl, HS0.out, fun e he => by cases he⟩
 case round =>
  clear HS0
  obtain ⟨k, hk, rfl, hS, HA⟩ := hrel
  have HS := Lib.hid hS
  clear hS
  by_cases hlt : k < n
  ·have k0 : (k : Int) < (n : Int) := by omega
   have hk0 : (0 : Int) ≤ (k : Int) := by omega
   have hkl : k < l.length := by rw [← HN.out]; exact hlt
   obtain ⟨y, hy⟩ : ∃ y, l[k]? = some y := ⟨_, List.getElem?_eq_getElem hkl⟩
   have hym := List.mem_of_getElem? hy
   obtain ⟨c1, c4, hI⟩ := HTc.out wr HS.out.turn
   obtain ⟨b1, o1, rfl, nc⟩ := hI.cell k hlt
   rw [show (inosL l).getD k 0 = y.1 by unfold inosL; rw [List.getD, List.getElem?_map, hy]; rfl] at nc
   have hnd : Fs.nodeD l y.1 = y.2 := Fs.nodeD_of (Fs.node_at HRi.out hym)
   obtain ⟨a, c, hlk, -, hE⟩ := (HNm.out wr HS.out.below).look (HWf.out y hym)
   rw [hnd] at hlk hE
   have HTk := Lib.hid (allE_take hy)
   have HEm := Lib.hid (fun e he => allE_mem hym (e := e) he)
   have hyl := HEl.out y hym
   obtain ⟨i, xk, xm, xd, xt, xe⟩ := y
   unfold nvx nv at hlk
   dsimp only at nc hlk hE HTk HEm hyl
   have HE := Lib.hid (fun W (hT : Turn nb wr W) => turn_ents hT HS.out.cm.isMap hE)
   have hyi : (xe.length : Int) ≤ 64 := by omega
   clear hI hnd hE hy hym
   go_wp2_with fail
   go_loopw [8, 9, 10, 27] (fun _ _ _ x27 wq => ∃ q : Nat, q ≤ xe.length ∧ x27 = .int .i64 q ∧ Sd w W3 nb (allE (l.take k) ++ xe.take q) wq ∧ Turn nb wr wq ∧ Hid (∀ e ∈ allE (l.take k) ++ xe.take q, (Fs.node l e.2).isSome = true)) (fun _ _ _ x27 _ => xe.length - (intOf x27).toNat)
   case atStart => exact ⟨0, Nat.zero_le _, rfl, by rw [List.take_zero, List.append_nil]; exact HS.out, Turn.refl _ _, by rw [List.take_zero, List.append_nil]; exact HA⟩
   case round =>
    clear nc c1 c4 hlk
    obtain ⟨q, hq, rfl, hS2, hT2, HA2⟩ := hrel
    have HS2 := Lib.hid hS2
    have HT2 := Lib.hid hT2
    clear hS2 hT2
    by_cases hlt2 : q < xe.length
    ·have q0 : (q : Int) < (xe.length : Int) := by omega
     have hq0 : (0 : Int) ≤ (q : Int) := by omega
     have hE := HE.out wr HT2.out
     obtain ⟨b2, o2, rfl, -, -⟩ := hE.cell q hlt2
     obtain ⟨e, he, d0, d1⟩ := ents_at hE hlt2
     have hem := HEm.out e (List.mem_of_getElem? he)
     have hb85 := below_one wr (.cells #[.string e.1, .int .i64 e.2] 85)
     have HS5 := Lib.hid (HS2.out.kept hb85)
     obtain ⟨c1, c4, -⟩ := HTc.out _ HS5.out.turn
     obtain ⟨a2, cc2, -, hlk2, -⟩ := (HNm.out _ HS5.out.below).look (HEw.out e hem)
     have HAf := Lib.hid (fun hn => areB_false hem hn)
     have HQ := Lib.hid (take_succ_some he)
     have HWe := Lib.hid (HEw.out e hem)
     obtain ⟨z, hz⟩ : ∃ z, Fs.nodeD l e.2 = z := ⟨_, rfl⟩
     rw [hz] at hlk2
     obtain ⟨zk, zm, zd, zt, ze⟩ := z
     unfold nvx nv at hlk2
     dsimp only at hlk2
     have hlenE : (allE (l.take k) ++ xe.take q).length < 1000000 := by
      have h1 := allE_len (l := l.take k) fun y hy => HEl.out y (List.mem_of_mem_take hy)
      rw [List.length_take] at h1
      rw [List.length_append, List.length_take]
      omega
     clear hE he hem hz
     cases hth : (Fs.node l e.2).isSome with
     | false =>
      rw [hth] at hlk2
      have HR := Lib.hid (HAf.out hth)
      clear HAf HQ hlenE hb85
      go_wp2_with fail
      go_ret
      rw [HR.out]
      exact ⟨rfl, HS5.out.below.trans ((below_one _ _).mono HS5.out.below.size)⟩
     | true =>
      rw [hth] at hlk2
      have hb43 := below_one (wr.alloc (.cells #[.string e.1, .int .i64 e.2] 85)) (.cells #[.int .i64 zk, .int .i64 zm, .string zd, .string zt, .slice a2 ze.length cc2] 43)
      have hS6 := HS5.out.kept hb43
      obtain ⟨-, c4', -⟩ := HTc.out _ hS6.turn
      have hck := hS6.cm.look HWe.out
      have hwr : IntKind.i64.wrap (((cnt (allE (l.take k) ++ xe.take q) e.2 : Nat) : Int) + 1) = ((cnt (allE (l.take k) ++ xe.take q) e.2 : Nat) : Int) + 1 := IntWalk.i64_in _ (by have := cnt_le (allE (l.take k) ++ xe.take q) e.2; omega)
      obtain ⟨w9, hr9, hS9, hT9⟩ := hS6.store HLe.out hlenE e HWe.out
      have HS9 := Lib.hid hS9
      have HT9 := Lib.hid (((HT2.out.below hb85).below hb43).trans hT9)
      have HA9 := Lib.hid (show ∀ e' ∈ allE (l.take k) ++ xe.take (q + 1), (Fs.node l e'.2).isSome = true from fun e' he' => by
       rw [HQ.out, ← List.append_assoc] at he'
       rcases List.mem_append.1 he' with h | h
       ·exact HA2.out e' h
       ·rw [List.mem_singleton.1 h]; exact hth)
      generalize (cnt (allE (l.take k) ++ xe.take q) e.2 : Nat) = N at hck hwr hr9
      clear hb43 hb85 hS6 hS9 hT9 hlenE HAf hth
      go_wp2_with fail
      go_roundw
      case rel => exact ⟨q + 1, by omega, by go_num, by rw [HQ.out, ← List.append_assoc]; exact HS9.out, HT9.out, HA9⟩
      case measure => simp [intOf]; omega
    ·obtain rfl : q = xe.length := by omega
     have hge : ¬ ((xe.length : Int) < (xe.length : Int)) := by omega
     rw [List.take_length, ← HTk.out] at HS2 HA2
     go_wp2_with fail
     go_roundw
     case rel => exact ⟨k + 1, by omega, by go_num, HS2.out, HA2⟩
     case measure => simp [intOf]; omega
  ·obtain rfl : k = n := by omega
   have hge : ¬ ((k : Int) < (k : Int)) := by omega
   have hA := HA.out
   rw [HN.out, List.take_length] at hA
   have HR := Lib.hid (areB_all hA)
   have hC : Cmap wr nb (allE l) := by have := HS.out.cm; rwa [HN.out, List.take_length] at this
   obtain ⟨c1, c4, hI⟩ := HTc.out wr HS.out.turn
   have eg : ∀ args w, (callFunc 110 args).run Tryz.prog w = .ok (.enter 110 args) w := enters_of Tryz.func110 (by kernel_rfl) rfl
   have H9 := Lib.hid (cofI_any 110 #[.pointer (some ⟨w.heap.size, 0, none⟩), .pointer (some ⟨nb + 1, 0, none⟩)] eg (fun i => !mayB i (Fs.nodeD l i).kind (cnt (allE l) i : Nat)) ao k cap (inosL l) wr hI (by omega) (fun x hx W hW => by
    show Calls Tryz.prog 110 #[.int .i64 x, .pointer (some ⟨w.heap.size, 0, none⟩), .pointer (some ⟨nb + 1, 0, none⟩)] W _
    obtain ⟨y, hy, rfl⟩ := List.mem_map.1 hx
    exact c110_any w.heap.size (nb + 1) mb nb l (allE l) y.1 W ((hW.cell (p := ⟨w.heap.size, 0, none⟩) (block_lt_of_cell c1)).trans c1) ((hW.cell (p := ⟨nb + 1, 0, none⟩) (block_lt_of_cell c4)).trans c4) (HNm.out W (HS.out.below.trans (hW.mono HS.out.below.size))) (hC.below hW) (HWf.out y hy)))
   generalize (inosL l).any (fun i => !mayB i (Fs.nodeD l i).kind (cnt (allE l) i : Nat)) = r at *
   clear hA hC hI c1 c4
   go_wp2_with fail
   refine H9.out.mono ?_
   rintro e w9 ⟨rfl, hb9⟩
   have HB9 := Lib.hid (HS.out.below.trans (hb9.mono HS.out.below.size))
   clear hb9
   dsimp only
   go_wp2_with fail
   go_ret
   rw [HR.out]
   exact ⟨rfl, HB9.out⟩
end Go.Proofs.YthehblmjloohiaaGreatDoor

namespace Go.Proofs.YthehblmjloohiaaGreatDoor
set_option maxRecDepth 100000
open Go.RowKit Go.Less Go.Maps
open T8 (pv Dg Rp Pr)
attribute [local go_sem 9000] sem_eql sem_neq
def ins1 (i : Int) (R : List Int) : List Int := if i ∈ R then R else i :: R
def reachL (l : List Fs.Item) : Nat → Int → List Int → Bool × List Int
 | 0, _, R => (false, R)
 | k + 1, i, R => (Fs.nodeD l i).ents.foldl (fun r e => if r.1 = true then reachL l k e.2 r.2 else r) (true, ins1 i R)
def stepR (l : List Fs.Item) (k : Nat) (r : Bool × List Int) (e : En) : Bool × List Int := if r.1 = true then reachL l k e.2 r.2 else r
theorem reachL_succ (l : List Fs.Item) (k : Nat) (i : Int) (R : List Int) : reachL l (k + 1) i R = (Fs.nodeD l i).ents.foldl (stepR l k) (true, ins1 i R) := rfl
theorem stepR_false (l : List Fs.Item) (k : Nat) (es : List En) (R : List Int) : es.foldl (stepR l k) (false, R) = (false, R) := by
 induction es with
 | nil => rfl
 | cons e es ih => rw [List.foldl_cons]; exact ih
theorem fold_more {l : List Fs.Item} {k : Nat} {es : List En} {q : Nat} {e : En} (h : es[q]? = some e) (r : Bool × List Int) : (es.take (q + 1)).foldl (stepR l k) r = stepR l k ((es.take q).foldl (stepR l k) r) e := by
 rw [take_succ_some h, List.foldl_append]; rfl
theorem fold_cut {l : List Fs.Item} {k : Nat} {es : List En} {q : Nat} {r : Bool × List Int} {R : List Int} (h : (es.take q).foldl (stepR l k) r = (false, R)) : es.foldl (stepR l k) r = (false, R) := by
 conv => lhs; rw [← List.take_append_drop q es]
 rw [List.foldl_append, h, stepR_false]
structure Rok (l : List Fs.Item) (R : List Int) : Prop where
 nodup : R.Nodup
 sub : ∀ x ∈ R, x ∈ inosL l
theorem nodup_len {α : Type} [DecidableEq α] : ∀ {R L : List α}, R.Nodup → (∀ x ∈ R, x ∈ L) → R.length ≤ L.length
 | [], _, _, _ => Nat.zero_le _
 | a :: R, L, h, hs => by
  have h1 := List.nodup_cons.1 h
  have ha := hs a List.mem_cons_self
  have := nodup_len (L := L.erase a) h1.2 fun x hx => by
   have hxa : x ≠ a := by rintro rfl; exact h1.1 hx
   exact (List.mem_erase_of_ne hxa).2 (hs x (List.mem_cons_of_mem _ hx))
  rw [List.length_erase_of_mem ha] at this
  have hp := List.length_pos_of_mem ha
  rw [List.length_cons]
  omega
theorem Rok.len {l : List Fs.Item} {R : List Int} (h : Rok l R) : R.length ≤ l.length := by
 have := nodup_len h.nodup h.sub
 unfold inosL at this
 rwa [List.length_map] at this
theorem Rok.ins {l : List Fs.Item} {R : List Int} (h : Rok l R) {i : Int} (hi : i ∈ inosL l) : Rok l (ins1 i R) := by
 unfold ins1
 split
 ·exact h
 ·rename_i hn
  refine ⟨List.nodup_cons.2 ⟨hn, h.nodup⟩, fun x hx => ?_⟩
  rcases List.mem_cons.1 hx with rfl | hx
  ·exact hi
  ·exact h.sub x hx
theorem reachL_ok {l : List Fs.Item} (hl : ∀ i, ∀ e ∈ (Fs.nodeD l i).ents, e.2 ∈ inosL l) : ∀ (k : Nat) (i : Int) (R : List Int), i ∈ inosL l → Rok l R → Rok l (reachL l k i R).2
 | 0, _, _, _, h => h
 | k + 1, i, R, hi, h => by
  rw [reachL_succ]
  have key : ∀ (es : List En) (r : Bool × List Int), (∀ e ∈ es, e.2 ∈ inosL l) → Rok l r.2 → Rok l (es.foldl (stepR l k) r).2 := by
   intro es
   induction es with
   | nil => exact fun r _ hr => hr
   | cons e es ih =>
    intro r hes hr
    rw [List.foldl_cons]
    refine ih _ (fun x hx => hes x (List.mem_cons_of_mem _ hx)) ?_
    unfold stepR
    split
    ·exact reachL_ok hl k e.2 r.2 (hes e List.mem_cons_self) hr
    ·exact hr
  exact key _ _ (hl i) (h.ins hi)
def Rmap (w : World) (b : Nat) (R : List Int) : Prop := ∃ f, Mz w b R.length f ∧ ∀ i, (f i).isSome = decide (i ∈ R)
theorem Rmap.lt {w : World} {b : Nat} {R : List Int} (h : Rmap w b R) : b < w.heap.size := by obtain ⟨f, h1, _⟩ := h; exact h1.lt
theorem Rmap.below {w w' : World} {b : Nat} {R : List Int} (h : Rmap w b R) (hb : Below w.heap.size w w') : Rmap w' b R := by obtain ⟨f, h1, h2⟩ := h; exact ⟨f, h1.below hb, h2⟩
theorem Rmap.isMap {w : World} {b : Nat} {R : List Int} (h : Rmap w b R) : ∃ es c, w.heap[b]? = some (.map es c) := by
 obtain ⟨f, ⟨D, ⟨es, c, hb, _⟩, _⟩, _⟩ := h; exact ⟨es, c, hb⟩
theorem Rmap.made (w : World) : Rmap (w.alloc (.map #[] 0)) w.heap.size [] := ⟨_, Mz.made w, fun _ => rfl⟩
theorem Rmap.store {w : World} {b : Nat} {R : List Int} (h : Rmap w b R) (hR : R.length ≤ 1000000) {i : Int} (hi : (ik i).wf = true) :
  ∃ w', (Instr.mapUpdate 80 (.map (some b)) (.int .i64 i) (.bool true)).run Tryz.prog w = .ok () w' ∧ Rmap w' b (ins1 i R) ∧ w.mapTurned w' b := by
 obtain ⟨f, h1, h2⟩ := h
 obtain ⟨w', hr, hM, ht⟩ := h1.store Tryz.underlying80 (by unfold maxLen; omega) hi (.bool true)
 refine ⟨w', hr, ⟨upd f i (.bool true), ?_, fun j => ?_⟩, ht⟩
 ·rw [h2 i] at hM
  unfold ins1
  by_cases hm : i ∈ R
  ·rw [if_pos (decide_eq_true hm)] at hM; rw [if_pos hm]; exact hM
  ·rw [if_neg (by simpa using hm)] at hM; rw [if_neg hm]; exact hM
 ·unfold upd ins1
  by_cases hj : j = i
  ·subst hj
   rw [if_pos rfl]
   split
   ·rename_i hm; simp [hm]
   ·simp
  ·rw [if_neg hj, h2 j]
   split
   ·rfl
   ·simp [hj]
theorem Rmap.len {w : World} {b : Nat} {R : List Int} (h : Rmap w b R) : (Builtin.len_ #[80] 3 #[.map (some b)]).run Tryz.prog w = .ok (.int .i64 (R.length : Int)) w := by
 obtain ⟨f, h1, _⟩ := h
 exact h1.len Tryz.underlying80 3
def Reached (r : Bool × List Int) (w0 : World) (rb : Nat) (w : World) (e : Ending) (w' : World) : Prop := e = .returned (.bool r.1) ∧ Rmap w' rb r.2 ∧ Turn rb w w' ∧ Below w0.heap.size w0 w'
set_option maxHeartbeats 8000000 in
theorem reach_any (mb : Nat) (l : List Fs.Item) (w0 : World) (hM : Nmap w0 mb l) (hwf : ∀ y ∈ l, (ik y.1).wf = true) (hl : l.length ≤ 1000) (hel : ∀ i, (Fs.nodeD l i).ents.length ≤ 64) (hin : ∀ i, ∀ e ∈ (Fs.nodeD l i).ents, e.2 ∈ inosL l) :
  ∀ (K : Nat), K ≤ 9 → ∀ (i : Int) (R : List Int) (rb : Nat) (w : World), i ∈ inosL l → Rok l R → Below w0.heap.size w0 w → w0.heap.size ≤ rb → Rmap w rb R →
   Calls Tryz.prog 71 #[.map (some mb), .int .i64 i, .int .i64 (9 - (K : Int)), .map (some rb)] w (Reached (reachL l K i R) w0 rb w) := by
 intro K
 induction K with
 | zero =>
  intro _ i R rb w hi hR hb hrb hm
  have HF := Lib.hid (show Reached (reachL l 0 i R) w0 rb w (.returned (.bool false)) w from ⟨rfl, hm, Turn.refl _ _, hb⟩)
  clear hm hb
  go_enter Tryz.func71, Tryz.ntmps71
  go_wp2_with fail
  go_ret
  exact HF.out
 | succ K ih =>
  intro hK i R rb w hi hR hb hrb hm
  have hwfi : (ik i).wf = true := by
   obtain ⟨y, hy, rfl⟩ := List.mem_map.1 hi
   exact hwf y hy
  have hfd := field43_4
  obtain ⟨w1, hr1, hM1, ht1⟩ := hm.store (Nat.le_trans hR.len (by omega)) hwfi
  have hb1 := below_turned hb ht1 hrb
  have hT1 := (Turn.refl rb w).turned ht1
  obtain ⟨a, c, hlk, -, hE⟩ := (hM.below hb1).look hwfi
  have HEn := Lib.hid (fun W (hT : Turn rb w1 W) => turn_ents hT hM1.isMap hE)
  have hn := hel i
  have HIn := Lib.hid (hin i)
  have hd : (9 : Int) - ((K + 1 : Nat) : Int) = 8 - (K : Int) := by omega
  have hd1 : ¬ (8 : Int) < 8 - (K : Int) := by omega
  have hwr : IntKind.i64.wrap (8 - (K : Int) + 1) = 9 - (K : Int) := by rw [show (8 : Int) - K + 1 = 9 - K by omega]; exact IntWalk.i64_in _ (by omega)
  have HIH := Lib.hid (fun i R W hi hR hb hm => ih (by omega) i R rb W hi hR hb hrb hm)
  have HOk := Lib.hid (fun (k : Nat) (i : Int) (R : List Int) => reachL_ok hin k i R)
  have HR1 := Lib.hid (hR.ins hi)
  have HW1 := Lib.hid hb1
  have HT1 := Lib.hid hT1
  have HM1 := Lib.hid hM1
  have HS := Lib.hid (reachL_succ l K i R)
  rw [hd]
  obtain ⟨x, hx⟩ : ∃ x, Fs.nodeD l i = x := ⟨_, rfl⟩
  rw [hx] at hlk HEn hn HIn HS
  obtain ⟨xk, xm, xd, xt, xe⟩ := x
  unfold nvx nv at hlk
  dsimp only at hlk HEn hn HIn HS
  have hni : (xe.length : Int) ≤ 64 := by omega
  clear hm hb hR hE hb1 hT1 hM1 ht1 hM hwf hel hin ih hx hi hd
  generalize reachL l (K + 1) i R = RR at HS ⊢
  go_enter Tryz.func71, Tryz.ntmps71
  go_wp2_with fail
  go_loopw [10, 20] (fun _ x20 wr => ∃ (q : Nat) (R' : List Int), q ≤ xe.length ∧ x20 = .int .i64 q ∧ Hid ((xe.take q).foldl (stepR l K) (true, ins1 i R) = (true, R')) ∧ Rok l R' ∧ Rmap wr rb R' ∧ Turn rb w wr ∧ Turn rb w1 wr ∧ Below w0.heap.size w0 wr) (fun _ x20 _ => xe.length - (intOf x20).toNat)
  case atStart => exact ⟨0, _, Nat.zero_le _, rfl, rfl, HR1.out, HM1.out, HT1.out, Turn.refl _ _, HW1.out⟩
  case round =>
   clear HM1 HT1 HW1 HR1 hlk hr1
   obtain ⟨q, R', hq, rfl, HFo, hR', hM', hT', hT1', hW'⟩ := hrel
   have HR' := Lib.hid hR'
   have HM' := Lib.hid hM'
   have HT' := Lib.hid hT'
   have HT1' := Lib.hid hT1'
   have HW' := Lib.hid hW'
   clear hR' hM' hT' hT1' hW'
   by_cases hlt : q < xe.length
   ·have q0 : (q : Int) < (xe.length : Int) := by omega
    have hq0 : (0 : Int) ≤ (q : Int) := by omega
    have hE := HEn.out wr HT1'.out
    obtain ⟨b2, o2, rfl, -, -⟩ := hE.cell q hlt
    obtain ⟨e, he, d0, d1⟩ := ents_at hE hlt
    have hei := HIn.out e (List.mem_of_getElem? he)
    have hb85 := below_one wr (.cells #[.string e.1, .int .i64 e.2] 85)
    have HC := Lib.hid (HIH.out e.2 R' _ hei HR'.out (HW'.out.trans (hb85.mono HW'.out.size)) (HM'.out.below hb85))
    have HOe := Lib.hid (HOk.out K e.2 R' hei HR'.out)
    have HFm := Lib.hid (show (xe.take (q + 1)).foldl (stepR l K) (true, ins1 i R) = reachL l K e.2 R' by rw [fold_more he, HFo.out]; rfl)
    have HTb := Lib.hid (HT'.out.below hb85)
    have HTc := Lib.hid (HT1'.out.below hb85)
    clear hE he hei hb85
    unfold Reached at HC
    cases hrr : reachL l K e.2 R' with
    | mk rr R2 =>
     rw [hrr] at HC HOe HFm
     dsimp only at HC HOe
     cases rr with
     | false =>
      have HR := Lib.hid (HS.out.trans (fold_cut HFm.out))
      clear HFm HS
      go_wp2_with fail
      refine HC.out.mono ?_
      rintro e5 w5 ⟨rfl, hm5, ht5, hb5⟩
      have HF := Lib.hid (show Reached RR w0 rb w (.returned (.bool false)) w5 by rw [HR.out]; exact ⟨rfl, hm5, HTb.out.trans ht5, hb5⟩)
      clear hm5 ht5 hb5 d0 d1
      dsimp only
      go_wp2_with fail
      go_ret
      exact HF.out
     | true =>
      go_wp2_with fail
      refine HC.out.mono ?_
      rintro e5 w5 ⟨rfl, hm5, ht5, hb5⟩
      have HX := Lib.hid (And.intro hm5 (And.intro (HTb.out.trans ht5) (And.intro (HTc.out.trans ht5) hb5)))
      clear hm5 ht5 hb5 d0 d1
      dsimp only
      go_wp2_with fail
      go_roundw
      case rel => exact ⟨q + 1, R2, by omega, by go_num, HFm.out, HOe.out, HX.out.1, HX.out.2.1, HX.out.2.2.1, HX.out.2.2.2⟩
      case measure => simp [intOf]; omega
   ·obtain rfl : q = xe.length := by omega
    have hge : ¬ ((xe.length : Int) < (xe.length : Int)) := by omega
    have hfo := HFo.out
    rw [List.take_length] at hfo
    have HF := Lib.hid (show Reached RR w0 rb w (.returned (.bool true)) wr by rw [HS.out, hfo]; exact ⟨rfl, HM'.out, HT'.out, HW'.out⟩)
    clear hfo
    go_wp2_with fail
    go_ret
    exact HF.out
end Go.Proofs.YthehblmjloohiaaGreatDoor
