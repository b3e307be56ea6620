/- A part of the proofs. -/
import Derived.Test.YthbajmlmjjfgpaaGreatDoorC24
set_option maxRecDepth 1000000
set_option maxHeartbeats 16000000
open Go.Lib (hid)
open Go.Proofs.Tryz
namespace Go.Proofs.YthbajmlmjjfgpaaGreatDoor
open Go.RowKit Go.Less Go.Maps
open T8 (pv Dg Rp Pr)
attribute [local go_sem 9000] sem_eql sem_neq
def ins1 (i : Int) (R : List Int) : List Int := if i ∈ R then R else i :: R
def reachL (l : List Fs.Item) : Nat -> Int -> List Int -> Bool × List Int
 | 0, _, R => (false, R)
 | k + 1, i, R => (Fs.nodeD l i).ents.foldl (λr e => if r.1 = true then reachL l k e.2 r.2 else r) (true, ins1 i R)
def stepR (l : List Fs.Item) (k : Nat) (r : Bool × List Int) (e : En) : Bool × List Int := if r.1 = true then reachL l k e.2 r.2 else r
theorem reachL_succ (l : List Fs.Item) (k : Nat) (i : Int) (R : List Int) : reachL l (k + 1) i R = (Fs.nodeD l i).ents.foldl (stepR l k) (true, ins1 i R) := rfl
theorem stepR_false (l : List Fs.Item) (k : Nat) (es : List En) (R : List Int) : es.foldl (stepR l k) (false, R) = (false, R) := by
 induction es with
 | nil => rfl
 | cons e es ih => rw [List.foldl_cons]; exact ih
theorem fold_more {l : List Fs.Item} {k : Nat} {es : List En} {q : Nat} {e : En} (h : es[q]? = some e) (r : Bool × List Int) : (es.take (q + 1)).foldl (stepR l k) r = stepR l k ((es.take q).foldl (stepR l k) r) e := by
 rw [take_succ_some h, List.foldl_append]; rfl
theorem fold_cut {l : List Fs.Item} {k : Nat} {es : List En} {q : Nat} {r : Bool × List Int} {R : List Int} (h : (es.take q).foldl (stepR l k) r = (false, R)) : es.foldl (stepR l k) r = (false, R) := by
 conv => lhs; rw [<- List.take_append_drop q es]
 rw [List.foldl_append, h, stepR_false]
structure Rok (l : List Fs.Item) (R : List Int) : Prop where
 nodup : R.Nodup
 sub : ∀ x ∈ R, x ∈ inosL l
theorem nodup_len {α : Type} [DecidableEq α] : ∀ {R L : List α}, R.Nodup -> (∀ x ∈ R, x ∈ L) -> R.length <= L.length
 | [], _, _, _ => Nat.zero_le _
 | a :: R, L, h, hs => by
  have h1 := List.nodup_cons.1 h
  have ha := hs a List.mem_cons_self
  have := nodup_len (L := L.erase a) h1.2 λx hx => by
   have hxa : x ≠ a := by rintro rfl; exact h1.1 hx
   exact (List.mem_erase_of_ne hxa).2 (hs x (List.mem_cons_of_mem _ hx))
  rw [List.length_erase_of_mem ha] at this
  have hp := List.length_pos_of_mem ha
  rw [List.length_cons]
  omega
theorem Rok.len {l : List Fs.Item} {R : List Int} (h : Rok l R) : R.length <= l.length := by
 have := nodup_len h.nodup h.sub
 unfold inosL at this
 rwa [List.length_map] at this
theorem Rok.ins {l : List Fs.Item} {R : List Int} (h : Rok l R) {i : Int} (hi : i ∈ inosL l) : Rok l (ins1 i R) := by
 unfold ins1
 split
 ·exact h
 ·rename_i hn
  refine ⟨List.nodup_cons.2 ⟨hn, h.nodup⟩, λx hx => ?_⟩
  rcases List.mem_cons.1 hx with rfl | hx
  ·exact hi
  ·exact h.sub x hx
theorem reachL_ok {l : List Fs.Item} (hl : ∀ i, ∀ e ∈ (Fs.nodeD l i).ents, e.2 ∈ inosL l) : ∀ (k : Nat) (i : Int) (R : List Int), i ∈ inosL l -> Rok l R -> Rok l (reachL l k i R).2
 | 0, _, _, _, h => h
 | k + 1, i, R, hi, h => by
  rw [reachL_succ]
  have key : ∀ (es : List En) (r : Bool × List Int), (∀ e ∈ es, e.2 ∈ inosL l) -> Rok l r.2 -> Rok l (es.foldl (stepR l k) r).2 := by
   intro es
   induction es with
   | nil => exact λr _ hr => hr
   | cons e es ih =>
    intro r hes hr
    rw [List.foldl_cons]
    refine ih _ (λx hx => hes x (List.mem_cons_of_mem _ hx)) ?_
    unfold stepR
    split
    ·exact reachL_ok hl k e.2 r.2 (hes e List.mem_cons_self) hr
    ·exact hr
  exact key _ _ (hl i) (h.ins hi)
def Rmap (w : World) (b : Nat) (R : List Int) : Prop := ∃ f, Mz w b R.length f /\ ∀ i, (f i).isSome = decide (i ∈ R)
theorem Rmap.lt {w : World} {b : Nat} {R : List Int} (h : Rmap w b R) : b < w.heap.size := by obtain ⟨f, h1, _⟩ := h; exact h1.lt
theorem Rmap.below {w w' : World} {b : Nat} {R : List Int} (h : Rmap w b R) (hb : Below w.heap.size w w') : Rmap w' b R := by obtain ⟨f, h1, h2⟩ := h; exact ⟨f, h1.below hb, h2⟩
theorem Rmap.isMap {w : World} {b : Nat} {R : List Int} (h : Rmap w b R) : ∃ es c, w.heap[b]? = some (.map es c) := by
 obtain ⟨f, ⟨D, ⟨es, c, hb, _⟩, _⟩, _⟩ := h; exact ⟨es, c, hb⟩
theorem Rmap.made (w : World) : Rmap (w.alloc (.map #[] 0)) w.heap.size [] := ⟨_, Mz.made w, λ_ => rfl⟩
theorem Rmap.store {w : World} {b : Nat} {R : List Int} (h : Rmap w b R) (hR : R.length <= 1000000) {i : Int} (hi : (ik i).wf = true) :
  ∃ w', (Instr.mapUpdate 147 (.map (some b)) (.int .i64 i) (.bool true)).run prog w = .ok () w' /\ Rmap w' b (ins1 i R) /\ w.mapTurned w' b := by
 obtain ⟨f, h1, h2⟩ := h
 obtain ⟨w', hr, hM, ht⟩ := h1.store underlying147 (by unfold maxLen; omega) hi (.bool true)
 refine ⟨w', hr, ⟨upd f i (.bool true), ?_, λj => ?_⟩, ht⟩
 ·rw [h2 i] at hM
  unfold ins1
  by_cases hm : i ∈ R
  ·rw [if_pos (decide_eq_true hm)] at hM; rw [if_pos hm]; exact hM
  ·rw [if_neg (by simpa using hm)] at hM; rw [if_neg hm]; exact hM
 ·unfold upd ins1
  by_cases hj : j = i
  ·subst hj
   rw [if_pos rfl]
   split
   ·rename_i hm; simp [hm]
   ·simp
  ·rw [if_neg hj, h2 j]
   split
   ·rfl
   ·simp [hj]
theorem Rmap.len {w : World} {b : Nat} {R : List Int} (h : Rmap w b R) : (Builtin.len_ #[147] 3 #[.map (some b)]).run prog w = .ok (.int .i64 (R.length : Int)) w := by
 obtain ⟨f, h1, _⟩ := h
 exact h1.len underlying147 3
def Reached (r : Bool × List Int) (w0 : World) (rb : Nat) (w : World) (e : Ending) (w' : World) : Prop := e = .returned (.bool r.1) /\ Rmap w' rb r.2 /\ Turn rb w w' /\ Below w0.heap.size w0 w'
theorem reach_any (mb : Nat) (l : List Fs.Item) (w0 : World) (hM : Nmap w0 mb l) (hwf : ∀ y ∈ l, (ik y.1).wf = true) (hl : l.length <= 1000) (hel : ∀ i, (Fs.nodeD l i).ents.length <= 64) (hin : ∀ i, ∀ e ∈ (Fs.nodeD l i).ents, e.2 ∈ inosL l) :
  ∀ (K : Nat), K <= 9 -> ∀ (i : Int) (R : List Int) (rb : Nat) (w : World), i ∈ inosL l -> Rok l R -> Below w0.heap.size w0 w -> w0.heap.size <= rb -> Rmap w rb R ->
   Calls prog 150 #[.map (some mb), .int .i64 i, .int .i64 (9 - (K : Int)), .map (some rb)] w (Reached (reachL l K i R) w0 rb w) := by
 intro K
 induction K with
 | zero =>
  intro _ i R rb w hi hR hb hrb hm
  have HF := hid (show Reached (reachL l 0 i R) w0 rb w (.returned (.bool false)) w from ⟨rfl, hm, Turn.refl _ _, hb⟩)
  clear hm hb
  go_enter func150, ntmps150
  go_wp2_with fail
  go_ret
  exact HF.out
 | succ K ih =>
  intro hK i R rb w hi hR hb hrb hm
  have hwfi : (ik i).wf = true := by
   obtain ⟨y, hy, rfl⟩ := List.mem_map.1 hi
   exact hwf y hy
  have hfd := field43_4
  obtain ⟨w1, hr1, hM1, ht1⟩ := hm.store (Nat.le_trans hR.len (by omega)) hwfi
  have hb1 := below_turned hb ht1 hrb
  have hT1 := (Turn.refl rb w).turned ht1
  obtain ⟨a, c, hlk, -, hE⟩ := (hM.below hb1).look hwfi
  have HEn := hid (λW (hT : Turn rb w1 W) => turn_ents hT hM1.isMap hE)
  have hn := hel i
  have HIn := hid (hin i)
  have hd : (9 : Int) - ((K + 1 : Nat) : Int) = 8 - (K : Int) := by omega
  have hd1 : ¬ (8 : Int) < 8 - (K : Int) := by omega
  have hwr : IntKind.i64.wrap (8 - (K : Int) + 1) = 9 - (K : Int) := by rw [show (8 : Int) - K + 1 = 9 - K by omega]; exact IntWalk.i64_in _ (by omega)
  have HIH := hid (λi R W hi hR hb hm => ih (by omega) i R rb W hi hR hb hrb hm)
  have HOk := hid (λ(k : Nat) (i : Int) (R : List Int) => reachL_ok hin k i R)
  have HR1 := hid (hR.ins hi)
  have HW1 := hid hb1
  have HT1 := hid hT1
  have HM1 := hid hM1
  have HS := hid (reachL_succ l K i R)
  rw [hd]
  obtain ⟨x, hx⟩ : ∃ x, Fs.nodeD l i = x := ⟨_, rfl⟩
  rw [hx] at hlk HEn hn HIn HS
  obtain ⟨xk, xm, xd, xt, xe⟩ := x
  unfold nvx nv at hlk
  dsimp only at hlk HEn hn HIn HS
  clear hm hb hR hE hb1 hT1 hM1 ht1 hM hwf hel hin ih hx hi hd
  generalize reachL l (K + 1) i R = RR at HS |-
  go_enter func150, ntmps150
  go_wp2_with fail
  go_loopw [10, 20] (λ_ x20 wr => ∃ (q : Nat) (R' : List Int), q <= xe.length /\ x20 = .int .i64 q /\ Hid ((xe.take q).foldl (stepR l K) (true, ins1 i R) = (true, R')) /\ Rok l R' /\ Rmap wr rb R' /\ Turn rb w wr /\ Turn rb w1 wr /\ Below w0.heap.size w0 wr) (λ_ x20 _ => xe.length - (intOf x20).toNat)
  case atStart => exact ⟨0, _, Nat.zero_le _, rfl, rfl, HR1.out, HM1.out, HT1.out, Turn.refl _ _, HW1.out⟩
  case round =>
   clear HM1 HT1 HW1 HR1 hlk hr1
   obtain ⟨q, R', hq, rfl, HFo, hR', hM', hT', hT1', hW'⟩ := hrel
   have HR' := hid hR'
   have HM' := hid hM'
   have HT' := hid hT'
   have HT1' := hid hT1'
   have HW' := hid hW'
   clear hR' hM' hT' hT1' hW'
   by_cases hlt : q < xe.length
   ·have q0 : (q : Int) < (xe.length : Int) := by omega
    have hq0 : (0 : Int) <= (q : Int) := by omega
    have hE := HEn.out wr HT1'.out
    obtain ⟨b2, o2, rfl, -, -⟩ := hE.cell q hlt
    obtain ⟨e, he, d0, d1⟩ := ents_at hE hlt
    have hei := HIn.out e (List.mem_of_getElem? he)
    have hb85 := below_one wr (.cells #[.string e.1, .int .i64 e.2] 146)
    have HC := hid (HIH.out e.2 R' _ hei HR'.out (HW'.out.trans (hb85.mono HW'.out.size)) (HM'.out.below hb85))
    have HOe := hid (HOk.out K e.2 R' hei HR'.out)
    have HFm := hid (show (xe.take (q + 1)).foldl (stepR l K) (true, ins1 i R) = reachL l K e.2 R' by rw [fold_more he, HFo.out]; rfl)
    have HTb := hid (HT'.out.below hb85)
    have HTc := hid (HT1'.out.below hb85)
    clear hE he hei hb85
    unfold Reached at HC
    cases hrr : reachL l K e.2 R' with
    | mk rr R2 =>
     rw [hrr] at HC HOe HFm
     dsimp only at HC HOe
     cases rr with
     | false =>
      have HR := hid (HS.out.trans (fold_cut HFm.out))
      clear HFm HS
      go_wp2_with fail
      refine HC.out.mono ?_
      rintro e5 w5 ⟨rfl, hm5, ht5, hb5⟩
      have HF := hid (show Reached RR w0 rb w (.returned (.bool false)) w5 by rw [HR.out]; exact ⟨rfl, hm5, HTb.out.trans ht5, hb5⟩)
      clear hm5 ht5 hb5 d0 d1
      dsimp only
      go_wp2_with fail
      go_ret
      exact HF.out
     | true =>
      go_wp2_with fail
      refine HC.out.mono ?_
      rintro e5 w5 ⟨rfl, hm5, ht5, hb5⟩
      have HX := hid (And.intro hm5 (And.intro (HTb.out.trans ht5) (And.intro (HTc.out.trans ht5) hb5)))
      clear hm5 ht5 hb5 d0 d1
      dsimp only
      go_wp2_with fail
      go_roundw
      case rel => exact ⟨q + 1, R2, by omega, by go_num, HFm.out, HOe.out, HX.out.1, HX.out.2.1, HX.out.2.2.1, HX.out.2.2.2⟩
      case measure => simp [intOf]; omega
   ·obtain rfl : q = xe.length := by omega
    have hge : ¬ ((xe.length : Int) < (xe.length : Int)) := by omega
    have hfo := HFo.out
    rw [List.take_length] at hfo
    have HF := hid (show Reached RR w0 rb w (.returned (.bool true)) wr by rw [HS.out, hfo]; exact ⟨rfl, HM'.out, HT'.out, HW'.out⟩)
    clear hfo
    go_wp2_with fail
    go_ret
    exact HF.out
end Go.Proofs.YthbajmlmjjfgpaaGreatDoor
namespace Go.Proofs.YthbajmlmjjfgpaaGreatDoor
open Go.RowKit Go.Less Go.Maps
open T8 (pv Dg Rp Pr mlen_any)
attribute [local go_sem 9000] sem_eql sem_neq
def soundL (l : List Fs.Item) : Bool := decide (l.length <= 256) && (decide ((Fs.nodeD l 1).kind = 2) && (areB l && ((reachL l 9 1 []).1 && decide ((reachL l 9 1 []).2.length = l.length))))
theorem okp_right {p : Pr} (h : okp p) : Nd.Right less Nm.right (itm p).2 := (parseR_right (x := (parseR p.2.data.toList).1) (by rw [<- h.2])).1
theorem nodeD_few {l : List Fs.Item} (h : ∀ y ∈ l, Nd.Right less Nm.right y.2) (i : Int) : (Fs.nodeD l i).ents.length <= 64 := by
 unfold Fs.nodeD
 cases hn : Fs.node l i with
 | none => exact Nat.zero_le _
 | some x => exact (h _ (Fs.node_mem hn)).len
theorem nodeD_in {l : List Fs.Item} {i : Int} {e : En} (he : e ∈ (Fs.nodeD l i).ents) : e ∈ allE l := by
 unfold Fs.nodeD at he
 cases hn : Fs.node l i with
 | none => rw [hn] at he; cases he
 | some x => rw [hn] at he; exact allE_mem (Fs.node_mem hn) he
theorem areB_in {l : List Fs.Item} (h : areB l = true) {e : En} (he : e ∈ allE l) : e.2 ∈ inosL l := by
 unfold areB at h
 rw [Bool.and_eq_true] at h
 exact node_some_iff.1 (List.all_eq_true.1 h.1 e he)
theorem Nmap.len {w : World} {b : Nat} {l : List Fs.Item} (h : Nmap w b l) : (Builtin.len_ #[205] 3 #[.map (some b)]).run prog w = .ok (.int .i64 (l.length : Int)) w := by
 obtain ⟨⟨f, h1, _⟩⟩ := h
 exact h1.len underlying205 3
def SoundR (r : Bool) (w : World) (e : Ending) (w' : World) : Prop := e = .returned (.bool r) /\ Below w.heap.size w w'
theorem sound_many (m : Option Nat) (kvs : List Pr) (w : World) (h : Rp w m kvs) (hn : 256 < kvs.length) (hn2 : kvs.length <= 100000) : Calls prog 116 #[pv m] w (SoundR false w) := by
 have HL := hid (mlen_any h)
 have hni : (256 : Int) < (kvs.length : Int) := by omega
 clear h
 go_enter func116, ntmps116
 go_wp2_with fail
 refine HL.out.mono ?_
 rintro e w1 ⟨rfl, hb⟩
 dsimp only
 go_wp2_with fail
 go_ret
 exact ⟨rfl, hb⟩
theorem sound_all (m : Option Nat) (kvs : List Pr) (w : World) (h : Rp w m kvs) (hn : kvs.length <= 1000) (hvs : ∀ p ∈ kvs, p.2.size <= 100000) (hok : ∀ p ∈ kvs, okp p) (hr : Fs.Rising (kvs.map itm)) :
  Calls prog 116 #[pv m] w (SoundR (soundL (kvs.map itm)) w) := by
 have hlen : (kvs.map itm).length = kvs.length := List.length_map _
 by_cases hmany : 256 < kvs.length
 ·rw [show soundL (kvs.map itm) = false by unfold soundL; rw [decide_eq_false (by omega), Bool.false_and]]
  exact sound_many m kvs w h hmany (by omega)
 have hmm := @run_makeMap prog
 have hfd := field43_0
 have HL := hid (mlen_any h)
 have HRd := hid (λW (hb : Below w.heap.size w W) => readNodes_any m kvs kvs.length W (h.below hb) hn hvs (Nat.le_refl _) (λi p _ hp => hok p (List.mem_of_getElem? hp)) (λp hp => by rw [List.getElem?_eq_none (Nat.le_refl _)] at hp; cases hp) (by rw [List.take_length]; exact rising_nodup hr))
 unfold ReadN at HRd
 simp only [if_true] at HRd
 have hni : ¬ (256 : Int) < (kvs.length : Int) := by omega
 have hrt : ∀ y ∈ kvs.map itm, Nd.Right less Nm.right y.2 := λy hy => by
  obtain ⟨p, hp, rfl⟩ := List.mem_map.1 hy; exact okp_right (hok p hp)
 have hwf : ∀ y ∈ kvs.map itm, (ik y.1).wf = true := λy hy => by
  obtain ⟨p, hp, rfl⟩ := List.mem_map.1 hy
  have := ino_ok (hok p hp).1
  exact ik_wf this.1 this.2
 have hew : ∀ e ∈ allE (kvs.map itm), (ik e.2).wf = true := λe he => by
  obtain ⟨es, hes, he⟩ := List.mem_flatten.1 he
  obtain ⟨y, hy, rfl⟩ := List.mem_map.1 hes
  have := ((hrt y hy).ok e he).2
  exact ik_wf this.1 this.2
 have hel := λy hy => (hrt y hy).len
 rw [<- hlen] at hn
 have HAr := hid (λmb W (hM : Nmap W mb (kvs.map itm)) => areNamed_any mb (kvs.map itm) W hM hr hwf hn hel hew)
 have HRe := hid (λ(hA : areB (kvs.map itm) = true) (h1 : 1 ∈ inosL (kvs.map itm)) mb rb W0 W (hM : Nmap W0 mb (kvs.map itm)) (hb : Below W0.heap.size W0 W) (hrb : W0.heap.size <= rb) (hm : Rmap W rb []) => reach_any mb (kvs.map itm) W0 hM hwf hn (nodeD_few hrt) (λi e he => areB_in hA (nodeD_in he)) 9 (Nat.le_refl _) 1 [] rb W h1 ⟨List.nodup_nil, λx hx => by cases hx⟩ hb hrb hm)
 have h256 : (kvs.map itm).length <= 256 := by omega
 clear h hvs hok hr hrt hwf hew hel hmany hlen
 generalize kvs.map itm = l at *
 have hS : soundL l = (decide ((Fs.nodeD l 1).kind = 2) && (areB l && ((reachL l 9 1 []).1 && decide ((reachL l 9 1 []).2.length = l.length)))) := by unfold soundL; rw [decide_eq_true h256, Bool.true_and]
 clear h256 hn
 by_cases hk : (Fs.nodeD l 1).kind = 2
 ·have h1 : 1 ∈ inosL l := node_some_iff.1 (by
   cases hx : Fs.node l 1 with
   | some x => rfl
   | none => unfold Fs.nodeD at hk; rw [hx] at hk; exact absurd hk (by decide))
  rw [decide_eq_true hk, Bool.true_and] at hS
  cases hA : areB l with
  | false =>
   rw [hA, Bool.false_and] at hS
   rw [hA] at HAr
   have HS := hid hS
   clear hS HRe
   go_enter func116, ntmps116
   go_wp2_with fail
   refine HL.out.mono ?_
   rintro e w1 ⟨rfl, hb⟩
   have HB := hid hb
   clear hb
   dsimp only
   go_wp2_with fail
   refine (HRd.out w1 HB.out).mono ?_
   rintro e w2 ⟨hb2, mb, rfl, hM⟩
   have HB2 := hid (HB.out.trans (hb2.mono HB.out.size))
   have HM := hid hM
   obtain ⟨a, c, hlk, -, -⟩ := hM.look (i := 1) (by decide)
   clear hb2 hM
   generalize Fs.nodeD l 1 = x at *
   obtain ⟨xk, xm, xd, xt, xe⟩ := x
   unfold nvx nv at hlk
   dsimp only at hlk hk
   subst hk
   dsimp only
   go_wp2_with fail
   refine (HAr.out mb w2 HM.out).mono ?_
   rintro e w3 ⟨rfl, hb3⟩
   have HB3 := hid (HB2.out.trans (hb3.mono HB2.out.size))
   clear hb3 hlk
   dsimp only
   go_wp2_with fail
   go_ret
   rw [HS.out]
   exact ⟨rfl, HB3.out⟩
  | true =>
   rw [hA, Bool.true_and] at hS
   rw [hA] at HAr
   have HRx := hid (HRe.out hA h1)
   unfold Reached at HRx
   rw [show (9 : Int) - ((9 : Nat) : Int) = 0 from rfl] at HRx
   obtain ⟨⟨rr, R⟩, hrr⟩ : ∃ r, reachL l 9 1 [] = r := ⟨_, rfl⟩
   rw [hrr] at hS HRx
   dsimp only at hS HRx
   have HS := hid hS
   clear hS HRe hrr hA h1
   cases rr with
   | false =>
    go_enter func116, ntmps116
    go_wp2_with fail
    refine HL.out.mono ?_
    rintro e w1 ⟨rfl, hb⟩
    have HB := hid hb
    clear hb
    dsimp only
    go_wp2_with fail
    refine (HRd.out w1 HB.out).mono ?_
    rintro e w2 ⟨hb2, mb, rfl, hM⟩
    have HB2 := hid (HB.out.trans (hb2.mono HB.out.size))
    have HM := hid hM
    obtain ⟨a, c, hlk, -, -⟩ := hM.look (i := 1) (by decide)
    clear hb2 hM
    generalize Fs.nodeD l 1 = x at *
    obtain ⟨xk, xm, xd, xt, xe⟩ := x
    unfold nvx nv at hlk
    dsimp only at hlk hk
    subst hk
    dsimp only
    go_wp2_with fail
    refine (HAr.out mb w2 HM.out).mono ?_
    rintro e w3 ⟨rfl, hb3⟩
    have HB3 := hid (HB2.out.trans (hb3.mono HB2.out.size))
    have HC := hid (HRx.out mb w3.heap.size w3 _ (HM.out.below hb3) (below_one w3 (.map #[] 0)) (Nat.le_refl _) (Rmap.made w3))
    clear hb3 hlk
    dsimp only
    go_wp2_with fail
    refine HC.out.mono ?_
    rintro e w4 ⟨rfl, -, -, hb4⟩
    have HB4 := hid (HB3.out.trans (hb4.mono HB3.out.size))
    clear hb4
    dsimp only
    go_wp2_with fail
    go_ret
    rw [HS.out]
    exact ⟨rfl, HB4.out⟩
   | true =>
    go_enter func116, ntmps116
    go_wp2_with fail
    refine HL.out.mono ?_
    rintro e w1 ⟨rfl, hb⟩
    have HB := hid hb
    clear hb
    dsimp only
    go_wp2_with fail
    refine (HRd.out w1 HB.out).mono ?_
    rintro e w2 ⟨hb2, mb, rfl, hM⟩
    have HB2 := hid (HB.out.trans (hb2.mono HB.out.size))
    have HM := hid hM
    obtain ⟨a, c, hlk, -, -⟩ := hM.look (i := 1) (by decide)
    clear hb2 hM
    generalize Fs.nodeD l 1 = x at *
    obtain ⟨xk, xm, xd, xt, xe⟩ := x
    unfold nvx nv at hlk
    dsimp only at hlk hk
    subst hk
    dsimp only
    go_wp2_with fail
    refine (HAr.out mb w2 HM.out).mono ?_
    rintro e w3 ⟨rfl, hb3⟩
    have HB3 := hid (HB2.out.trans (hb3.mono HB2.out.size))
    have HM3 := hid (HM.out.below hb3)
    have HC := hid (HRx.out mb w3.heap.size w3 _ (HM.out.below hb3) (below_one w3 (.map #[] 0)) (Nat.le_refl _) (Rmap.made w3))
    clear hb3 hlk
    dsimp only
    go_wp2_with fail
    refine HC.out.mono ?_
    rintro e w4 ⟨rfl, hm4, -, hb4⟩
    have HB4 := hid (HB3.out.trans (hb4.mono HB3.out.size))
    have hl1 := hm4.len
    have hl2 := (HM3.out.below hb4).len
    clear hb4 hm4
    dsimp only
    go_wp2_with fail
    go_ret
    rw [HS.out]
    have hq : ((R.length : Int) == (l.length : Int)) = decide (R.length = l.length) := by
     by_cases h9 : R.length = l.length
     ·rw [decide_eq_true h9, h9]; simp
     ·rw [decide_eq_false h9]; simp only [beq_eq_false_iff_ne]; omega
    refine ⟨?_, HB4.out⟩
    show Ending.returned (.bool ((R.length : Int) == (l.length : Int))) = _
    rw [hq, Bool.true_and]
 ·rw [decide_eq_false hk, Bool.false_and] at hS
  have HS := hid hS
  clear hS HRe HAr
  go_enter func116, ntmps116
  go_wp2_with fail
  refine HL.out.mono ?_
  rintro e w1 ⟨rfl, hb⟩
  have HB := hid hb
  clear hb
  dsimp only
  go_wp2_with fail
  refine (HRd.out w1 HB.out).mono ?_
  rintro e w2 ⟨hb2, mb, rfl, hM⟩
  have HB2 := hid (HB.out.trans (hb2.mono HB.out.size))
  obtain ⟨a, c, hlk, -, -⟩ := hM.look (i := 1) (by decide)
  clear hb2 hM
  generalize Fs.nodeD l 1 = x at *
  obtain ⟨xk, xm, xd, xt, xe⟩ := x
  unfold nvx nv at hlk
  dsimp only at hlk hk
  dsimp only
  go_wp2_with fail
  go_ret
  rw [HS.out]
  exact ⟨rfl, HB2.out⟩
end Go.Proofs.YthbajmlmjjfgpaaGreatDoor
namespace Go.Proofs.YthbajmlmjjfgpaaGreatDoor
open Go.RowKit Go.Less
theorem links_cnt (l : List Fs.Item) (i : Int) : cnt (allE l) i = Fs.links l i := by
 unfold cnt allE Fs.links
 rw [List.countP_flatten, List.map_map]
 rfl
theorem sum_zero {α : Type} {l : List α} {c : α -> Nat} (h : ∀ y ∈ l, c y = 0) : (l.map c).sum = 0 := by
 induction l with
 | nil => rfl
 | cons y l ih => rw [List.map_cons, List.sum_cons, h y List.mem_cons_self, ih λz hz => h z (List.mem_cons_of_mem _ hz)]
theorem sum_one {l : List Fs.Item} (hr : Fs.Rising l) {c : Fs.Item -> Nat} {k : Int} (h0 : ∀ y ∈ l, y.1 ≠ k -> c y = 0) (h1 : ∀ y ∈ l, c y <= 1) : (l.map c).sum <= 1 := by
 induction l with
 | nil => exact Nat.zero_le _
 | cons y l ih =>
  have hp := List.pairwise_cons.1 hr
  rw [List.map_cons, List.sum_cons]
  by_cases e : y.1 = k
  ·rw [sum_zero (l := l) λz hz => h0 z (List.mem_cons_of_mem _ hz) (λe2 => by have : y.1 < z.1 := hp.1 z hz; omega)]
   have := h1 y List.mem_cons_self
   omega
  ·rw [h0 y List.mem_cons_self e]
   have := ih hp.2 (λz hz => h0 z (List.mem_cons_of_mem _ hz)) (λz hz => h1 z (List.mem_cons_of_mem _ hz))
   omega
theorem count_one {es : List En} {i : Int} {n : ByteArray} (hp : es.Pairwise λa b => a.1 ≠ b.1) (h : ∀ e ∈ es, e.2 = i -> e.1 = n) : es.countP (λe => decide (e.2 = i)) <= 1 := by
 induction es with
 | nil => exact Nat.zero_le _
 | cons e es ih =>
  have hp2 := List.pairwise_cons.1 hp
  rw [List.countP_cons]
  by_cases he : e.2 = i
  ·have hz : es.countP (λe => decide (e.2 = i)) = 0 := List.countP_eq_zero.2 λz hz hd => by
    have hd : z.2 = i := by simpa using hd
    exact hp2.1 z hz ((h e List.mem_cons_self he).trans (h z (List.mem_cons_of_mem _ hz) hd).symm)
   rw [hz, if_pos (by simpa using he)]
   exact Nat.le_refl _
  ·rw [if_neg (by simpa using he)]
   exact ih hp2.2 λz hz => h z (List.mem_cons_of_mem _ hz)
theorem ents_apart {es : List En} (h : Nd.rises less es = true) : es.Pairwise λa b => a.1 ≠ b.1 :=
 ((Nd.rises_iff rising es).1 h).imp λ{a b} hab e => by rw [e, rising.irr] at hab; cases hab
theorem named_dir {f : Fs.FS} (H : Fs.Good env f) {i : Int} (hi : i ≠ 1) (hd : Fs.isDir f.l i) : Fs.links f.l i = 1 := by
 obtain ⟨x, hx, hk⟩ := hd
 obtain ⟨ns, hg⟩ := H.reach hx
 have hex : ∃ k n, Fs.step f.l k n = some i := by
  rcases Gr.snoc_cases ns with rfl | ⟨ps, n, rfl⟩
  ·injection hg with hg; exact absurd hg.symm hi
  ·obtain ⟨k, _, h2⟩ := Gr.go_snoc.1 hg; exact ⟨k, n, h2⟩
 obtain ⟨k, n, hs⟩ := hex
 have hne : Fs.links f.l i ≠ 0 := λh => (H.links_iff env_ok).1 h k n hs
 have hle : Fs.links f.l i <= 1 := by
  unfold Fs.links
  refine sum_one H.inos (k := k) (λy hy hne => ?_) (λy hy => ?_)
  ·refine List.countP_eq_zero.2 λe he hd => hne ?_
   have hd : e.2 = i := by simpa using hd
   have h1 := H.ent_step env_ok (Fs.node_at H.inos hy) he
   rw [hd] at h1
   exact (H.tree.one ⟨x, hx, hk⟩ h1 hs).1
  ·have hyn := Fs.node_at H.inos (show (y.1, y.2) ∈ f.l from hy)
   refine count_one (n := n) (ents_apart (H.right hyn).rise) λe he hd => ?_
   have h1 := H.ent_step env_ok hyn he
   rw [hd] at h1
   exact (H.tree.one ⟨x, hx, hk⟩ h1 hs).2
 omega
theorem named_some {f : Fs.FS} (H : Fs.Good env f) {i : Int} (hi : i ≠ 1) {x : Nd.Node} (hx : Fs.node f.l i = some x) : 0 < Fs.links f.l i := by
 obtain ⟨ns, hg⟩ := H.reach hx
 rcases Gr.snoc_cases ns with rfl | ⟨ps, n, rfl⟩
 ·injection hg with hg; exact absurd hg.symm hi
 ·obtain ⟨k, _, h2⟩ := Gr.go_snoc.1 hg
  exact Nat.pos_of_ne_zero λh => (H.links_iff env_ok).1 h k n h2
theorem areB_good {f : Fs.FS} (H : Fs.Good env f) : areB f.l = true := by
 unfold areB
 rw [Bool.and_eq_true]
 refine ⟨List.all_eq_true.2 λe he => ?_, List.all_eq_true.2 λi hi => ?_⟩
 ·obtain ⟨es, hes, he⟩ := List.mem_flatten.1 he
  obtain ⟨y, hy, rfl⟩ := List.mem_map.1 hes
  exact H.there (H.ent_step env_ok (Fs.node_at H.inos hy) he)
 ·obtain ⟨x, hx⟩ := Option.isSome_iff_exists.1 (node_some_iff.2 hi)
  rw [Fs.nodeD_of hx, links_cnt]
  unfold mayB
  by_cases h1 : i = 1
  ·rw [if_pos h1]
   subst h1
   have : Fs.links f.l 1 = 0 := (H.links_iff env_ok).2 H.tree.root
   rw [this]; rfl
  ·rw [if_neg h1]
   by_cases hk : x.kind = 2
   ·rw [if_pos hk, named_dir H h1 ⟨x, hx, hk⟩]; rfl
   ·rw [if_neg hk]
    have := named_some H h1 hx
    exact decide_eq_true (by omega)
theorem fold_reach {l : List Fs.Item} {k : Nat} : ∀ (es : List En) (r : Bool × List Int), r.1 = true -> (∀ e ∈ es, ∀ R, (reachL l k e.2 R).1 = true /\ (∀ x ∈ R, x ∈ (reachL l k e.2 R).2) /\ ∀ ns j, Gr.go (Fs.step l) e.2 ns = some j -> j ∈ (reachL l k e.2 R).2) ->
  (es.foldl (stepR l k) r).1 = true /\ (∀ x ∈ r.2, x ∈ (es.foldl (stepR l k) r).2) /\ ∀ e ∈ es, ∀ ns j, Gr.go (Fs.step l) e.2 ns = some j -> j ∈ (es.foldl (stepR l k) r).2
 | [], r, h, _ => ⟨h, λ_ hx => hx, λe he => by cases he⟩
 | e :: es, r, h, hes => by
  have h1 := hes e List.mem_cons_self r.2
  have hst : stepR l k r e = reachL l k e.2 r.2 := by unfold stepR; rw [if_pos h]
  rw [List.foldl_cons, hst]
  have h2 := fold_reach es (reachL l k e.2 r.2) h1.1 λz hz => hes z (List.mem_cons_of_mem _ hz)
  refine ⟨h2.1, λx hx => h2.2.1 x (h1.2.1 x hx), λz hz ns j hg => ?_⟩
  rcases List.mem_cons.1 hz with rfl | hz
  ·exact h2.2.1 j (h1.2.2 ns j hg)
  ·exact h2.2.2 z hz ns j hg
theorem ins_mem {i x : Int} {R : List Int} (h : x ∈ R) : x ∈ ins1 i R := by
 unfold ins1; split
 ·exact h
 ·exact List.mem_cons_of_mem _ h
theorem ins_self (i : Int) (R : List Int) : i ∈ ins1 i R := by
 unfold ins1; split
 ·assumption
 ·exact List.mem_cons_self
theorem reach_good {f : Fs.FS} (H : Fs.Good env f) : ∀ (k : Nat) (i : Int) (R : List Int), (∀ ns j, Gr.go (Fs.step f.l) i ns = some j -> ns.length <= k) ->
  (reachL f.l (k + 1) i R).1 = true /\ (∀ x ∈ R, x ∈ (reachL f.l (k + 1) i R).2) /\ ∀ ns j, Gr.go (Fs.step f.l) i ns = some j -> j ∈ (reachL f.l (k + 1) i R).2 := by
 intro k
 induction k with
 | zero =>
  intro i R hd
  rw [reachL_succ]
  have he : (Fs.nodeD f.l i).ents = [] := by
   cases hn : Fs.node f.l i with
   | none => unfold Fs.nodeD; rw [hn]; rfl
   | some x =>
    rw [Fs.nodeD_of hn]
    cases hx : x.ents with
    | nil => rfl
    | cons e es =>
     have h1 := H.ent_step env_ok hn (e := e) (by rw [hx]; exact List.mem_cons_self)
     have := hd [e.1] e.2 (Gr.go_cons.2 ⟨e.2, h1, rfl⟩)
     simp at this
  rw [he]
  refine ⟨rfl, λx hx => ins_mem hx, λns j hg => ?_⟩
  have := hd ns j hg
  obtain rfl : ns = [] := List.eq_nil_of_length_eq_zero (by omega)
  injection hg with hg
  subst hg
  exact ins_self _ _
 | succ k ih =>
  intro i R hd
  rw [reachL_succ]
  have hes : ∀ e ∈ (Fs.nodeD f.l i).ents, Fs.step f.l i e.1 = some e.2 := λe he => by
   cases hn : Fs.node f.l i with
   | none => unfold Fs.nodeD at he; rw [hn] at he; cases he
   | some x => rw [Fs.nodeD_of hn] at he; exact H.ent_step env_ok hn he
  have h := fold_reach (l := f.l) (k := k + 1) (Fs.nodeD f.l i).ents (true, ins1 i R) rfl λe he R2 => ih e.2 R2 λns j hg => by
   have := hd (e.1 :: ns) j (Gr.go_cons.2 ⟨e.2, hes e he, hg⟩)
   simpa using this
  refine ⟨h.1, λx hx => h.2.1 x (ins_mem hx), λns j hg => ?_⟩
  cases ns with
  | nil => injection hg with hg; subst hg; exact h.2.1 _ (ins_self _ _)
  | cons n ns =>
   obtain ⟨c, hs, hg⟩ := Gr.go_cons.1 hg
   obtain ⟨x, hx, hf⟩ := Fs.step_iff.1 hs
   have hm := Nd.find_mem hf
   have := h.2.2 (n, c) (by rw [Fs.nodeD_of hx]; exact hm) ns j hg
   exact this
theorem sound_good {f : Fs.FS} (H : Fs.Good env f) : soundL f.l = true := by
 have hr := reach_good H 8 1 [] λns j hg => H.tree.deep hg
 have hk := Fs.dir_iff.1 H.top
 have hA := areB_good H
 have hok := reachL_ok (l := f.l) (λi e he => areB_in hA (nodeD_in he)) 9 1 [] (node_some_iff.1 (by obtain ⟨x, hx, _⟩ := H.top; rw [hx]; rfl)) ⟨List.nodup_nil, λx hx => by cases hx⟩
 have hlen : (reachL f.l 9 1 []).2.length = f.l.length := by
  refine Nat.le_antisymm hok.len ?_
  have := nodup_len (rising_nodup H.inos) (L := (reachL f.l 9 1 []).2) λi hi => by
   obtain ⟨x, hx⟩ := Option.isSome_iff_exists.1 (node_some_iff.2 hi)
   obtain ⟨ns, hg⟩ := H.reach hx
   exact hr.2.2 ns i hg
  unfold inosL at this
  rwa [List.length_map] at this
 unfold soundL
 rw [decide_eq_true H.few, decide_eq_true hk, hA, hr.1, decide_eq_true hlen]
 rfl
theorem kv_itm {l : List Fs.Item} (h : Okl l) : (Fs.kv l).map itm = l := by
 unfold Fs.kv
 rw [List.map_map]
 conv => rhs; rw [<- List.map_id l]
 refine List.map_congr_left λy hy => ?_
 show itm (Fs.key y.1, Fs.txt y.2) = y
 unfold itm
 simp only
 rw [ino_key (h.pos y hy), parse_txt (h.right y hy)]
theorem kv_okp {l : List Fs.Item} (h : Okl l) : ∀ p ∈ Fs.kv l, okp p := λp hp => by
 unfold Fs.kv at hp
 obtain ⟨y, hy, rfl⟩ := List.mem_map.1 hp
 exact ⟨by simp only; rw [ino_key (h.pos y hy)], by simp only; rw [parse_txt (h.right y hy)]⟩
theorem pSound_any (m : Option Nat) (l : List Fs.Item) (w : World) (h : Sv w m l) : Calls prog 116 #[T8.pv m] w (SoundR (soundL l) w) := by
 have := sound_all m (Fs.kv l) w h.rp (by rw [Fs.kv_len]; exact h.ok.few) (λp hp => by
  unfold Fs.kv at hp
  obtain ⟨y, hy, rfl⟩ := List.mem_map.1 hp
  exact Nat.le_trans (txt_size (h.ok.right y hy)) (by decide)) (kv_okp h.ok) (by rw [kv_itm h.ok]; exact h.ok.inos)
 rwa [kv_itm h.ok] at this
end Go.Proofs.YthbajmlmjjfgpaaGreatDoor
namespace Go.Proofs.YthbajmlmjjfgpaaGreatDoor
open T6
open Go.RowKit Go.Less
attribute [local go_sem 9000] sem_eql sem_neq
def readR (l : List Fs.Item) (p : ByteArray) (off n : Int) : List UInt8 × Int :=
 if (fileR l p).2.2 ≠ 0 then ([], (fileR l p).2.2) else getR (fileR l p).2.1.data.data.toList off n
end Go.Proofs.YthbajmlmjjfgpaaGreatDoor
namespace Go.Proofs.YthbajmlmjjfgpaaGreatDoor
open T6
open Go.RowKit Go.Less
open T8 (pv Dg Rp mname_any mlen_any nm cn)
attribute [local go_sem 9000] sem_eql sem_neq
def Fo (w : World) (g : Nat) (f : Fs.FS) : Prop := ∃ m, w.heap[g]? = some (.cells #[pv m, .int .i64 f.next] 110 (0, 0)) /\ Sv w m f.l
theorem Fo.below {w w' : World} {g : Nat} {f : Fs.FS} (h : Fo w g f) (hb : Below w.heap.size w w') : Fo w' g f := by
 obtain ⟨m, h1, h2⟩ := h; exact ⟨m, (hb.block _ (lt_of_obj h1)).trans h1, h2.below hb⟩
theorem Fo.lt {w : World} {g : Nat} {f : Fs.FS} (h : Fo w g f) : g < w.heap.size := by obtain ⟨m, h1, _⟩ := h; exact lt_of_obj h1
abbrev ptg (g : Nat) : Value := .pointer (some ⟨g, 0, none⟩)
theorem qNode_any {g : Nat} {f : Fs.FS} {w : World} (h : Fo w g f) (k0 : Int) : Calls prog 35 #[ptg g, .int .i64 k0] w (Node11 f.l k0 w) := by
 obtain ⟨m, hg, hS⟩ := h
 obtain ⟨l, nx⟩ := f
 dsimp only at hg hS |-
 have HG := hid hg
 have HF := hid (λW (hb : Below w.heap.size w W) => pNode_any m nx l k0 W (hS.below hb))
 clear hg hS
 unfold Node11 at HF |-
 generalize (Fs.node l k0).isSome = there at *
 generalize Fs.nodeD l k0 = x at *
 obtain ⟨k, mo, d, t, es⟩ := x
 dsimp only at HF |-
 have HB := hid (show Bxs w [(w.heap.size, #[.int .i64 0, .int .i64 0, .string ⟨#[]⟩, .string ⟨#[]⟩, .slice none 0 0], 67)] (w.alloc (.cells #[.int .i64 0, .int .i64 0, .string ⟨#[]⟩, .string ⟨#[]⟩, .slice none 0 0] 67)) from Bxs.one w _ _)
 have hgW := (HB.out.below.block _ (lt_of_obj HG.out)).trans HG.out
 have g0 := bxc2 hgW
 clear hgW
 go_enter func35, ntmps35
 go_wp2_with fail
 clear g0
 generalize w.alloc (.cells #[.int .i64 0, .int .i64 0, .string ⟨#[]⟩, .string ⟨#[]⟩, .slice none 0 0] 67) = W0 at HB |-
 refine (HF.out W0 HB.out.below).mono ?_
 rintro e w1 ⟨a, c, rfl, hE, hb⟩
 have hbk := hb
 have HEn := hid hE
 clear hE
 have HB := hid (HB.out.kept hbk)
 clear hbk
 dsimp only
 go_wp2_with (first | (refine store_bx HB.out 0 rfl 67 _ _ rfl rfl #[.int .i64 k, .int .i64 mo, .string d, .string t, .slice a es.length c] rfl rfl (by kernel_rfl) rfl rfl (by decide) (by decide) ?_; intro w2 hS hK hbS hsS; have HBS := hid hS; have HEn := hid (hK.ents (HB.out.obj 0 rfl) (noEnt43 _ _ _ _ _ _ _) HEn.out); clear hS hK hbS hsS; have HB := HBS; clear HBS) | fail)
 refine bodyPost_ret_by (results_nd rfl _ _ w.heap.size _ _ _ _ _ rfl (HB.out.obj 0 rfl)) rfl ?_
 exact ⟨a, c, rfl, HEn.out, HB.out.below⟩
theorem qInos_any {g : Nat} {f : Fs.FS} {w : World} (h : Fo w g f) : Calls prog 39 #[ptg g] w (Numbered (inosL f.l) w) := by
 obtain ⟨m, hg, hS⟩ := h
 obtain ⟨l, nx⟩ := f
 dsimp only at hg hS |-
 have HF := hid (inos_any m nx l w hS)
 have g0 := bxc2 hg
 clear hg hS
 go_enter func39, ntmps39
 go_wp2_with fail
 refine HF.out.mono ?_
 rintro e w1 ⟨ao, cap, rfl, hrow, hb⟩
 have HX := hid (And.intro hrow hb)
 clear hrow hb g0
 dsimp only
 go_wp2_with fail
 go_ret
 exact ⟨ao, cap, rfl, HX.out.1, HX.out.2⟩
theorem qNext_any {g : Nat} {f : Fs.FS} {w : World} (h : Fo w g f) : Calls prog 29 #[ptg g] w λe w' => e = .returned (.int .i64 f.next) /\ w' = w := by
 obtain ⟨m, hg, hS⟩ := h
 obtain ⟨l, nx⟩ := f
 dsimp only at hg hS |-
 have g1 : w.cell? ⟨g, 1, none⟩ = some (.int .i64 nx) := cell_obj hg 1
 clear hg hS
 go_enter func29, ntmps29
 go_wp2_with fail
 go_ret
 exact ⟨rfl, rfl⟩
def Mapp (l : List Fs.Item) (w : World) (e : Ending) (w' : World) : Prop := ∃ m, e = .returned (pv m) /\ Sv w' m l /\ w' = w
theorem qMap_any {g : Nat} {f : Fs.FS} {w : World} (h : Fo w g f) : Calls prog 17 #[ptg g] w (Mapp f.l w) := by
 obtain ⟨m, hg, hS⟩ := h
 obtain ⟨l, nx⟩ := f
 dsimp only at hg hS |-
 have g0 : w.cell? ⟨g, 0, none⟩ = some (pv m) := cell_obj hg 0
 have HS := hid hS
 clear hg hS
 go_enter func17, ntmps17
 go_wp2_with fail
 go_ret
 exact ⟨m, rfl, HS.out, rfl⟩
def Newf (f : Fs.FS) (w : World) (e : Ending) (w' : World) : Prop := ∃ g, e = .returned (ptg g) /\ Fo w' g f /\ w.heap.size <= g /\ Below w.heap.size w w'
theorem qCopy_any {g : Nat} {f : Fs.FS} {w : World} (h : Fo w g f) : Calls prog 52 #[ptg g] w (Newf f w) := by
 obtain ⟨m, hg, hS⟩ := h
 obtain ⟨l, nx⟩ := f
 dsimp only at hg hS |-
 have g0 := bxc2 hg
 have HS := hid hS
 clear hg hS
 go_enter func52, ntmps52
 go_wp2_with fail
 go_ret
 exact ⟨_, rfl, ⟨m, heap_alloc_new _ _, HS.out.below (below_one _ _)⟩, Nat.le_refl _, below_one _ _⟩
theorem qNew_any (w : World) (hD : Dg w) : Calls prog 37 #[] w (Newf Fs.new w) := by
 have hS0 : Sv w none [] := ⟨T8.rp_nil w, ⟨List.Pairwise.nil, λy hy => absurd hy List.not_mem_nil, λy hy => absurd hy List.not_mem_nil, Nat.zero_le _⟩, hD⟩
 have hRx : Nd.Right less Nm.right (⟨2, 493, ⟨#[]⟩, ⟨#[]⟩, []⟩ : Nd.Node) := (Fs.new_good (E := env)).right (i := 1) rfl
 have HB := hid (below_one w (.cells #[.pointer none, .int .i64 2] 108))
 have HW := hid (pWith_any none 2 [] 1 ⟨2, 493, ⟨#[]⟩, ⟨#[]⟩, []⟩ none 0 _ (hS0.below HB.out) (ents_nil _) hRx (by decide) (.inr λy hy => absurd hy List.not_mem_nil) (Nat.zero_le _))
 clear hS0 hRx
 unfold nv at HW
 dsimp only [List.length_nil] at HW
 have hcell0 : (w.alloc (.cells #[.pointer none, .int .i64 2] 108)).cell? ⟨w.heap.size, 0, none⟩ = some (.pointer none) := World.cell?_alloc_new _ _ _ _
 have hcell1 : (w.alloc (.cells #[.pointer none, .int .i64 2] 108)).cell? ⟨w.heap.size, 1, none⟩ = some (.int .i64 2) := World.cell?_alloc_new _ _ _ _
 go_enter func37, ntmps37
 go_wp2_with fail
 refine HW.out.mono ?_
 rintro e w2 ⟨m2, rfl, hS, hb⟩
 have HS := hid hS
 have HB2 := hid (HB.out.trans (hb.mono HB.out.size))
 clear hS hb hcell0 hcell1
 dsimp only
 go_wp2_with fail
 go_ret
 exact ⟨_, rfl, ⟨m2, heap_alloc_new _ _, HS.out.below (below_one _ _)⟩, HB2.out.size, HB2.out.trans ((below_one _ _).mono HB2.out.size)⟩
theorem qRead_any {g : Nat} {f : Fs.FS} {w : World} (h : Fo w g f) (G : Fs.Half env f) (p : ByteArray) (off n : Int) (hp : p.size <= 140737488355328) (ho : off <= 9223372036854775807) (hn : n <= 9223372036854775807) : Calls prog 38 #[ptg g, .string p, .int .i64 off, .int .i64 n] w (Both (readR f.l p off n) w) := by
 obtain ⟨m, hg, hS⟩ := h
 obtain ⟨l, nx⟩ := f
 dsimp only at hg hS |-
 have HF := hid (pFile_any m nx l p w hS hp (λi x hx => kinds_of G hx))
 have hds : (fileR l p).2.1.data.size <= 4096 := by
  unfold fileR
  split
  ·rename_i h1
   rcases find_cases2 l p with ⟨e, hne, hf⟩ | ⟨ns, j, hs, hw, hf⟩
   ·rw [hf]; exact Nat.zero_le _
   ·rw [hf] at h1; exact absurd rfl h1
  ·rename_i h1
   split
   ·decide
   ·split
    ·decide
    ·rcases find_cases2 l p with ⟨e, hne, hf⟩ | ⟨ns, j, hs, hw, hf⟩
     ·rw [hf]; exact Nat.zero_le _
     ·rw [hf]
      obtain ⟨y, hy, hyD⟩ := G.walk_node hw
      show (Fs.nodeD l j).data.size <= 4096
      rw [hyD]
      exact data_size (G.right hy)
 have HR := hid (show readR l p off n = if (fileR l p).2.2 ≠ 0 then ([], (fileR l p).2.2) else getR (fileR l p).2.1.data.data.toList off n from rfl)
 obtain ⟨⟨i, ⟨k, mo, d, t, es⟩, code⟩, hr⟩ : ∃ r, fileR l p = r := ⟨_, rfl⟩
 rw [hr] at HF HR hds
 dsimp only at HF HR hds
 have HGt := hid (λW => get_any d off n W (Nat.le_trans hds (by decide)) ho hn)
 have g0 := bxc2 hg
 clear hg hS hr G ho hn hds
 by_cases hc : code = 0
 ·subst hc
  have HR2 := hid (show readR l p off n = getR d.data.toList off n by rw [HR.out, if_neg (by simp)])
  clear HR
  go_enter func38, ntmps38
  go_wp2_with fail
  refine HF.out.mono ?_
  rintro e w1 ⟨ea, ec, rfl, -, hb⟩
  have HB := hid (hb.trans ((below_one w1 (.cells #[.int .i64 k, .int .i64 mo, .string d, .string t, .slice ea es.length ec] 67)).mono hb.size))
  clear hb g0
  dsimp only
  go_wp2_with fail
  refine (HGt.out _).mono ?_
  rintro e w2 ⟨rfl, hb2⟩
  have HB2 := hid (HB.out.trans (hb2.mono HB.out.size))
  clear hb2
  dsimp only
  go_wp2_with fail
  go_ret2
  show Both (readR l p off n) w _ _
  rw [HR2.out]
  exact ⟨rfl, HB2.out⟩
 ·have HR2 := hid (show readR l p off n = ([], code) by rw [HR.out, if_pos hc])
  clear HR
  go_enter func38, ntmps38
  go_wp2_with fail
  refine HF.out.mono ?_
  rintro e w1 ⟨ea, ec, rfl, -, hb⟩
  have HB := hid (hb.trans ((below_one w1 (.cells #[.int .i64 k, .int .i64 mo, .string d, .string t, .slice ea es.length ec] 67)).mono hb.size))
  clear hb g0
  dsimp only
  go_wp2_with fail
  go_ret2
  show Both (readR l p off n) w _ _
  rw [HR2.out]
  exact ⟨rfl, HB.out⟩
def nmf (l : List Fs.Item) : ByteArray := nm (cn (Fs.kv l))
theorem qName_any {m : Option Nat} {l : List Fs.Item} {w : World} (h : Sv w m l) : Calls prog 18 #[pv m] w λe w' => e = .returned (.string (nmf l)) /\ Below w.heap.size w w' := mname_any h.rp
theorem qLen_any {m : Option Nat} {l : List Fs.Item} {w : World} (h : Sv w m l) : Calls prog 101 #[pv m] w λe w' => e = .returned (.int .i64 (l.length : Int)) /\ Below w.heap.size w w' := by
 have := mlen_any h.rp
 rwa [Fs.kv_len] at this
end Go.Proofs.YthbajmlmjjfgpaaGreatDoor
namespace Go.Proofs.YthbajmlmjjfgpaaGreatDoor
open Go.RowKit Go.Less Go.Maps
open T8 (pv Dg)
attribute [local go_sem 9000] sem_eql sem_neq
theorem doE_step {f : Fs.FS} (G : Fs.Good env f) (hb : f.next <= 2147483646) (o : Fs.Op) : Fs.Good env (Fs.doE env f o).1 /\ (Fs.doE env f o).1.next <= f.next + 1 := by
 unfold Fs.doE
 cases ha : Fs.act env f o with
 | error e => exact ⟨G, by show f.next <= f.next + 1; omega⟩
 | ok g =>
  obtain ⟨h1, h2⟩ := Fs.act_good env_ok G (by omega) ha
  refine ⟨h1, ?_⟩
  show g.next <= f.next + 1
  omega
theorem turn_below {g : Nat} {w0 w w' : World} (h : Below w0.heap.size w0 w) (ht : Turn g w w') (hg : w0.heap.size <= g) : Below w0.heap.size w0 w' :=
 ⟨ht.os.trans h.os, ht.tape.trans h.tape, ht.output.trans h.output, Nat.le_trans h.size ht.size, λk hk => (ht.block k (Nat.lt_of_lt_of_le hk h.size) (by omega)).trans (h.block k hk)⟩
theorem Turn.of_below {g : Nat} {w w' : World} (h : Below w.heap.size w w') : Turn g w w' := (Turn.refl g w).below h
def Didf (f : Fs.FS) (o : Fs.Op) (g : Nat) (w : World) (e : Ending) (w' : World) : Prop := e = .returned (.int .i64 (Fs.doE env f o).2) /\ Fo w' g (Fs.doE env f o).1 /\ Turn g w w' /\ ∀ c, Fs.act env f o = .error c -> c ≠ 0
theorem qDo_any {g : Nat} {f : Fs.FS} {w : World} (h : Fo w g f) (G : Fs.Good env f) (hb : f.next <= 2147483646) {o : Fs.Op} (hO : OpOk o) : Calls prog 31 #[ptg g, ovp o] w (Didf f o g w) := by
 have hF := h
 obtain ⟨m, hg, hS⟩ := h
 refine (pDo_any g m f.next f.l o w hS hg G.toHalf hb hO).mono ?_
 intro e w' hd
 unfold Didf Fs.doE
 unfold DoneP at hd
 cases ha : Fs.act env ⟨f.l, f.next⟩ o with
 | error c =>
  rw [ha] at hd
  obtain ⟨h0, h1, h2⟩ := hd
  exact ⟨h1, hF.below h2, Turn.of_below h2, λc2 h3 => by injection h3 with h3; rw [<- h3]; exact h0⟩
 | ok g2 =>
  rw [ha] at hd
  obtain ⟨h1, m2, h2, h3, h4⟩ := hd
  exact ⟨h1, ⟨m2, h2, h3⟩, h4, λc2 h5 => by cases h5⟩
def doneF (f : Fs.FS) (l : List Fs.Op) : Fs.FS := l.foldl (λf o => (Fs.doE env f o).1) f
theorem doneF_more {f : Fs.FS} {l : List Fs.Op} {k : Nat} (h : k < l.length) : doneF f (l.take (k + 1)) = (Fs.doE env (doneF f (l.take k)) (l.getD k op0)).1 := by
 unfold doneF
 rw [List.take_succ_eq_append_getElem h, List.foldl_append, List.getD, List.getElem?_eq_getElem h]
 rfl
theorem doneF_good {f : Fs.FS} (G : Fs.Good env f) : ∀ (l : List Fs.Op), f.next + l.length <= 2147483646 -> Fs.Good env (doneF f l) /\ (doneF f l).next <= f.next + l.length := by
 intro l
 induction l generalizing f with
 | nil => intro _; exact ⟨G, by show f.next <= f.next + ((0 : Nat) : Int); omega⟩
 | cons o l ih =>
  intro h
  rw [List.length_cons] at h |-
  have h1 := doE_step G (by omega) o
  have h2 := ih h1.1 (by omega)
  exact ⟨h2.1, by show (doneF (Fs.doE env f o).1 l).next <= _; omega⟩
theorem done_take {l : List Fs.Op} (h : l.length <= 1000) (k : Nat) : Fs.Good env (doneF Fs.new (l.take k)) /\ (doneF Fs.new (l.take k)).next <= 1002 := by
 have hl : (l.take k).length <= 1000 := by rw [List.length_take]; omega
 have := doneF_good (Fs.new_good (E := env)) (l.take k) (by show (2 : Int) + _ <= _; omega)
 exact ⟨this.1, by have h3 : Fs.new.next = 2 := rfl; omega⟩
theorem done_all {l : List Fs.Op} (h : l.length <= 1000) : Fs.Good env (doneF Fs.new l) /\ (doneF Fs.new l).next <= 1002 := by
 have := done_take h l.length
 rwa [List.take_length] at this
theorem op_cells {o : Fs.Op} {w : World} {b p : Nat} (h : ∀ j v, (ocs o)[j]? = some v -> w.cell? ⟨b, p + j, none⟩ = some v) : w.cell? ⟨b, p, none⟩ = some (.int .i64 o.kind) /\ w.cell? ⟨b, p + 1, none⟩ = some (.string o.a) /\ w.cell? ⟨b, p + 2, none⟩ = some (.string o.b) /\ w.cell? ⟨b, p + 3, none⟩ = some (.int .i64 o.off) /\ w.cell? ⟨b, p + 4, none⟩ = some (.int .i64 o.from_) /\ w.cell? ⟨b, p + 5, none⟩ = some (.int .i64 o.n) /\ w.cell? ⟨b, p + 6, none⟩ = some (.string o.data) :=
 ⟨h 0 _ rfl, h 1 _ rfl, h 2 _ rfl, h 3 _ rfl, h 4 _ rfl, h 5 _ rfl, h 6 _ rfl⟩
theorem done_any (a : Option Addr) (n cap : Nat) (l : List Fs.Op) (w : World) (hS : Opr a n l w) (hn : n <= 1000) (hD : Dg w) : Calls prog 16 #[.slice a n cap] w (Newf (doneF Fs.new l) w) := by
 have hni : (n : Int) <= 1000 := by omega
 have HS := hid (λW (hb : Below w.heap.size w W) => hS.below hb)
 have HN := hid hS.count
 have HOk := hid hS.ok
 have HNew := hid (qNew_any w hD)
 have hln : l.length <= 1000 := by rw [<- hS.count]; exact hn
 have HG := hid (λk => done_take hln k)
 clear hS hD
 go_enter func16, ntmps16
 go_wp2_with fail
 refine HNew.out.mono ?_
 rintro e w1 ⟨g, rfl, hF, hg, hb⟩
 have HF := hid hF
 have HGe := hid hg
 have HB := hid hb
 clear hF hg hb HNew
 dsimp only
 go_wp2_with fail
 go_loopw [4] (λx4 wr => ∃ k : Nat, k <= n /\ x4 = .int .i64 k /\ Fo wr g (doneF Fs.new (l.take k)) /\ Below w.heap.size w wr) (λx4 _ => n - (intOf x4).toNat)
 case atStart => exact ⟨0, Nat.zero_le _, rfl, HF.out, HB.out⟩
 case round =>
  clear HF HB
  obtain ⟨k, hk, rfl, hF, hB⟩ := hrel
  have HF := hid hF
  have HB := hid hB
  clear hF hB
  by_cases hlt : k < n
  ·have k0 : (k : Int) < (n : Int) := by omega
   have hk0 : (0 : Int) <= (k : Int) := by omega
   have hkl : k < l.length := by rw [<- HN.out]; exact hlt
   obtain ⟨b, off, rfl, hc⟩ := (HS.out wr HB.out).cell k hlt
   have HM := hid (doneF_more (f := Fs.new) hkl)
   have hok := HOk.out (l.getD k op0) (by rw [List.getD, List.getElem?_eq_getElem hkl]; exact List.getElem_mem hkl)
   have hGk := HG.out k
   have HDo := hid (qDo_any HF.out hGk.1 (by omega) hok)
   obtain ⟨c0, c1, c2, c3, c4, c5, c6⟩ := op_cells hc
   clear hc hok hGk
   unfold Didf at HDo
   generalize l.getD k op0 = o at *
   obtain ⟨okd, oa, ob, oo, og, on, od⟩ := o
   dsimp only at c0 c1 c2 c3 c4 c5 c6 HDo
   go_wp2_with fail
   refine HDo.out.mono ?_
   rintro e w2 ⟨rfl, hF2, hT2, -⟩
   have HX := hid (And.intro hF2 (turn_below HB.out hT2 HGe.out))
   clear hF2 hT2 c0 c1 c2 c3 c4 c5 c6
   dsimp only
   go_wp2_with fail
   go_roundw
   case rel => exact ⟨k + 1, by omega, by go_num, by rw [HM.out]; exact HX.out.1, HX.out.2⟩
   case measure => simp [intOf]; omega
  ·obtain rfl : k = n := by omega
   have hge : ¬ ((k : Int) < (k : Int)) := by omega
   go_wp2_with fail
   go_ret
   exact ⟨g, rfl, by have := HF.out; rwa [HN.out, List.take_length] at this, HGe.out, HB.out⟩
end Go.Proofs.YthbajmlmjjfgpaaGreatDoor
