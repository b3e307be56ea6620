/- A part of the proofs. -/
import Derived.Test.YtgcgnolmdkkocaaGreatDoorE00
namespace Go.Proofs.YtgcgnolmdkkocaaGreatDoor
set_option maxRecDepth 100000
open Go.RowKit Go.Less Go.Maps
open T8 (pv Dg)
attribute [local go_sem 9000] sem_eql sem_neq
theorem sem_same2 (t : TypeId) (a : ByteArray) : binOp .neq t (.string a) (.string a) = pure (.bool false) := by rw [sem_neq, alike_self]; rfl
attribute [local go_sem 9500] sem_same2
theorem take_at {P : Program} {md : Region.Mode} {ops : Array Oper} {Q : Exit → Act → World → Prop} {i : Nat} {oi : Oper} {d : Nat} {v : Value} {fuel : Nat} {listed : Array Bool} {a : Act} {w : World} (hi : ops[i]? = some oi) (hd : oi.dst = some d)
  (hs : Region.noSelect ops = true) (hf : Region.free md ops listed i = true) (hr : (Region.ready md ops listed).contains i = true)
  (hQ : ∀ c a w, Q (.panic c) (a.put (some d) v) w → Q (.panic c) a w) (hy : Yields P ops oi v a)
  (h : Oper.wp P { dst := some d, op := .assign (.const v), type := 0, pos := "", after := #[], guard := none } a w (fun a w => wpAny P md ops Q fuel (listed.setIfInBounds i true) a w) Q) : wpAny P md ops Q (fuel + 1) listed a w := by
 rw [← hd] at hQ h
 exact wpAny_take hi hs hf hr hQ hy h
set_option maxHeartbeats 16000000 in
theorem cmdRefused_any (a : Option Addr) (n cap : Nat) (l : List Fs.Op) (a2 : Option Addr) (n2 cap2 : Nat) (l2 : List Fs.Cmd) (w : World) (hS : Opr a n l w) (hS2 : Cpr a2 n2 l2 w) (hn : n ≤ 140737488355328) (hn2 : n2 ≤ 140737488355328) (hD : Dg w) (hT : Tn w) :
  Calls Tryz.prog 7 #[.slice a n cap, .slice a2 n2 cap2] w fun e w' => e = .returned (.bool true) ∧ Below w.heap.size w w' := by
 have HAw := Lib.hid (awake13_any w hD hT)
 have HSr := Lib.hid (fun W (hb : Below w.heap.size w W) => hS.below hb)
 have HSq := Lib.hid (fun W (hb : Below w.heap.size w W) => hS2.below hb)
 have HDg := Lib.hid (fun W (hb : Below w.heap.size w W) => hD.below hb)
 have HN2 := Lib.hid hS2.count
 have HN := Lib.hid hS.count
 have HOk := Lib.hid hS2.ok
 have HFw := Lib.hid (fun W (hb : Below w.heap.size w W) => few_any a n cap l W (hS.below hb) hn)
 have HFx := Lib.hid (fun W (hb : Below w.heap.size w W) => few13_any a2 n2 cap2 l2 W (hS2.below hb) hn2)
 clear hS hS2 hD hT
 cases hfew : few11 l with
 | false =>
  rw [hfew] at HFw
  go_enter Tryz.func7, Tryz.ntmps7
  go_wp2_with fail
  refine HAw.out.mono ?_
  rintro e w1 ⟨rfl, hb⟩
  have HB := Lib.hid hb
  clear hb
  dsimp only
  go_wp2_with fail
  refine (HFw.out w1 HB.out).mono ?_
  rintro e w2 ⟨rfl, hb⟩
  have HB := Lib.hid (HB.out.trans (hb.mono HB.out.size))
  clear hb
  dsimp only
  go_wp2_with fail
  go_ret
  exact ⟨rfl, HB.out⟩
 | true =>
 rw [hfew] at HFw
 cases hfew2 : few13 l2 with
 | false =>
  rw [hfew2] at HFx
  go_enter Tryz.func7, Tryz.ntmps7
  go_wp2_with fail
  refine HAw.out.mono ?_
  rintro e w1 ⟨rfl, hb⟩
  have HB := Lib.hid hb
  clear hb
  dsimp only
  go_wp2_with fail
  refine (HFw.out w1 HB.out).mono ?_
  rintro e w2 ⟨rfl, hb⟩
  have HB := Lib.hid (HB.out.trans (hb.mono HB.out.size))
  clear hb
  dsimp only
  go_wp2_with fail
  refine (HFx.out w2 HB.out).mono ?_
  rintro e w3 ⟨rfl, hb⟩
  have HB := Lib.hid (HB.out.trans (hb.mono HB.out.size))
  clear hb
  dsimp only
  go_wp2_with fail
  go_ret
  exact ⟨rfl, HB.out⟩
 | true =>
 rw [hfew2] at HFx
 have hln := few_len hfew
 have hln2 := few13_len hfew2
 have hnl : n ≤ 120 := by rw [HN.out]; exact hln
 have hn2l : n2 ≤ 150 := by rw [HN2.out]; exact hln2
 have hn2i : (n2 : Int) ≤ 150 := by omega
 have HDn := Lib.hid (fun W (hb : Below w.heap.size w W) => done_any a n cap l W (HSr.out W hb) (by omega) (HDg.out W hb))
 obtain ⟨hG, hnx⟩ := done_all (l := l) (by omega)
 generalize doneF Fs.new l = f at *
 have HG := Lib.hid hG
 have HNx := Lib.hid hnx
 have HP := Lib.hid (Okc.of hG.toHalf (by omega))
 have HNs := Lib.hid (fun q W (h : Fo W q f) => cNew_any h HP.out)
 have HRs := Lib.hid (fun q m L W (h : Fo W q f) (hS : Sv W m L) (hc : Okc L) => cResume_any h hS HP.out hc)
 have HMp := Lib.hid (fun g p L W (h : Stg W g p f L) => cMap_any h)
 have HNm := Lib.hid (fun m L W (h : Sv W m L) => qName_any h)
 have HC := Lib.hid (fun k (hk : k < n2) W (hb : Below w.heap.size w W) => (HSq.out W hb).cell k hk)
 clear hfew hfew2 hn hn2 hln hln2 hG hnx HSr HDg HSq HN hnl
 go_enter Tryz.func7, Tryz.ntmps7
 go_wp2_with fail
 refine HAw.out.mono ?_
 rintro e w1 ⟨rfl, hb⟩
 have HB := Lib.hid hb
 clear hb HAw
 dsimp only
 go_wp2_with fail
 refine (HFw.out w1 HB.out).mono ?_
 rintro e w2 ⟨rfl, hb⟩
 have HB := Lib.hid (HB.out.trans (hb.mono HB.out.size))
 clear hb HFw
 dsimp only
 go_wp2_with fail
 refine (HFx.out w2 HB.out).mono ?_
 rintro e w3 ⟨rfl, hb⟩
 have HB := Lib.hid (HB.out.trans (hb.mono HB.out.size))
 clear hb HFx
 dsimp only
 go_wp2_with fail
 refine (HDn.out w3 HB.out).mono ?_
 rintro e w4 ⟨gf, rfl, hF, hg, hb⟩
 have HGf := Lib.hid (Nat.le_trans HB.out.size hg)
 have HB := Lib.hid (HB.out.trans (hb.mono HB.out.size))
 have HFf := Lib.hid hF
 clear hF hg hb HDn
 dsimp only
 go_wp2_with fail
 refine (HNs.out gf w4 HFf.out).mono ?_
 rintro e w5 ⟨gs, ps, rfl, hS, hg, -, hb⟩
 have HGs := Lib.hid (Nat.le_trans HB.out.size hg)
 have HB := Lib.hid (HB.out.trans (hb.mono HB.out.size))
 have HSs := Lib.hid hS
 clear hS hg hb HNs HRs HFf HGf HG HNx
 dsimp only
 go_wp2_with fail
 go_loopw [7, 8, 9, 10, 11, 12, 13, 14, 15, 16, 17] (fun x7 _ _ _ _ _ _ _ _ _ _ wr => ∃ (k : Nat), k ≤ n2 ∧ x7 = .int .i64 k ∧ Stg wr gs ps f (doneC f.l f.l (l2.take k)) ∧ Below w.heap.size w wr) (fun x7 _ _ _ _ _ _ _ _ _ _ _ => n2 - (intOf x7).toNat)
 case atStart => exact ⟨0, Nat.zero_le _, rfl, HSs.out, HB.out⟩
 case round =>
  clear HSs HB
  obtain ⟨k, hk, rfl, hS, hB⟩ := hrel
  have HSs := Lib.hid hS
  have HB := Lib.hid hB
  clear hS hB
  by_cases hlt : k < n2
  ·have k0 : (k : Int) < (n2 : Int) := by omega
   have hk0 : (0 : Int) ≤ (k : Int) := by omega
   have hkl : k < l2.length := by rw [← HN2.out]; exact hlt
   obtain ⟨b, off, rfl, hc⟩ := HC.out k hlt w (Below.refl _ _)
   have HCt := Lib.hid (fun W (hb : Below w.heap.size w W) => cmd_cells (cmds_at hc (W := W) hb))
   have HM := Lib.hid (doneC_more (par := f.l) (l := f.l) hkl)
   have hok := cmds_ok HOk.out hkl
   have HDo := Lib.hid (fun g p W (h : Stg W g p f (doneC f.l f.l (l2.take k))) => cDo_any h (l2.getD k cmd0) hok)
   have hL := doneC_ok (par := f.l) HP.out (l2.take k)
   generalize doneC f.l f.l (l2.take k) = L at *
   generalize l2.getD k cmd0 = q at *
   have hcs := doC_node (par := f.l) hL.toOkl q
   have HLo := Lib.hid hL
   obtain ⟨L2, hL2⟩ : ∃ L2, doneC f.l f.l (l2.take (k + 1)) = L2 := ⟨_, rfl⟩
   have HL2 := Lib.hid hL2
   rw [hL2] at HM
   clear hL2
   rw [← HM.out] at HDo hcs
   generalize (Fs.doC env f.l L q).2 = cd at *
   have HAt := Lib.hid (show atC q = if q.kind = 4 ∨ q.kind = 5 then q.src else q.ino from rfl)
   generalize atC q = av at hcs HAt
   obtain ⟨q0, q1, q2, q3, q4, q5, q6, q7⟩ := q
   dsimp only at HAt
   clear hc hok HM hL
   go_wp2_with fail
   refine (HMp.out gs ps L _ HSs.out).mono ?_
   rintro e w6 ⟨m1, rfl, hv1, rfl⟩
   have HV1 := Lib.hid hv1
   clear hv1
   obtain ⟨c0, c1, c2, c3, c4, c5, c6, c7⟩ := HCt.out _ HB.out
   dsimp only
   go_wp2_with fail
   refine (HDo.out gs ps _ HSs.out).mono ?_
   rintro e w7 ⟨rfl, hS7, hT7⟩
   have HW1 := Lib.hid (HSs.out.sv hT7 HV1.out)
   have HBt := Lib.hid (turn_below HB.out hT7 HGs.out)
   have HSt := Lib.hid hS7
   clear hS7 hT7 HSs HB HV1 c0 c1 c2 c3 c4 c5 c6 c7 HDo
   dsimp only
   go_wp2_with fail
   refine (HMp.out gs ps L2 _ HSt.out).mono ?_
   rintro e w8 ⟨m2, rfl, hv2, rfl⟩
   have HV2 := Lib.hid hv2
   clear hv2
   rcases hcs with ⟨hcd, hLL⟩ | ⟨hcd, hav, hns⟩
   ·subst hLL
    dsimp only
    go_wp2_with fail
    refine (HNm.out m2 L2 _ HV2.out).mono ?_
    rintro e w9 ⟨rfl, hb⟩
    have HBt := Lib.hid (HBt.out.trans (hb.mono HBt.out.size))
    have HSt := Lib.hid (HSt.out.below hb)
    have HW1 := Lib.hid (HW1.out.below hb)
    clear hb
    dsimp only
    go_wp2_with fail
    refine (HNm.out m1 L2 _ HW1.out).mono ?_
    rintro e w10 ⟨rfl, hb⟩
    have HBt := Lib.hid (HBt.out.trans (hb.mono HBt.out.size))
    have HSt := Lib.hid (HSt.out.below hb)
    have hal := alike_self (nmf L2)
    clear hb
    dsimp only
    go_wp2_with fail
    go_roundw
    case rel => exact ⟨k + 1, by omega, by go_num, by rw [HL2.out]; exact HSt.out, HBt.out⟩
    case measure => simp [intOf]; omega
   ·subst hcd
    have HNs2 := Lib.hid hns
    have hav1 := hav.1
    have hav2 := hav.2
    clear hns hav
    obtain ⟨c0, c1, c2, c3, c4, c5, c6, c7⟩ := HCt.out _ HBt.out
    have HCk := Lib.hid (show q0 = 4 ∨ q0 = 5 ∨ (¬ q0 = 4 ∧ ¬ q0 = 5) by omega)
    dsimp only
    rcases HCk.out with h4 | h4 | ⟨h4, h5⟩
    ·subst h4
     obtain rfl : av = q2 := by rw [HAt.out, if_pos (.inl rfl)]
     go_wp2_with fail
     clear c0 c1 c2 c3 c4 c5 c6 c7 HAt HCk
     refine (qKeys_any HW1.out).mono ?_
     rintro e w9 ⟨ao, cap3, rfl, hS9, hb⟩
     have HBt := Lib.hid (HBt.out.trans (hb.mono HBt.out.size))
     have HSt := Lib.hid (HSt.out.below hb)
     have HW1 := Lib.hid (HW1.out.below hb)
     have HV2 := Lib.hid (HV2.out.below hb)
     have HKs := Lib.hid (fun W (hb : Below w9.heap.size w9 W) => hS9.below hb)
     have hB9 := HBt.out
     clear hb hS9
     obtain ⟨m, hm⟩ : ∃ m, m = L.length := ⟨_, rfl⟩
     have HMl := Lib.hid hm
     rw [← hm] at HKs ⊢
     have hm2 : m ≤ 256 := by rw [hm]; exact HLo.out.most
     have hmi : (m : Int) ≤ 256 := by omega
     clear hm
     dsimp only
     go_wp2_with fail
     go_loopw [13, 14, 15, 16, 17] (fun x13 _ _ _ _ w2 => ∃ (j : Nat), j ≤ m ∧ x13 = .int .i64 j ∧ Below w9.heap.size w9 w2) (fun x13 _ _ _ _ _ => m - (intOf x13).toNat)
     case atStart => exact ⟨0, Nat.zero_le _, rfl, Below.refl _ _⟩
     case round =>
      obtain ⟨j, hj, rfl, hW⟩ := hrel
      have HW := Lib.hid hW
      clear hW
      by_cases hlt2 : j < m
      ·have j0 : (j : Int) < (m : Int) := by omega
       have hj0 : (0 : Int) ≤ (j : Int) := by omega
       obtain ⟨y, hy⟩ : ∃ y, L[j]? = some y := ⟨_, List.getElem?_eq_getElem (by rw [← HMl.out]; exact hlt2)⟩
       have hym := List.mem_of_getElem? hy
       have hyp := HLo.out.pos y hym
       have hyn := Fs.node_at HLo.out.inos (show (y.1, y.2) ∈ L from hym)
       obtain ⟨b1, o1, hao, nc0⟩ := (HKs.out w9 (Below.refl _ _)).cell j hlt2
       subst hao
       rw [keys_at hy] at nc0
       have HCy := Lib.hid (fun W (hb : Below w9.heap.size w9 W) => (hb.cell (p := ⟨b1, o1 + j, none⟩) (block_lt_of_cell nc0)).trans nc0)
       have HG1 := Lib.hid (fun W (hb : Below w9.heap.size w9 W) => qGet_any (HW1.out.below hb) (i := y.1) (by omega))
       have HG2 := Lib.hid (fun W (hb : Below w9.heap.size w9 W) => qGet_any (HV2.out.below hb) (i := y.1) (by omega))
       have HKy := Lib.hid (fun W => rKey2_any av W (by omega) (by omega))
       have n1 := HCy.out wr HW.out
       clear nc0
       have hca : ∃ bq, alike (Fs.key y.1) (Fs.key av) = bq ∧ (bq = false → gtx L2 y.1 = gtx L y.1 ∧ (Fs.node L2 y.1).isSome = true) := by
        refine ⟨_, rfl, fun hf => ?_⟩
        have hya : y.1 ≠ av := fun e => by rw [e, alike_self] at hf; exact absurd hf (by decide)
        have h2 := HNs2.out y.1 hya
        exact ⟨by unfold gtx; rw [h2], by rw [h2, hyn]; rfl⟩
       obtain ⟨bq, hal, hbq⟩ := hca
       generalize gtx L2 y.1 = ty at HG2 hbq
       generalize (Fs.node L2 y.1).isSome = by2 at HG2 hbq
       generalize gtx L y.1 = tx at HG1 hbq
       generalize (Fs.node L y.1).isSome = bx at HG1
       generalize Fs.key y.1 = ky at n1 HCy HG1 HG2 hal
       generalize Fs.key av = ka at HKy hal
       clear hyn hyp hym hy
       go_wp2_with fail
       refine (HG1.out wr HW.out).mono ?_
       rintro e w10 ⟨rfl, hb⟩
       have HW := Lib.hid (HW.out.trans (hb.mono HW.out.size))
       have n2 := HCy.out w10 HW.out
       clear hb n1
       dsimp only
       go_wp2_with fail
       refine (HG2.out w10 HW.out).mono ?_
       rintro e w11 ⟨rfl, hb⟩
       have HW := Lib.hid (HW.out.trans (hb.mono HW.out.size))
       have n3 := HCy.out w11 HW.out
       clear hb n2
       dsimp only
       have HSx := Lib.hid (show ∀ W, Below w11.heap.size w11 W → W.cell? ⟨b1, o1 + j, none⟩ = some (.string ky) ∧ Below w9.heap.size w9 W from fun W hb => ⟨HCy.out W (HW.out.trans (hb.mono HW.out.size)), HW.out.trans (hb.mono HW.out.size)⟩)
       have hBd := (Below.refl w11.heap.size w11).drew
       go_wp2_with fail
       refine wp_region_any (by kernel_rfl) ?_
       change wpAny _ _ _ _ _ _ _ (World.drew _)
       refine take_at (i := 0) (d := 107) (v := ?_) rfl rfl (by kernel_rfl) (by kernel_rfl) (by kernel_rfl) (fun _ _ _ h => h) (Or.inl ⟨by rfl, ?_⟩) ?_
       rotate_left 1
       ·(intro w; go_simp; try with_reducible rfl)
       go_big_move
       change wpAny _ _ _ _ _ _ _ _
       refine take_at (i := 1) (d := 108) (v := ?_) rfl rfl (by kernel_rfl) (by kernel_rfl) (by kernel_rfl) (fun _ _ _ h => h) (Or.inl ⟨by rfl, ?_⟩) ?_
       rotate_left 1
       ·(intro w; go_simp; try with_reducible rfl)
       go_big_move
       change wpAny _ _ _ _ _ _ _ _
       refine take_at (i := 4) (d := 111) (v := ?_) rfl rfl (by kernel_rfl) (by kernel_rfl) (by kernel_rfl) (fun _ _ _ h => h) (Or.inl ⟨by rfl, ?_⟩) ?_
       rotate_left 1
       ·(intro w; go_simp; try with_reducible rfl)
       go_big_move
       change wpAny _ _ _ _ _ _ _ _
       refine take_at (i := 2) (d := 109) (v := ?_) rfl rfl (by kernel_rfl) (by kernel_rfl) (by kernel_rfl) (fun _ _ _ h => h) (Or.inl ⟨by rfl, ?_⟩) ?_
       rotate_left 1
       ·(intro w; go_simp; try with_reducible rfl)
       go_big_move
       change wpAny _ _ _ _ _ _ _ _
       cases bq
       ·obtain ⟨rfl, rfl⟩ := hbq rfl
        clear hbq
        refine wpAny_ready (rs := [3, 5]) (by kernel_rfl) (by simp) ?_
        refine AllReady.cons rfl (fun K hK => ?_) (AllReady.cons rfl (fun K hK => ?_) AllReady.nil)
        ·have hx5 := (HSx.out _ hBd).1
         go_simp
         refine hK _ _ ?_
         clear hK K hx5
         refine wpAny_ready (rs := [5]) (by kernel_rfl) (by simp) ?_
         refine AllReady.cons rfl (fun K hK => ?_) AllReady.nil
         go_simp
         with_reducible refine (HKy.out _).mono ?_
         rintro e w12 ⟨rfl, hb5⟩
         have hB5 := T8.btrans hb5 (by assumption)
         have hx5 := (HSx.out _ hB5).1
         have HX := Lib.hid (HSx.out _ hB5).2
         clear hb5 hB5 n3
         try go_simp
         refine hK _ _ ?_
         clear hK K
         refine take_at (i := 6) (d := 113) (v := ?_) rfl rfl (by kernel_rfl) (by kernel_rfl) (by kernel_rfl) (fun _ _ _ h => h) (Or.inl ⟨by rfl, ?_⟩) ?_
         rotate_left 1
         ·(intro w; go_simp; try with_reducible rfl)
         go_big_move
         change wpAny _ _ _ _ _ _ _ _
         refine take_at (i := 7) (d := 114) (v := ?_) rfl rfl (by kernel_rfl) (by kernel_rfl) (by kernel_rfl) (fun _ _ _ h => h) (Or.inl ⟨by rfl, ?_⟩) ?_
         rotate_left 1
         ·(intro w; go_simp; try with_reducible rfl)
         go_big_move
         change wpAny _ _ _ _ _ _ _ _
         refine take_at (i := 8) (d := 115) (v := ?_) rfl rfl (by kernel_rfl) (by kernel_rfl) (by kernel_rfl) (fun _ _ _ h => h) (Or.inl ⟨by kernel_rfl, ?_⟩) ?_
         rotate_left 1
         ·(intro w; go_simp; try with_reducible rfl)
         go_big_move
         change wpAny _ _ _ _ _ _ _ _
         refine take_at (i := 9) (d := 116) (v := ?_) rfl rfl (by kernel_rfl) (by kernel_rfl) (by kernel_rfl) (fun _ _ _ h => h) (Or.inl ⟨by kernel_rfl, ?_⟩) ?_
         rotate_left 1
         ·(intro w; go_simp; try with_reducible rfl)
         go_big_move
         change wpAny _ _ _ _ _ _ _ _
         refine take_at (i := 10) (d := 117) (v := ?_) rfl rfl (by kernel_rfl) (by kernel_rfl) (by kernel_rfl) (fun _ _ _ h => h) (Or.inl ⟨by kernel_rfl, ?_⟩) ?_
         rotate_left 1
         ·(intro w; go_simp; try with_reducible rfl)
         go_big_move
         change wpAny _ _ _ _ _ _ _ _
         refine take_at (i := 11) (d := 118) (v := ?_) rfl rfl (by kernel_rfl) (by kernel_rfl) (by kernel_rfl) (fun _ _ _ h => h) (Or.inl ⟨by kernel_rfl, ?_⟩) ?_
         rotate_left 1
         ·(intro w; go_simp; try with_reducible rfl)
         go_big_move
         change wpAny _ _ _ _ _ _ _ _
         refine take_at (i := 12) (d := 119) (v := ?_) rfl rfl (by kernel_rfl) (by kernel_rfl) (by kernel_rfl) (fun _ _ _ h => h) (Or.inl ⟨by kernel_rfl, ?_⟩) ?_
         rotate_left 1
         ·(intro w; go_simp; try with_reducible rfl)
         go_big_move
         change wpAny _ _ _ _ _ _ _ _
         refine take_at (i := 13) (d := 120) (v := ?_) rfl rfl (by kernel_rfl) (by kernel_rfl) (by kernel_rfl) (fun _ _ _ h => h) (Or.inl ⟨by kernel_rfl, ?_⟩) ?_
         rotate_left 1
         ·(intro w; go_simp; try with_reducible rfl)
         go_big_move
         change wpAny _ _ _ _ _ _ _ _
         refine take_at (i := 14) (d := 121) (v := ?_) rfl rfl (by kernel_rfl) (by kernel_rfl) (by kernel_rfl) (fun _ _ _ h => h) (Or.inl ⟨by kernel_rfl, ?_⟩) ?_
         rotate_left 1
         ·(intro w; go_simp; try with_reducible rfl)
         go_big_move
         change wpAny _ _ _ _ _ _ _ _
         refine take_at (i := 15) (d := 122) (v := ?_) rfl rfl (by kernel_rfl) (by kernel_rfl) (by kernel_rfl) (fun _ _ _ h => h) (Or.inl ⟨by kernel_rfl, ?_⟩) ?_
         rotate_left 1
         ·(intro w; go_simp; try with_reducible rfl)
         go_big_move
         change wpAny _ _ _ _ _ _ _ _
         refine wpAny_done (by kernel_rfl) ?_ _
         clear hal HG1 HG2
         try clear hx5
         go_wp2_with fail
         go_roundw
         case rel => exact ⟨j + 1, by omega, by go_num, HX.out⟩
         case measure => simp [intOf]; omega
        ·go_simp
         with_reducible refine (HKy.out _).mono ?_
         rintro e w12 ⟨rfl, hb5⟩
         have hB5 := T8.btrans hb5 (by assumption)
         have hx5 := (HSx.out _ hB5).1
         have HX := Lib.hid (HSx.out _ hB5).2
         clear hb5 hB5 n3
         try go_simp
         refine hK _ _ ?_
         clear hK K
         refine wpAny_ready (rs := [3]) (by kernel_rfl) (by simp) ?_
         refine AllReady.cons rfl (fun K hK => ?_) AllReady.nil
         go_simp
         refine hK _ _ ?_
         clear hK K
         refine take_at (i := 6) (d := 113) (v := ?_) rfl rfl (by kernel_rfl) (by kernel_rfl) (by kernel_rfl) (fun _ _ _ h => h) (Or.inl ⟨by rfl, ?_⟩) ?_
         rotate_left 1
         ·(intro w; go_simp; try with_reducible rfl)
         go_big_move
         change wpAny _ _ _ _ _ _ _ _
         refine take_at (i := 7) (d := 114) (v := ?_) rfl rfl (by kernel_rfl) (by kernel_rfl) (by kernel_rfl) (fun _ _ _ h => h) (Or.inl ⟨by rfl, ?_⟩) ?_
         rotate_left 1
         ·(intro w; go_simp; try with_reducible rfl)
         go_big_move
         change wpAny _ _ _ _ _ _ _ _
         refine take_at (i := 8) (d := 115) (v := ?_) rfl rfl (by kernel_rfl) (by kernel_rfl) (by kernel_rfl) (fun _ _ _ h => h) (Or.inl ⟨by kernel_rfl, ?_⟩) ?_
         rotate_left 1
         ·(intro w; go_simp; try with_reducible rfl)
         go_big_move
         change wpAny _ _ _ _ _ _ _ _
         refine take_at (i := 9) (d := 116) (v := ?_) rfl rfl (by kernel_rfl) (by kernel_rfl) (by kernel_rfl) (fun _ _ _ h => h) (Or.inl ⟨by kernel_rfl, ?_⟩) ?_
         rotate_left 1
         ·(intro w; go_simp; try with_reducible rfl)
         go_big_move
         change wpAny _ _ _ _ _ _ _ _
         refine take_at (i := 10) (d := 117) (v := ?_) rfl rfl (by kernel_rfl) (by kernel_rfl) (by kernel_rfl) (fun _ _ _ h => h) (Or.inl ⟨by kernel_rfl, ?_⟩) ?_
         rotate_left 1
         ·(intro w; go_simp; try with_reducible rfl)
         go_big_move
         change wpAny _ _ _ _ _ _ _ _
         refine take_at (i := 11) (d := 118) (v := ?_) rfl rfl (by kernel_rfl) (by kernel_rfl) (by kernel_rfl) (fun _ _ _ h => h) (Or.inl ⟨by kernel_rfl, ?_⟩) ?_
         rotate_left 1
         ·(intro w; go_simp; try with_reducible rfl)
         go_big_move
         change wpAny _ _ _ _ _ _ _ _
         refine take_at (i := 12) (d := 119) (v := ?_) rfl rfl (by kernel_rfl) (by kernel_rfl) (by kernel_rfl) (fun _ _ _ h => h) (Or.inl ⟨by kernel_rfl, ?_⟩) ?_
         rotate_left 1
         ·(intro w; go_simp; try with_reducible rfl)
         go_big_move
         change wpAny _ _ _ _ _ _ _ _
         refine take_at (i := 13) (d := 120) (v := ?_) rfl rfl (by kernel_rfl) (by kernel_rfl) (by kernel_rfl) (fun _ _ _ h => h) (Or.inl ⟨by kernel_rfl, ?_⟩) ?_
         rotate_left 1
         ·(intro w; go_simp; try with_reducible rfl)
         go_big_move
         change wpAny _ _ _ _ _ _ _ _
         refine take_at (i := 14) (d := 121) (v := ?_) rfl rfl (by kernel_rfl) (by kernel_rfl) (by kernel_rfl) (fun _ _ _ h => h) (Or.inl ⟨by kernel_rfl, ?_⟩) ?_
         rotate_left 1
         ·(intro w; go_simp; try with_reducible rfl)
         go_big_move
         change wpAny _ _ _ _ _ _ _ _
         refine take_at (i := 15) (d := 122) (v := ?_) rfl rfl (by kernel_rfl) (by kernel_rfl) (by kernel_rfl) (fun _ _ _ h => h) (Or.inl ⟨by kernel_rfl, ?_⟩) ?_
         rotate_left 1
         ·(intro w; go_simp; try with_reducible rfl)
         go_big_move
         change wpAny _ _ _ _ _ _ _ _
         refine wpAny_done (by kernel_rfl) ?_ _
         clear hal HG1 HG2
         try clear hx5
         go_wp2_with fail
         go_roundw
         case rel => exact ⟨j + 1, by omega, by go_num, HX.out⟩
         case measure => simp [intOf]; omega
       ·clear hbq
        refine wpAny_ready (rs := [3, 5]) (by kernel_rfl) (by simp) ?_
        refine AllReady.cons rfl (fun K hK => ?_) (AllReady.cons rfl (fun K hK => ?_) AllReady.nil)
        ·have hx5 := (HSx.out _ hBd).1
         go_simp
         refine hK _ _ ?_
         clear hK K hx5
         refine wpAny_ready (rs := [5]) (by kernel_rfl) (by simp) ?_
         refine AllReady.cons rfl (fun K hK => ?_) AllReady.nil
         go_simp
         with_reducible refine (HKy.out _).mono ?_
         rintro e w12 ⟨rfl, hb5⟩
         have hB5 := T8.btrans hb5 (by assumption)
         have hx5 := (HSx.out _ hB5).1
         have HX := Lib.hid (HSx.out _ hB5).2
         clear hb5 hB5 n3
         try go_simp
         refine hK _ _ ?_
         clear hK K
         refine take_at (i := 6) (d := 113) (v := ?_) rfl rfl (by kernel_rfl) (by kernel_rfl) (by kernel_rfl) (fun _ _ _ h => h) (Or.inl ⟨by rfl, ?_⟩) ?_
         rotate_left 1
         ·(intro w; go_simp; try with_reducible rfl)
         go_big_move
         change wpAny _ _ _ _ _ _ _ _
         refine take_at (i := 7) (d := 114) (v := ?_) rfl rfl (by kernel_rfl) (by kernel_rfl) (by kernel_rfl) (fun _ _ _ h => h) (Or.inl ⟨by rfl, ?_⟩) ?_
         rotate_left 1
         ·(intro w; go_simp; try with_reducible rfl)
         go_big_move
         change wpAny _ _ _ _ _ _ _ _
         refine take_at (i := 8) (d := 115) (v := undef) rfl rfl (by kernel_rfl) (by kernel_rfl) (by kernel_rfl) (fun _ _ _ h => h) (Or.inr ⟨by kernel_rfl, rfl⟩) ?_
         go_big_move
         change wpAny _ _ _ _ _ _ _ _
         refine take_at (i := 9) (d := 116) (v := undef) rfl rfl (by kernel_rfl) (by kernel_rfl) (by kernel_rfl) (fun _ _ _ h => h) (Or.inr ⟨by kernel_rfl, rfl⟩) ?_
         go_big_move
         change wpAny _ _ _ _ _ _ _ _
         refine take_at (i := 10) (d := 117) (v := undef) rfl rfl (by kernel_rfl) (by kernel_rfl) (by kernel_rfl) (fun _ _ _ h => h) (Or.inr ⟨by kernel_rfl, rfl⟩) ?_
         go_big_move
         change wpAny _ _ _ _ _ _ _ _
         refine take_at (i := 11) (d := 118) (v := undef) rfl rfl (by kernel_rfl) (by kernel_rfl) (by kernel_rfl) (fun _ _ _ h => h) (Or.inr ⟨by kernel_rfl, rfl⟩) ?_
         go_big_move
         change wpAny _ _ _ _ _ _ _ _
         refine take_at (i := 12) (d := 119) (v := undef) rfl rfl (by kernel_rfl) (by kernel_rfl) (by kernel_rfl) (fun _ _ _ h => h) (Or.inr ⟨by kernel_rfl, rfl⟩) ?_
         go_big_move
         change wpAny _ _ _ _ _ _ _ _
         refine take_at (i := 13) (d := 120) (v := undef) rfl rfl (by kernel_rfl) (by kernel_rfl) (by kernel_rfl) (fun _ _ _ h => h) (Or.inr ⟨by kernel_rfl, rfl⟩) ?_
         go_big_move
         change wpAny _ _ _ _ _ _ _ _
         refine take_at (i := 14) (d := 121) (v := undef) rfl rfl (by kernel_rfl) (by kernel_rfl) (by kernel_rfl) (fun _ _ _ h => h) (Or.inr ⟨by kernel_rfl, rfl⟩) ?_
         go_big_move
         change wpAny _ _ _ _ _ _ _ _
         refine take_at (i := 15) (d := 122) (v := ?_) rfl rfl (by kernel_rfl) (by kernel_rfl) (by kernel_rfl) (fun _ _ _ h => h) (Or.inl ⟨by kernel_rfl, ?_⟩) ?_
         rotate_left 1
         ·(intro w; go_simp; try with_reducible rfl)
         go_big_move
         change wpAny _ _ _ _ _ _ _ _
         refine wpAny_done (by kernel_rfl) ?_ _
         clear hal HG1 HG2
         try clear hx5
         go_wp2_with fail
         go_roundw
         case rel => exact ⟨j + 1, by omega, by go_num, HX.out⟩
         case measure => simp [intOf]; omega
        ·go_simp
         with_reducible refine (HKy.out _).mono ?_
         rintro e w12 ⟨rfl, hb5⟩
         have hB5 := T8.btrans hb5 (by assumption)
         have hx5 := (HSx.out _ hB5).1
         have HX := Lib.hid (HSx.out _ hB5).2
         clear hb5 hB5 n3
         try go_simp
         refine hK _ _ ?_
         clear hK K
         refine wpAny_ready (rs := [3]) (by kernel_rfl) (by simp) ?_
         refine AllReady.cons rfl (fun K hK => ?_) AllReady.nil
         go_simp
         refine hK _ _ ?_
         clear hK K
         refine take_at (i := 6) (d := 113) (v := ?_) rfl rfl (by kernel_rfl) (by kernel_rfl) (by kernel_rfl) (fun _ _ _ h => h) (Or.inl ⟨by rfl, ?_⟩) ?_
         rotate_left 1
         ·(intro w; go_simp; try with_reducible rfl)
         go_big_move
         change wpAny _ _ _ _ _ _ _ _
         refine take_at (i := 7) (d := 114) (v := ?_) rfl rfl (by kernel_rfl) (by kernel_rfl) (by kernel_rfl) (fun _ _ _ h => h) (Or.inl ⟨by rfl, ?_⟩) ?_
         rotate_left 1
         ·(intro w; go_simp; try with_reducible rfl)
         go_big_move
         change wpAny _ _ _ _ _ _ _ _
         refine take_at (i := 8) (d := 115) (v := undef) rfl rfl (by kernel_rfl) (by kernel_rfl) (by kernel_rfl) (fun _ _ _ h => h) (Or.inr ⟨by kernel_rfl, rfl⟩) ?_
         go_big_move
         change wpAny _ _ _ _ _ _ _ _
         refine take_at (i := 9) (d := 116) (v := undef) rfl rfl (by kernel_rfl) (by kernel_rfl) (by kernel_rfl) (fun _ _ _ h => h) (Or.inr ⟨by kernel_rfl, rfl⟩) ?_
         go_big_move
         change wpAny _ _ _ _ _ _ _ _
         refine take_at (i := 10) (d := 117) (v := undef) rfl rfl (by kernel_rfl) (by kernel_rfl) (by kernel_rfl) (fun _ _ _ h => h) (Or.inr ⟨by kernel_rfl, rfl⟩) ?_
         go_big_move
         change wpAny _ _ _ _ _ _ _ _
         refine take_at (i := 11) (d := 118) (v := undef) rfl rfl (by kernel_rfl) (by kernel_rfl) (by kernel_rfl) (fun _ _ _ h => h) (Or.inr ⟨by kernel_rfl, rfl⟩) ?_
         go_big_move
         change wpAny _ _ _ _ _ _ _ _
         refine take_at (i := 12) (d := 119) (v := undef) rfl rfl (by kernel_rfl) (by kernel_rfl) (by kernel_rfl) (fun _ _ _ h => h) (Or.inr ⟨by kernel_rfl, rfl⟩) ?_
         go_big_move
         change wpAny _ _ _ _ _ _ _ _
         refine take_at (i := 13) (d := 120) (v := undef) rfl rfl (by kernel_rfl) (by kernel_rfl) (by kernel_rfl) (fun _ _ _ h => h) (Or.inr ⟨by kernel_rfl, rfl⟩) ?_
         go_big_move
         change wpAny _ _ _ _ _ _ _ _
         refine take_at (i := 14) (d := 121) (v := undef) rfl rfl (by kernel_rfl) (by kernel_rfl) (by kernel_rfl) (fun _ _ _ h => h) (Or.inr ⟨by kernel_rfl, rfl⟩) ?_
         go_big_move
         change wpAny _ _ _ _ _ _ _ _
         refine take_at (i := 15) (d := 122) (v := ?_) rfl rfl (by kernel_rfl) (by kernel_rfl) (by kernel_rfl) (fun _ _ _ h => h) (Or.inl ⟨by kernel_rfl, ?_⟩) ?_
         rotate_left 1
         ·(intro w; go_simp; try with_reducible rfl)
         go_big_move
         change wpAny _ _ _ _ _ _ _ _
         refine wpAny_done (by kernel_rfl) ?_ _
         clear hal HG1 HG2
         try clear hx5
         go_wp2_with fail
         go_roundw
         case rel => exact ⟨j + 1, by omega, by go_num, HX.out⟩
         case measure => simp [intOf]; omega
      ·obtain rfl : j = m := by omega
       have hge2 : ¬ ((j : Int) < (j : Int)) := by omega
       go_wp2_with fail
       go_roundw
       case rel => exact ⟨k + 1, by omega, by go_num, by rw [HL2.out]; exact HSt.out.below HW.out, hB9.trans (HW.out.mono hB9.size)⟩
       case measure => simp [intOf]; omega
    ·subst h4
     obtain rfl : av = q2 := by rw [HAt.out, if_pos (.inr rfl)]
     go_wp2_with fail
     clear c0 c1 c2 c3 c4 c5 c6 c7 HAt HCk
     refine (qKeys_any HW1.out).mono ?_
     rintro e w9 ⟨ao, cap3, rfl, hS9, hb⟩
     have HBt := Lib.hid (HBt.out.trans (hb.mono HBt.out.size))
     have HSt := Lib.hid (HSt.out.below hb)
     have HW1 := Lib.hid (HW1.out.below hb)
     have HV2 := Lib.hid (HV2.out.below hb)
     have HKs := Lib.hid (fun W (hb : Below w9.heap.size w9 W) => hS9.below hb)
     have hB9 := HBt.out
     clear hb hS9
     obtain ⟨m, hm⟩ : ∃ m, m = L.length := ⟨_, rfl⟩
     have HMl := Lib.hid hm
     rw [← hm] at HKs ⊢
     have hm2 : m ≤ 256 := by rw [hm]; exact HLo.out.most
     have hmi : (m : Int) ≤ 256 := by omega
     clear hm
     dsimp only
     go_wp2_with fail
     go_loopw [13, 14, 15, 16, 17] (fun x13 _ _ _ _ w2 => ∃ (j : Nat), j ≤ m ∧ x13 = .int .i64 j ∧ Below w9.heap.size w9 w2) (fun x13 _ _ _ _ _ => m - (intOf x13).toNat)
     case atStart => exact ⟨0, Nat.zero_le _, rfl, Below.refl _ _⟩
     case round =>
      obtain ⟨j, hj, rfl, hW⟩ := hrel
      have HW := Lib.hid hW
      clear hW
      by_cases hlt2 : j < m
      ·have j0 : (j : Int) < (m : Int) := by omega
       have hj0 : (0 : Int) ≤ (j : Int) := by omega
       obtain ⟨y, hy⟩ : ∃ y, L[j]? = some y := ⟨_, List.getElem?_eq_getElem (by rw [← HMl.out]; exact hlt2)⟩
       have hym := List.mem_of_getElem? hy
       have hyp := HLo.out.pos y hym
       have hyn := Fs.node_at HLo.out.inos (show (y.1, y.2) ∈ L from hym)
       obtain ⟨b1, o1, hao, nc0⟩ := (HKs.out w9 (Below.refl _ _)).cell j hlt2
       subst hao
       rw [keys_at hy] at nc0
       have HCy := Lib.hid (fun W (hb : Below w9.heap.size w9 W) => (hb.cell (p := ⟨b1, o1 + j, none⟩) (block_lt_of_cell nc0)).trans nc0)
       have HG1 := Lib.hid (fun W (hb : Below w9.heap.size w9 W) => qGet_any (HW1.out.below hb) (i := y.1) (by omega))
       have HG2 := Lib.hid (fun W (hb : Below w9.heap.size w9 W) => qGet_any (HV2.out.below hb) (i := y.1) (by omega))
       have HKy := Lib.hid (fun W => rKey2_any av W (by omega) (by omega))
       have n1 := HCy.out wr HW.out
       clear nc0
       have hca : ∃ bq, alike (Fs.key y.1) (Fs.key av) = bq ∧ (bq = false → gtx L2 y.1 = gtx L y.1 ∧ (Fs.node L2 y.1).isSome = true) := by
        refine ⟨_, rfl, fun hf => ?_⟩
        have hya : y.1 ≠ av := fun e => by rw [e, alike_self] at hf; exact absurd hf (by decide)
        have h2 := HNs2.out y.1 hya
        exact ⟨by unfold gtx; rw [h2], by rw [h2, hyn]; rfl⟩
       obtain ⟨bq, hal, hbq⟩ := hca
       generalize gtx L2 y.1 = ty at HG2 hbq
       generalize (Fs.node L2 y.1).isSome = by2 at HG2 hbq
       generalize gtx L y.1 = tx at HG1 hbq
       generalize (Fs.node L y.1).isSome = bx at HG1
       generalize Fs.key y.1 = ky at n1 HCy HG1 HG2 hal
       generalize Fs.key av = ka at HKy hal
       clear hyn hyp hym hy
       go_wp2_with fail
       refine (HG1.out wr HW.out).mono ?_
       rintro e w10 ⟨rfl, hb⟩
       have HW := Lib.hid (HW.out.trans (hb.mono HW.out.size))
       have n2 := HCy.out w10 HW.out
       clear hb n1
       dsimp only
       go_wp2_with fail
       refine (HG2.out w10 HW.out).mono ?_
       rintro e w11 ⟨rfl, hb⟩
       have HW := Lib.hid (HW.out.trans (hb.mono HW.out.size))
       have n3 := HCy.out w11 HW.out
       clear hb n2
       dsimp only
       have HSx := Lib.hid (show ∀ W, Below w11.heap.size w11 W → W.cell? ⟨b1, o1 + j, none⟩ = some (.string ky) ∧ Below w9.heap.size w9 W from fun W hb => ⟨HCy.out W (HW.out.trans (hb.mono HW.out.size)), HW.out.trans (hb.mono HW.out.size)⟩)
       have hBd := (Below.refl w11.heap.size w11).drew
       go_wp2_with fail
       refine wp_region_any (by kernel_rfl) ?_
       change wpAny _ _ _ _ _ _ _ (World.drew _)
       refine take_at (i := 0) (d := 107) (v := ?_) rfl rfl (by kernel_rfl) (by kernel_rfl) (by kernel_rfl) (fun _ _ _ h => h) (Or.inl ⟨by rfl, ?_⟩) ?_
       rotate_left 1
       ·(intro w; go_simp; try with_reducible rfl)
       go_big_move
       change wpAny _ _ _ _ _ _ _ _
       refine take_at (i := 1) (d := 108) (v := ?_) rfl rfl (by kernel_rfl) (by kernel_rfl) (by kernel_rfl) (fun _ _ _ h => h) (Or.inl ⟨by rfl, ?_⟩) ?_
       rotate_left 1
       ·(intro w; go_simp; try with_reducible rfl)
       go_big_move
       change wpAny _ _ _ _ _ _ _ _
       refine take_at (i := 4) (d := 111) (v := ?_) rfl rfl (by kernel_rfl) (by kernel_rfl) (by kernel_rfl) (fun _ _ _ h => h) (Or.inl ⟨by rfl, ?_⟩) ?_
       rotate_left 1
       ·(intro w; go_simp; try with_reducible rfl)
       go_big_move
       change wpAny _ _ _ _ _ _ _ _
       refine take_at (i := 2) (d := 109) (v := ?_) rfl rfl (by kernel_rfl) (by kernel_rfl) (by kernel_rfl) (fun _ _ _ h => h) (Or.inl ⟨by rfl, ?_⟩) ?_
       rotate_left 1
       ·(intro w; go_simp; try with_reducible rfl)
       go_big_move
       change wpAny _ _ _ _ _ _ _ _
       cases bq
       ·obtain ⟨rfl, rfl⟩ := hbq rfl
        clear hbq
        refine wpAny_ready (rs := [3, 5]) (by kernel_rfl) (by simp) ?_
        refine AllReady.cons rfl (fun K hK => ?_) (AllReady.cons rfl (fun K hK => ?_) AllReady.nil)
        ·have hx5 := (HSx.out _ hBd).1
         go_simp
         refine hK _ _ ?_
         clear hK K hx5
         refine wpAny_ready (rs := [5]) (by kernel_rfl) (by simp) ?_
         refine AllReady.cons rfl (fun K hK => ?_) AllReady.nil
         go_simp
         with_reducible refine (HKy.out _).mono ?_
         rintro e w12 ⟨rfl, hb5⟩
         have hB5 := T8.btrans hb5 (by assumption)
         have hx5 := (HSx.out _ hB5).1
         have HX := Lib.hid (HSx.out _ hB5).2
         clear hb5 hB5 n3
         try go_simp
         refine hK _ _ ?_
         clear hK K
         refine take_at (i := 6) (d := 113) (v := ?_) rfl rfl (by kernel_rfl) (by kernel_rfl) (by kernel_rfl) (fun _ _ _ h => h) (Or.inl ⟨by rfl, ?_⟩) ?_
         rotate_left 1
         ·(intro w; go_simp; try with_reducible rfl)
         go_big_move
         change wpAny _ _ _ _ _ _ _ _
         refine take_at (i := 7) (d := 114) (v := ?_) rfl rfl (by kernel_rfl) (by kernel_rfl) (by kernel_rfl) (fun _ _ _ h => h) (Or.inl ⟨by rfl, ?_⟩) ?_
         rotate_left 1
         ·(intro w; go_simp; try with_reducible rfl)
         go_big_move
         change wpAny _ _ _ _ _ _ _ _
         refine take_at (i := 8) (d := 115) (v := ?_) rfl rfl (by kernel_rfl) (by kernel_rfl) (by kernel_rfl) (fun _ _ _ h => h) (Or.inl ⟨by kernel_rfl, ?_⟩) ?_
         rotate_left 1
         ·(intro w; go_simp; try with_reducible rfl)
         go_big_move
         change wpAny _ _ _ _ _ _ _ _
         refine take_at (i := 9) (d := 116) (v := ?_) rfl rfl (by kernel_rfl) (by kernel_rfl) (by kernel_rfl) (fun _ _ _ h => h) (Or.inl ⟨by kernel_rfl, ?_⟩) ?_
         rotate_left 1
         ·(intro w; go_simp; try with_reducible rfl)
         go_big_move
         change wpAny _ _ _ _ _ _ _ _
         refine take_at (i := 10) (d := 117) (v := ?_) rfl rfl (by kernel_rfl) (by kernel_rfl) (by kernel_rfl) (fun _ _ _ h => h) (Or.inl ⟨by kernel_rfl, ?_⟩) ?_
         rotate_left 1
         ·(intro w; go_simp; try with_reducible rfl)
         go_big_move
         change wpAny _ _ _ _ _ _ _ _
         refine take_at (i := 11) (d := 118) (v := ?_) rfl rfl (by kernel_rfl) (by kernel_rfl) (by kernel_rfl) (fun _ _ _ h => h) (Or.inl ⟨by kernel_rfl, ?_⟩) ?_
         rotate_left 1
         ·(intro w; go_simp; try with_reducible rfl)
         go_big_move
         change wpAny _ _ _ _ _ _ _ _
         refine take_at (i := 12) (d := 119) (v := ?_) rfl rfl (by kernel_rfl) (by kernel_rfl) (by kernel_rfl) (fun _ _ _ h => h) (Or.inl ⟨by kernel_rfl, ?_⟩) ?_
         rotate_left 1
         ·(intro w; go_simp; try with_reducible rfl)
         go_big_move
         change wpAny _ _ _ _ _ _ _ _
         refine take_at (i := 13) (d := 120) (v := ?_) rfl rfl (by kernel_rfl) (by kernel_rfl) (by kernel_rfl) (fun _ _ _ h => h) (Or.inl ⟨by kernel_rfl, ?_⟩) ?_
         rotate_left 1
         ·(intro w; go_simp; try with_reducible rfl)
         go_big_move
         change wpAny _ _ _ _ _ _ _ _
         refine take_at (i := 14) (d := 121) (v := ?_) rfl rfl (by kernel_rfl) (by kernel_rfl) (by kernel_rfl) (fun _ _ _ h => h) (Or.inl ⟨by kernel_rfl, ?_⟩) ?_
         rotate_left 1
         ·(intro w; go_simp; try with_reducible rfl)
         go_big_move
         change wpAny _ _ _ _ _ _ _ _
         refine take_at (i := 15) (d := 122) (v := ?_) rfl rfl (by kernel_rfl) (by kernel_rfl) (by kernel_rfl) (fun _ _ _ h => h) (Or.inl ⟨by kernel_rfl, ?_⟩) ?_
         rotate_left 1
         ·(intro w; go_simp; try with_reducible rfl)
         go_big_move
         change wpAny _ _ _ _ _ _ _ _
         refine wpAny_done (by kernel_rfl) ?_ _
         clear hal HG1 HG2
         try clear hx5
         go_wp2_with fail
         go_roundw
         case rel => exact ⟨j + 1, by omega, by go_num, HX.out⟩
         case measure => simp [intOf]; omega
        ·go_simp
         with_reducible refine (HKy.out _).mono ?_
         rintro e w12 ⟨rfl, hb5⟩
         have hB5 := T8.btrans hb5 (by assumption)
         have hx5 := (HSx.out _ hB5).1
         have HX := Lib.hid (HSx.out _ hB5).2
         clear hb5 hB5 n3
         try go_simp
         refine hK _ _ ?_
         clear hK K
         refine wpAny_ready (rs := [3]) (by kernel_rfl) (by simp) ?_
         refine AllReady.cons rfl (fun K hK => ?_) AllReady.nil
         go_simp
         refine hK _ _ ?_
         clear hK K
         refine take_at (i := 6) (d := 113) (v := ?_) rfl rfl (by kernel_rfl) (by kernel_rfl) (by kernel_rfl) (fun _ _ _ h => h) (Or.inl ⟨by rfl, ?_⟩) ?_
         rotate_left 1
         ·(intro w; go_simp; try with_reducible rfl)
         go_big_move
         change wpAny _ _ _ _ _ _ _ _
         refine take_at (i := 7) (d := 114) (v := ?_) rfl rfl (by kernel_rfl) (by kernel_rfl) (by kernel_rfl) (fun _ _ _ h => h) (Or.inl ⟨by rfl, ?_⟩) ?_
         rotate_left 1
         ·(intro w; go_simp; try with_reducible rfl)
         go_big_move
         change wpAny _ _ _ _ _ _ _ _
         refine take_at (i := 8) (d := 115) (v := ?_) rfl rfl (by kernel_rfl) (by kernel_rfl) (by kernel_rfl) (fun _ _ _ h => h) (Or.inl ⟨by kernel_rfl, ?_⟩) ?_
         rotate_left 1
         ·(intro w; go_simp; try with_reducible rfl)
         go_big_move
         change wpAny _ _ _ _ _ _ _ _
         refine take_at (i := 9) (d := 116) (v := ?_) rfl rfl (by kernel_rfl) (by kernel_rfl) (by kernel_rfl) (fun _ _ _ h => h) (Or.inl ⟨by kernel_rfl, ?_⟩) ?_
         rotate_left 1
         ·(intro w; go_simp; try with_reducible rfl)
         go_big_move
         change wpAny _ _ _ _ _ _ _ _
         refine take_at (i := 10) (d := 117) (v := ?_) rfl rfl (by kernel_rfl) (by kernel_rfl) (by kernel_rfl) (fun _ _ _ h => h) (Or.inl ⟨by kernel_rfl, ?_⟩) ?_
         rotate_left 1
         ·(intro w; go_simp; try with_reducible rfl)
         go_big_move
         change wpAny _ _ _ _ _ _ _ _
         refine take_at (i := 11) (d := 118) (v := ?_) rfl rfl (by kernel_rfl) (by kernel_rfl) (by kernel_rfl) (fun _ _ _ h => h) (Or.inl ⟨by kernel_rfl, ?_⟩) ?_
         rotate_left 1
         ·(intro w; go_simp; try with_reducible rfl)
         go_big_move
         change wpAny _ _ _ _ _ _ _ _
         refine take_at (i := 12) (d := 119) (v := ?_) rfl rfl (by kernel_rfl) (by kernel_rfl) (by kernel_rfl) (fun _ _ _ h => h) (Or.inl ⟨by kernel_rfl, ?_⟩) ?_
         rotate_left 1
         ·(intro w; go_simp; try with_reducible rfl)
         go_big_move
         change wpAny _ _ _ _ _ _ _ _
         refine take_at (i := 13) (d := 120) (v := ?_) rfl rfl (by kernel_rfl) (by kernel_rfl) (by kernel_rfl) (fun _ _ _ h => h) (Or.inl ⟨by kernel_rfl, ?_⟩) ?_
         rotate_left 1
         ·(intro w; go_simp; try with_reducible rfl)
         go_big_move
         change wpAny _ _ _ _ _ _ _ _
         refine take_at (i := 14) (d := 121) (v := ?_) rfl rfl (by kernel_rfl) (by kernel_rfl) (by kernel_rfl) (fun _ _ _ h => h) (Or.inl ⟨by kernel_rfl, ?_⟩) ?_
         rotate_left 1
         ·(intro w; go_simp; try with_reducible rfl)
         go_big_move
         change wpAny _ _ _ _ _ _ _ _
         refine take_at (i := 15) (d := 122) (v := ?_) rfl rfl (by kernel_rfl) (by kernel_rfl) (by kernel_rfl) (fun _ _ _ h => h) (Or.inl ⟨by kernel_rfl, ?_⟩) ?_
         rotate_left 1
         ·(intro w; go_simp; try with_reducible rfl)
         go_big_move
         change wpAny _ _ _ _ _ _ _ _
         refine wpAny_done (by kernel_rfl) ?_ _
         clear hal HG1 HG2
         try clear hx5
         go_wp2_with fail
         go_roundw
         case rel => exact ⟨j + 1, by omega, by go_num, HX.out⟩
         case measure => simp [intOf]; omega
       ·clear hbq
        refine wpAny_ready (rs := [3, 5]) (by kernel_rfl) (by simp) ?_
        refine AllReady.cons rfl (fun K hK => ?_) (AllReady.cons rfl (fun K hK => ?_) AllReady.nil)
        ·have hx5 := (HSx.out _ hBd).1
         go_simp
         refine hK _ _ ?_
         clear hK K hx5
         refine wpAny_ready (rs := [5]) (by kernel_rfl) (by simp) ?_
         refine AllReady.cons rfl (fun K hK => ?_) AllReady.nil
         go_simp
         with_reducible refine (HKy.out _).mono ?_
         rintro e w12 ⟨rfl, hb5⟩
         have hB5 := T8.btrans hb5 (by assumption)
         have hx5 := (HSx.out _ hB5).1
         have HX := Lib.hid (HSx.out _ hB5).2
         clear hb5 hB5 n3
         try go_simp
         refine hK _ _ ?_
         clear hK K
         refine take_at (i := 6) (d := 113) (v := ?_) rfl rfl (by kernel_rfl) (by kernel_rfl) (by kernel_rfl) (fun _ _ _ h => h) (Or.inl ⟨by rfl, ?_⟩) ?_
         rotate_left 1
         ·(intro w; go_simp; try with_reducible rfl)
         go_big_move
         change wpAny _ _ _ _ _ _ _ _
         refine take_at (i := 7) (d := 114) (v := ?_) rfl rfl (by kernel_rfl) (by kernel_rfl) (by kernel_rfl) (fun _ _ _ h => h) (Or.inl ⟨by rfl, ?_⟩) ?_
         rotate_left 1
         ·(intro w; go_simp; try with_reducible rfl)
         go_big_move
         change wpAny _ _ _ _ _ _ _ _
         refine take_at (i := 8) (d := 115) (v := undef) rfl rfl (by kernel_rfl) (by kernel_rfl) (by kernel_rfl) (fun _ _ _ h => h) (Or.inr ⟨by kernel_rfl, rfl⟩) ?_
         go_big_move
         change wpAny _ _ _ _ _ _ _ _
         refine take_at (i := 9) (d := 116) (v := undef) rfl rfl (by kernel_rfl) (by kernel_rfl) (by kernel_rfl) (fun _ _ _ h => h) (Or.inr ⟨by kernel_rfl, rfl⟩) ?_
         go_big_move
         change wpAny _ _ _ _ _ _ _ _
         refine take_at (i := 10) (d := 117) (v := undef) rfl rfl (by kernel_rfl) (by kernel_rfl) (by kernel_rfl) (fun _ _ _ h => h) (Or.inr ⟨by kernel_rfl, rfl⟩) ?_
         go_big_move
         change wpAny _ _ _ _ _ _ _ _
         refine take_at (i := 11) (d := 118) (v := undef) rfl rfl (by kernel_rfl) (by kernel_rfl) (by kernel_rfl) (fun _ _ _ h => h) (Or.inr ⟨by kernel_rfl, rfl⟩) ?_
         go_big_move
         change wpAny _ _ _ _ _ _ _ _
         refine take_at (i := 12) (d := 119) (v := undef) rfl rfl (by kernel_rfl) (by kernel_rfl) (by kernel_rfl) (fun _ _ _ h => h) (Or.inr ⟨by kernel_rfl, rfl⟩) ?_
         go_big_move
         change wpAny _ _ _ _ _ _ _ _
         refine take_at (i := 13) (d := 120) (v := undef) rfl rfl (by kernel_rfl) (by kernel_rfl) (by kernel_rfl) (fun _ _ _ h => h) (Or.inr ⟨by kernel_rfl, rfl⟩) ?_
         go_big_move
         change wpAny _ _ _ _ _ _ _ _
         refine take_at (i := 14) (d := 121) (v := undef) rfl rfl (by kernel_rfl) (by kernel_rfl) (by kernel_rfl) (fun _ _ _ h => h) (Or.inr ⟨by kernel_rfl, rfl⟩) ?_
         go_big_move
         change wpAny _ _ _ _ _ _ _ _
         refine take_at (i := 15) (d := 122) (v := ?_) rfl rfl (by kernel_rfl) (by kernel_rfl) (by kernel_rfl) (fun _ _ _ h => h) (Or.inl ⟨by kernel_rfl, ?_⟩) ?_
         rotate_left 1
         ·(intro w; go_simp; try with_reducible rfl)
         go_big_move
         change wpAny _ _ _ _ _ _ _ _
         refine wpAny_done (by kernel_rfl) ?_ _
         clear hal HG1 HG2
         try clear hx5
         go_wp2_with fail
         go_roundw
         case rel => exact ⟨j + 1, by omega, by go_num, HX.out⟩
         case measure => simp [intOf]; omega
        ·go_simp
         with_reducible refine (HKy.out _).mono ?_
         rintro e w12 ⟨rfl, hb5⟩
         have hB5 := T8.btrans hb5 (by assumption)
         have hx5 := (HSx.out _ hB5).1
         have HX := Lib.hid (HSx.out _ hB5).2
         clear hb5 hB5 n3
         try go_simp
         refine hK _ _ ?_
         clear hK K
         refine wpAny_ready (rs := [3]) (by kernel_rfl) (by simp) ?_
         refine AllReady.cons rfl (fun K hK => ?_) AllReady.nil
         go_simp
         refine hK _ _ ?_
         clear hK K
         refine take_at (i := 6) (d := 113) (v := ?_) rfl rfl (by kernel_rfl) (by kernel_rfl) (by kernel_rfl) (fun _ _ _ h => h) (Or.inl ⟨by rfl, ?_⟩) ?_
         rotate_left 1
         ·(intro w; go_simp; try with_reducible rfl)
         go_big_move
         change wpAny _ _ _ _ _ _ _ _
         refine take_at (i := 7) (d := 114) (v := ?_) rfl rfl (by kernel_rfl) (by kernel_rfl) (by kernel_rfl) (fun _ _ _ h => h) (Or.inl ⟨by rfl, ?_⟩) ?_
         rotate_left 1
         ·(intro w; go_simp; try with_reducible rfl)
         go_big_move
         change wpAny _ _ _ _ _ _ _ _
         refine take_at (i := 8) (d := 115) (v := undef) rfl rfl (by kernel_rfl) (by kernel_rfl) (by kernel_rfl) (fun _ _ _ h => h) (Or.inr ⟨by kernel_rfl, rfl⟩) ?_
         go_big_move
         change wpAny _ _ _ _ _ _ _ _
         refine take_at (i := 9) (d := 116) (v := undef) rfl rfl (by kernel_rfl) (by kernel_rfl) (by kernel_rfl) (fun _ _ _ h => h) (Or.inr ⟨by kernel_rfl, rfl⟩) ?_
         go_big_move
         change wpAny _ _ _ _ _ _ _ _
         refine take_at (i := 10) (d := 117) (v := undef) rfl rfl (by kernel_rfl) (by kernel_rfl) (by kernel_rfl) (fun _ _ _ h => h) (Or.inr ⟨by kernel_rfl, rfl⟩) ?_
         go_big_move
         change wpAny _ _ _ _ _ _ _ _
         refine take_at (i := 11) (d := 118) (v := undef) rfl rfl (by kernel_rfl) (by kernel_rfl) (by kernel_rfl) (fun _ _ _ h => h) (Or.inr ⟨by kernel_rfl, rfl⟩) ?_
         go_big_move
         change wpAny _ _ _ _ _ _ _ _
         refine take_at (i := 12) (d := 119) (v := undef) rfl rfl (by kernel_rfl) (by kernel_rfl) (by kernel_rfl) (fun _ _ _ h => h) (Or.inr ⟨by kernel_rfl, rfl⟩) ?_
         go_big_move
         change wpAny _ _ _ _ _ _ _ _
         refine take_at (i := 13) (d := 120) (v := undef) rfl rfl (by kernel_rfl) (by kernel_rfl) (by kernel_rfl) (fun _ _ _ h => h) (Or.inr ⟨by kernel_rfl, rfl⟩) ?_
         go_big_move
         change wpAny _ _ _ _ _ _ _ _
         refine take_at (i := 14) (d := 121) (v := undef) rfl rfl (by kernel_rfl) (by kernel_rfl) (by kernel_rfl) (fun _ _ _ h => h) (Or.inr ⟨by kernel_rfl, rfl⟩) ?_
         go_big_move
         change wpAny _ _ _ _ _ _ _ _
         refine take_at (i := 15) (d := 122) (v := ?_) rfl rfl (by kernel_rfl) (by kernel_rfl) (by kernel_rfl) (fun _ _ _ h => h) (Or.inl ⟨by kernel_rfl, ?_⟩) ?_
         rotate_left 1
         ·(intro w; go_simp; try with_reducible rfl)
         go_big_move
         change wpAny _ _ _ _ _ _ _ _
         refine wpAny_done (by kernel_rfl) ?_ _
         clear hal HG1 HG2
         try clear hx5
         go_wp2_with fail
         go_roundw
         case rel => exact ⟨j + 1, by omega, by go_num, HX.out⟩
         case measure => simp [intOf]; omega
      ·obtain rfl : j = m := by omega
       have hge2 : ¬ ((j : Int) < (j : Int)) := by omega
       go_wp2_with fail
       go_roundw
       case rel => exact ⟨k + 1, by omega, by go_num, by rw [HL2.out]; exact HSt.out.below HW.out, hB9.trans (HW.out.mono hB9.size)⟩
       case measure => simp [intOf]; omega
    ·obtain rfl : av = q1 := by rw [HAt.out, if_neg (by omega)]
     have h4b : (q0 == 4) = false := by simpa using h4
     have h5b : (q0 == 5) = false := by simpa using h5
     clear h4 h5
     go_wp2_with fail
     clear c0 c1 c2 c3 c4 c5 c6 c7 HAt HCk
     refine (qKeys_any HW1.out).mono ?_
     rintro e w9 ⟨ao, cap3, rfl, hS9, hb⟩
     have HBt := Lib.hid (HBt.out.trans (hb.mono HBt.out.size))
     have HSt := Lib.hid (HSt.out.below hb)
     have HW1 := Lib.hid (HW1.out.below hb)
     have HV2 := Lib.hid (HV2.out.below hb)
     have HKs := Lib.hid (fun W (hb : Below w9.heap.size w9 W) => hS9.below hb)
     have hB9 := HBt.out
     clear hb hS9
     obtain ⟨m, hm⟩ : ∃ m, m = L.length := ⟨_, rfl⟩
     have HMl := Lib.hid hm
     rw [← hm] at HKs ⊢
     have hm2 : m ≤ 256 := by rw [hm]; exact HLo.out.most
     have hmi : (m : Int) ≤ 256 := by omega
     clear hm
     dsimp only
     go_wp2_with fail
     go_loopw [13, 14, 15, 16, 17] (fun x13 _ _ _ _ w2 => ∃ (j : Nat), j ≤ m ∧ x13 = .int .i64 j ∧ Below w9.heap.size w9 w2) (fun x13 _ _ _ _ _ => m - (intOf x13).toNat)
     case atStart => exact ⟨0, Nat.zero_le _, rfl, Below.refl _ _⟩
     case round =>
      obtain ⟨j, hj, rfl, hW⟩ := hrel
      have HW := Lib.hid hW
      clear hW
      by_cases hlt2 : j < m
      ·have j0 : (j : Int) < (m : Int) := by omega
       have hj0 : (0 : Int) ≤ (j : Int) := by omega
       obtain ⟨y, hy⟩ : ∃ y, L[j]? = some y := ⟨_, List.getElem?_eq_getElem (by rw [← HMl.out]; exact hlt2)⟩
       have hym := List.mem_of_getElem? hy
       have hyp := HLo.out.pos y hym
       have hyn := Fs.node_at HLo.out.inos (show (y.1, y.2) ∈ L from hym)
       obtain ⟨b1, o1, hao, nc0⟩ := (HKs.out w9 (Below.refl _ _)).cell j hlt2
       subst hao
       rw [keys_at hy] at nc0
       have HCy := Lib.hid (fun W (hb : Below w9.heap.size w9 W) => (hb.cell (p := ⟨b1, o1 + j, none⟩) (block_lt_of_cell nc0)).trans nc0)
       have HG1 := Lib.hid (fun W (hb : Below w9.heap.size w9 W) => qGet_any (HW1.out.below hb) (i := y.1) (by omega))
       have HG2 := Lib.hid (fun W (hb : Below w9.heap.size w9 W) => qGet_any (HV2.out.below hb) (i := y.1) (by omega))
       have HKy := Lib.hid (fun W => rKey2_any av W (by omega) (by omega))
       have n1 := HCy.out wr HW.out
       clear nc0
       have hca : ∃ bq, alike (Fs.key y.1) (Fs.key av) = bq ∧ (bq = false → gtx L2 y.1 = gtx L y.1 ∧ (Fs.node L2 y.1).isSome = true) := by
        refine ⟨_, rfl, fun hf => ?_⟩
        have hya : y.1 ≠ av := fun e => by rw [e, alike_self] at hf; exact absurd hf (by decide)
        have h2 := HNs2.out y.1 hya
        exact ⟨by unfold gtx; rw [h2], by rw [h2, hyn]; rfl⟩
       obtain ⟨bq, hal, hbq⟩ := hca
       generalize gtx L2 y.1 = ty at HG2 hbq
       generalize (Fs.node L2 y.1).isSome = by2 at HG2 hbq
       generalize gtx L y.1 = tx at HG1 hbq
       generalize (Fs.node L y.1).isSome = bx at HG1
       generalize Fs.key y.1 = ky at n1 HCy HG1 HG2 hal
       generalize Fs.key av = ka at HKy hal
       clear hyn hyp hym hy
       go_wp2_with fail
       refine (HG1.out wr HW.out).mono ?_
       rintro e w10 ⟨rfl, hb⟩
       have HW := Lib.hid (HW.out.trans (hb.mono HW.out.size))
       have n2 := HCy.out w10 HW.out
       clear hb n1
       dsimp only
       go_wp2_with fail
       refine (HG2.out w10 HW.out).mono ?_
       rintro e w11 ⟨rfl, hb⟩
       have HW := Lib.hid (HW.out.trans (hb.mono HW.out.size))
       have n3 := HCy.out w11 HW.out
       clear hb n2
       dsimp only
       have HSx := Lib.hid (show ∀ W, Below w11.heap.size w11 W → W.cell? ⟨b1, o1 + j, none⟩ = some (.string ky) ∧ Below w9.heap.size w9 W from fun W hb => ⟨HCy.out W (HW.out.trans (hb.mono HW.out.size)), HW.out.trans (hb.mono HW.out.size)⟩)
       have hBd := (Below.refl w11.heap.size w11).drew
       go_wp2_with fail
       refine wp_region_any (by kernel_rfl) ?_
       change wpAny _ _ _ _ _ _ _ (World.drew _)
       refine take_at (i := 0) (d := 107) (v := ?_) rfl rfl (by kernel_rfl) (by kernel_rfl) (by kernel_rfl) (fun _ _ _ h => h) (Or.inl ⟨by rfl, ?_⟩) ?_
       rotate_left 1
       ·(intro w; go_simp; try with_reducible rfl)
       go_big_move
       change wpAny _ _ _ _ _ _ _ _
       refine take_at (i := 1) (d := 108) (v := ?_) rfl rfl (by kernel_rfl) (by kernel_rfl) (by kernel_rfl) (fun _ _ _ h => h) (Or.inl ⟨by rfl, ?_⟩) ?_
       rotate_left 1
       ·(intro w; go_simp; try with_reducible rfl)
       go_big_move
       change wpAny _ _ _ _ _ _ _ _
       refine take_at (i := 4) (d := 111) (v := ?_) rfl rfl (by kernel_rfl) (by kernel_rfl) (by kernel_rfl) (fun _ _ _ h => h) (Or.inl ⟨by rfl, ?_⟩) ?_
       rotate_left 1
       ·(intro w; go_simp; try with_reducible rfl)
       go_big_move
       change wpAny _ _ _ _ _ _ _ _
       refine take_at (i := 2) (d := 109) (v := ?_) rfl rfl (by kernel_rfl) (by kernel_rfl) (by kernel_rfl) (fun _ _ _ h => h) (Or.inl ⟨by rfl, ?_⟩) ?_
       rotate_left 1
       ·(intro w; go_simp; try with_reducible rfl)
       go_big_move
       change wpAny _ _ _ _ _ _ _ _
       cases bq
       ·obtain ⟨rfl, rfl⟩ := hbq rfl
        clear hbq
        refine wpAny_ready (rs := [3, 5]) (by kernel_rfl) (by simp) ?_
        refine AllReady.cons rfl (fun K hK => ?_) (AllReady.cons rfl (fun K hK => ?_) AllReady.nil)
        ·have hx5 := (HSx.out _ hBd).1
         go_simp
         refine hK _ _ ?_
         clear hK K hx5
         refine wpAny_ready (rs := [5]) (by kernel_rfl) (by simp) ?_
         refine AllReady.cons rfl (fun K hK => ?_) AllReady.nil
         go_simp
         with_reducible refine (HKy.out _).mono ?_
         rintro e w12 ⟨rfl, hb5⟩
         have hB5 := T8.btrans hb5 (by assumption)
         have hx5 := (HSx.out _ hB5).1
         have HX := Lib.hid (HSx.out _ hB5).2
         clear hb5 hB5 n3
         try go_simp
         refine hK _ _ ?_
         clear hK K
         refine take_at (i := 6) (d := 113) (v := ?_) rfl rfl (by kernel_rfl) (by kernel_rfl) (by kernel_rfl) (fun _ _ _ h => h) (Or.inl ⟨by rfl, ?_⟩) ?_
         rotate_left 1
         ·(intro w; go_simp; try with_reducible rfl)
         go_big_move
         change wpAny _ _ _ _ _ _ _ _
         refine take_at (i := 7) (d := 114) (v := ?_) rfl rfl (by kernel_rfl) (by kernel_rfl) (by kernel_rfl) (fun _ _ _ h => h) (Or.inl ⟨by rfl, ?_⟩) ?_
         rotate_left 1
         ·(intro w; go_simp; try with_reducible rfl)
         go_big_move
         change wpAny _ _ _ _ _ _ _ _
         refine take_at (i := 8) (d := 115) (v := ?_) rfl rfl (by kernel_rfl) (by kernel_rfl) (by kernel_rfl) (fun _ _ _ h => h) (Or.inl ⟨by kernel_rfl, ?_⟩) ?_
         rotate_left 1
         ·(intro w; go_simp; try with_reducible rfl)
         go_big_move
         change wpAny _ _ _ _ _ _ _ _
         refine take_at (i := 9) (d := 116) (v := ?_) rfl rfl (by kernel_rfl) (by kernel_rfl) (by kernel_rfl) (fun _ _ _ h => h) (Or.inl ⟨by kernel_rfl, ?_⟩) ?_
         rotate_left 1
         ·(intro w; go_simp; try with_reducible rfl)
         go_big_move
         change wpAny _ _ _ _ _ _ _ _
         refine take_at (i := 10) (d := 117) (v := ?_) rfl rfl (by kernel_rfl) (by kernel_rfl) (by kernel_rfl) (fun _ _ _ h => h) (Or.inl ⟨by kernel_rfl, ?_⟩) ?_
         rotate_left 1
         ·(intro w; go_simp; try with_reducible rfl)
         go_big_move
         change wpAny _ _ _ _ _ _ _ _
         refine take_at (i := 11) (d := 118) (v := ?_) rfl rfl (by kernel_rfl) (by kernel_rfl) (by kernel_rfl) (fun _ _ _ h => h) (Or.inl ⟨by kernel_rfl, ?_⟩) ?_
         rotate_left 1
         ·(intro w; go_simp; try with_reducible rfl)
         go_big_move
         change wpAny _ _ _ _ _ _ _ _
         refine take_at (i := 12) (d := 119) (v := ?_) rfl rfl (by kernel_rfl) (by kernel_rfl) (by kernel_rfl) (fun _ _ _ h => h) (Or.inl ⟨by kernel_rfl, ?_⟩) ?_
         rotate_left 1
         ·(intro w; go_simp; try with_reducible rfl)
         go_big_move
         change wpAny _ _ _ _ _ _ _ _
         refine take_at (i := 13) (d := 120) (v := ?_) rfl rfl (by kernel_rfl) (by kernel_rfl) (by kernel_rfl) (fun _ _ _ h => h) (Or.inl ⟨by kernel_rfl, ?_⟩) ?_
         rotate_left 1
         ·(intro w; go_simp; try with_reducible rfl)
         go_big_move
         change wpAny _ _ _ _ _ _ _ _
         refine take_at (i := 14) (d := 121) (v := ?_) rfl rfl (by kernel_rfl) (by kernel_rfl) (by kernel_rfl) (fun _ _ _ h => h) (Or.inl ⟨by kernel_rfl, ?_⟩) ?_
         rotate_left 1
         ·(intro w; go_simp; try with_reducible rfl)
         go_big_move
         change wpAny _ _ _ _ _ _ _ _
         refine take_at (i := 15) (d := 122) (v := ?_) rfl rfl (by kernel_rfl) (by kernel_rfl) (by kernel_rfl) (fun _ _ _ h => h) (Or.inl ⟨by kernel_rfl, ?_⟩) ?_
         rotate_left 1
         ·(intro w; go_simp; try with_reducible rfl)
         go_big_move
         change wpAny _ _ _ _ _ _ _ _
         refine wpAny_done (by kernel_rfl) ?_ _
         clear hal HG1 HG2
         try clear hx5
         go_wp2_with fail
         go_roundw
         case rel => exact ⟨j + 1, by omega, by go_num, HX.out⟩
         case measure => simp [intOf]; omega
        ·go_simp
         with_reducible refine (HKy.out _).mono ?_
         rintro e w12 ⟨rfl, hb5⟩
         have hB5 := T8.btrans hb5 (by assumption)
         have hx5 := (HSx.out _ hB5).1
         have HX := Lib.hid (HSx.out _ hB5).2
         clear hb5 hB5 n3
         try go_simp
         refine hK _ _ ?_
         clear hK K
         refine wpAny_ready (rs := [3]) (by kernel_rfl) (by simp) ?_
         refine AllReady.cons rfl (fun K hK => ?_) AllReady.nil
         go_simp
         refine hK _ _ ?_
         clear hK K
         refine take_at (i := 6) (d := 113) (v := ?_) rfl rfl (by kernel_rfl) (by kernel_rfl) (by kernel_rfl) (fun _ _ _ h => h) (Or.inl ⟨by rfl, ?_⟩) ?_
         rotate_left 1
         ·(intro w; go_simp; try with_reducible rfl)
         go_big_move
         change wpAny _ _ _ _ _ _ _ _
         refine take_at (i := 7) (d := 114) (v := ?_) rfl rfl (by kernel_rfl) (by kernel_rfl) (by kernel_rfl) (fun _ _ _ h => h) (Or.inl ⟨by rfl, ?_⟩) ?_
         rotate_left 1
         ·(intro w; go_simp; try with_reducible rfl)
         go_big_move
         change wpAny _ _ _ _ _ _ _ _
         refine take_at (i := 8) (d := 115) (v := ?_) rfl rfl (by kernel_rfl) (by kernel_rfl) (by kernel_rfl) (fun _ _ _ h => h) (Or.inl ⟨by kernel_rfl, ?_⟩) ?_
         rotate_left 1
         ·(intro w; go_simp; try with_reducible rfl)
         go_big_move
         change wpAny _ _ _ _ _ _ _ _
         refine take_at (i := 9) (d := 116) (v := ?_) rfl rfl (by kernel_rfl) (by kernel_rfl) (by kernel_rfl) (fun _ _ _ h => h) (Or.inl ⟨by kernel_rfl, ?_⟩) ?_
         rotate_left 1
         ·(intro w; go_simp; try with_reducible rfl)
         go_big_move
         change wpAny _ _ _ _ _ _ _ _
         refine take_at (i := 10) (d := 117) (v := ?_) rfl rfl (by kernel_rfl) (by kernel_rfl) (by kernel_rfl) (fun _ _ _ h => h) (Or.inl ⟨by kernel_rfl, ?_⟩) ?_
         rotate_left 1
         ·(intro w; go_simp; try with_reducible rfl)
         go_big_move
         change wpAny _ _ _ _ _ _ _ _
         refine take_at (i := 11) (d := 118) (v := ?_) rfl rfl (by kernel_rfl) (by kernel_rfl) (by kernel_rfl) (fun _ _ _ h => h) (Or.inl ⟨by kernel_rfl, ?_⟩) ?_
         rotate_left 1
         ·(intro w; go_simp; try with_reducible rfl)
         go_big_move
         change wpAny _ _ _ _ _ _ _ _
         refine take_at (i := 12) (d := 119) (v := ?_) rfl rfl (by kernel_rfl) (by kernel_rfl) (by kernel_rfl) (fun _ _ _ h => h) (Or.inl ⟨by kernel_rfl, ?_⟩) ?_
         rotate_left 1
         ·(intro w; go_simp; try with_reducible rfl)
         go_big_move
         change wpAny _ _ _ _ _ _ _ _
         refine take_at (i := 13) (d := 120) (v := ?_) rfl rfl (by kernel_rfl) (by kernel_rfl) (by kernel_rfl) (fun _ _ _ h => h) (Or.inl ⟨by kernel_rfl, ?_⟩) ?_
         rotate_left 1
         ·(intro w; go_simp; try with_reducible rfl)
         go_big_move
         change wpAny _ _ _ _ _ _ _ _
         refine take_at (i := 14) (d := 121) (v := ?_) rfl rfl (by kernel_rfl) (by kernel_rfl) (by kernel_rfl) (fun _ _ _ h => h) (Or.inl ⟨by kernel_rfl, ?_⟩) ?_
         rotate_left 1
         ·(intro w; go_simp; try with_reducible rfl)
         go_big_move
         change wpAny _ _ _ _ _ _ _ _
         refine take_at (i := 15) (d := 122) (v := ?_) rfl rfl (by kernel_rfl) (by kernel_rfl) (by kernel_rfl) (fun _ _ _ h => h) (Or.inl ⟨by kernel_rfl, ?_⟩) ?_
         rotate_left 1
         ·(intro w; go_simp; try with_reducible rfl)
         go_big_move
         change wpAny _ _ _ _ _ _ _ _
         refine wpAny_done (by kernel_rfl) ?_ _
         clear hal HG1 HG2
         try clear hx5
         go_wp2_with fail
         go_roundw
         case rel => exact ⟨j + 1, by omega, by go_num, HX.out⟩
         case measure => simp [intOf]; omega
       ·clear hbq
        refine wpAny_ready (rs := [3, 5]) (by kernel_rfl) (by simp) ?_
        refine AllReady.cons rfl (fun K hK => ?_) (AllReady.cons rfl (fun K hK => ?_) AllReady.nil)
        ·have hx5 := (HSx.out _ hBd).1
         go_simp
         refine hK _ _ ?_
         clear hK K hx5
         refine wpAny_ready (rs := [5]) (by kernel_rfl) (by simp) ?_
         refine AllReady.cons rfl (fun K hK => ?_) AllReady.nil
         go_simp
         with_reducible refine (HKy.out _).mono ?_
         rintro e w12 ⟨rfl, hb5⟩
         have hB5 := T8.btrans hb5 (by assumption)
         have hx5 := (HSx.out _ hB5).1
         have HX := Lib.hid (HSx.out _ hB5).2
         clear hb5 hB5 n3
         try go_simp
         refine hK _ _ ?_
         clear hK K
         refine take_at (i := 6) (d := 113) (v := ?_) rfl rfl (by kernel_rfl) (by kernel_rfl) (by kernel_rfl) (fun _ _ _ h => h) (Or.inl ⟨by rfl, ?_⟩) ?_
         rotate_left 1
         ·(intro w; go_simp; try with_reducible rfl)
         go_big_move
         change wpAny _ _ _ _ _ _ _ _
         refine take_at (i := 7) (d := 114) (v := ?_) rfl rfl (by kernel_rfl) (by kernel_rfl) (by kernel_rfl) (fun _ _ _ h => h) (Or.inl ⟨by rfl, ?_⟩) ?_
         rotate_left 1
         ·(intro w; go_simp; try with_reducible rfl)
         go_big_move
         change wpAny _ _ _ _ _ _ _ _
         refine take_at (i := 8) (d := 115) (v := undef) rfl rfl (by kernel_rfl) (by kernel_rfl) (by kernel_rfl) (fun _ _ _ h => h) (Or.inr ⟨by kernel_rfl, rfl⟩) ?_
         go_big_move
         change wpAny _ _ _ _ _ _ _ _
         refine take_at (i := 9) (d := 116) (v := undef) rfl rfl (by kernel_rfl) (by kernel_rfl) (by kernel_rfl) (fun _ _ _ h => h) (Or.inr ⟨by kernel_rfl, rfl⟩) ?_
         go_big_move
         change wpAny _ _ _ _ _ _ _ _
         refine take_at (i := 10) (d := 117) (v := undef) rfl rfl (by kernel_rfl) (by kernel_rfl) (by kernel_rfl) (fun _ _ _ h => h) (Or.inr ⟨by kernel_rfl, rfl⟩) ?_
         go_big_move
         change wpAny _ _ _ _ _ _ _ _
         refine take_at (i := 11) (d := 118) (v := undef) rfl rfl (by kernel_rfl) (by kernel_rfl) (by kernel_rfl) (fun _ _ _ h => h) (Or.inr ⟨by kernel_rfl, rfl⟩) ?_
         go_big_move
         change wpAny _ _ _ _ _ _ _ _
         refine take_at (i := 12) (d := 119) (v := undef) rfl rfl (by kernel_rfl) (by kernel_rfl) (by kernel_rfl) (fun _ _ _ h => h) (Or.inr ⟨by kernel_rfl, rfl⟩) ?_
         go_big_move
         change wpAny _ _ _ _ _ _ _ _
         refine take_at (i := 13) (d := 120) (v := undef) rfl rfl (by kernel_rfl) (by kernel_rfl) (by kernel_rfl) (fun _ _ _ h => h) (Or.inr ⟨by kernel_rfl, rfl⟩) ?_
         go_big_move
         change wpAny _ _ _ _ _ _ _ _
         refine take_at (i := 14) (d := 121) (v := undef) rfl rfl (by kernel_rfl) (by kernel_rfl) (by kernel_rfl) (fun _ _ _ h => h) (Or.inr ⟨by kernel_rfl, rfl⟩) ?_
         go_big_move
         change wpAny _ _ _ _ _ _ _ _
         refine take_at (i := 15) (d := 122) (v := ?_) rfl rfl (by kernel_rfl) (by kernel_rfl) (by kernel_rfl) (fun _ _ _ h => h) (Or.inl ⟨by kernel_rfl, ?_⟩) ?_
         rotate_left 1
         ·(intro w; go_simp; try with_reducible rfl)
         go_big_move
         change wpAny _ _ _ _ _ _ _ _
         refine wpAny_done (by kernel_rfl) ?_ _
         clear hal HG1 HG2
         try clear hx5
         go_wp2_with fail
         go_roundw
         case rel => exact ⟨j + 1, by omega, by go_num, HX.out⟩
         case measure => simp [intOf]; omega
        ·go_simp
         with_reducible refine (HKy.out _).mono ?_
         rintro e w12 ⟨rfl, hb5⟩
         have hB5 := T8.btrans hb5 (by assumption)
         have hx5 := (HSx.out _ hB5).1
         have HX := Lib.hid (HSx.out _ hB5).2
         clear hb5 hB5 n3
         try go_simp
         refine hK _ _ ?_
         clear hK K
         refine wpAny_ready (rs := [3]) (by kernel_rfl) (by simp) ?_
         refine AllReady.cons rfl (fun K hK => ?_) AllReady.nil
         go_simp
         refine hK _ _ ?_
         clear hK K
         refine take_at (i := 6) (d := 113) (v := ?_) rfl rfl (by kernel_rfl) (by kernel_rfl) (by kernel_rfl) (fun _ _ _ h => h) (Or.inl ⟨by rfl, ?_⟩) ?_
         rotate_left 1
         ·(intro w; go_simp; try with_reducible rfl)
         go_big_move
         change wpAny _ _ _ _ _ _ _ _
         refine take_at (i := 7) (d := 114) (v := ?_) rfl rfl (by kernel_rfl) (by kernel_rfl) (by kernel_rfl) (fun _ _ _ h => h) (Or.inl ⟨by rfl, ?_⟩) ?_
         rotate_left 1
         ·(intro w; go_simp; try with_reducible rfl)
         go_big_move
         change wpAny _ _ _ _ _ _ _ _
         refine take_at (i := 8) (d := 115) (v := undef) rfl rfl (by kernel_rfl) (by kernel_rfl) (by kernel_rfl) (fun _ _ _ h => h) (Or.inr ⟨by kernel_rfl, rfl⟩) ?_
         go_big_move
         change wpAny _ _ _ _ _ _ _ _
         refine take_at (i := 9) (d := 116) (v := undef) rfl rfl (by kernel_rfl) (by kernel_rfl) (by kernel_rfl) (fun _ _ _ h => h) (Or.inr ⟨by kernel_rfl, rfl⟩) ?_
         go_big_move
         change wpAny _ _ _ _ _ _ _ _
         refine take_at (i := 10) (d := 117) (v := undef) rfl rfl (by kernel_rfl) (by kernel_rfl) (by kernel_rfl) (fun _ _ _ h => h) (Or.inr ⟨by kernel_rfl, rfl⟩) ?_
         go_big_move
         change wpAny _ _ _ _ _ _ _ _
         refine take_at (i := 11) (d := 118) (v := undef) rfl rfl (by kernel_rfl) (by kernel_rfl) (by kernel_rfl) (fun _ _ _ h => h) (Or.inr ⟨by kernel_rfl, rfl⟩) ?_
         go_big_move
         change wpAny _ _ _ _ _ _ _ _
         refine take_at (i := 12) (d := 119) (v := undef) rfl rfl (by kernel_rfl) (by kernel_rfl) (by kernel_rfl) (fun _ _ _ h => h) (Or.inr ⟨by kernel_rfl, rfl⟩) ?_
         go_big_move
         change wpAny _ _ _ _ _ _ _ _
         refine take_at (i := 13) (d := 120) (v := undef) rfl rfl (by kernel_rfl) (by kernel_rfl) (by kernel_rfl) (fun _ _ _ h => h) (Or.inr ⟨by kernel_rfl, rfl⟩) ?_
         go_big_move
         change wpAny _ _ _ _ _ _ _ _
         refine take_at (i := 14) (d := 121) (v := undef) rfl rfl (by kernel_rfl) (by kernel_rfl) (by kernel_rfl) (fun _ _ _ h => h) (Or.inr ⟨by kernel_rfl, rfl⟩) ?_
         go_big_move
         change wpAny _ _ _ _ _ _ _ _
         refine take_at (i := 15) (d := 122) (v := ?_) rfl rfl (by kernel_rfl) (by kernel_rfl) (by kernel_rfl) (fun _ _ _ h => h) (Or.inl ⟨by kernel_rfl, ?_⟩) ?_
         rotate_left 1
         ·(intro w; go_simp; try with_reducible rfl)
         go_big_move
         change wpAny _ _ _ _ _ _ _ _
         refine wpAny_done (by kernel_rfl) ?_ _
         clear hal HG1 HG2
         try clear hx5
         go_wp2_with fail
         go_roundw
         case rel => exact ⟨j + 1, by omega, by go_num, HX.out⟩
         case measure => simp [intOf]; omega
      ·obtain rfl : j = m := by omega
       have hge2 : ¬ ((j : Int) < (j : Int)) := by omega
       go_wp2_with fail
       go_roundw
       case rel => exact ⟨k + 1, by omega, by go_num, by rw [HL2.out]; exact HSt.out.below HW.out, hB9.trans (HW.out.mono hB9.size)⟩
       case measure => simp [intOf]; omega
  ·obtain rfl : k = n2 := by omega
   have hge : ¬ ((k : Int) < (k : Int)) := by omega
   go_wp2_with fail
   go_ret
   exact ⟨rfl, HB.out⟩
end Go.Proofs.YtgcgnolmdkkocaaGreatDoor
