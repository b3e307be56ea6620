/- Layer 11, a law walked. -/
import Derived.Test.YthehblmjloohiaaGreatDoorQv
namespace Go.Proofs.YthehblmjloohiaaGreatDoor
set_option maxRecDepth 100000
open Go.RowKit Go.Less Go.Maps
open T8 (pv Dg)
attribute [local go_sem 9000] sem_eql sem_neq
theorem of_good {f : Fs.FS} (G : Fs.Good env f) (hn : f.next ≤ 2147483647) {m : Option Nat} {W : World} (h : Sv W m f.l) : Calls Tryz.prog 31 #[pv m, .int .i64 f.next] W fun e w' => ∃ g, e = .returned (.tuple #[ptg g, .int .i64 0]) ∧ Fo w' g f ∧ W.heap.size ≤ g ∧ Below W.heap.size W w' := by
 refine (of_any m f.l f.next W h).mono ?_
 rintro e w' (⟨_, _, _, h⟩ | ⟨h, _⟩)
 ·exact h
 ·exact absurd ⟨sound_good G, hn, fun y hy => (G.pos y hy).2⟩ h
theorem done_more {f : Fs.FS} (G : Fs.Good env f) (hn : f.next ≤ 2000) {l : List Fs.Op} (hl : l.length ≤ 120) (k : Nat) : Fs.Good env (doneF f (l.take k)) ∧ (doneF f (l.take k)).next ≤ 4000 := by
 have h1 : (l.take k).length ≤ 120 := by rw [List.length_take]; omega
 have := doneF_good G (l.take k) (by omega)
 exact ⟨this.1, by have := this.2; omega⟩
set_option maxHeartbeats 16000000 in
theorem fsSound_any (a : Option Addr) (n cap : Nat) (l : List Fs.Op) (a2 : Option Addr) (n2 cap2 : Nat) (l2 : List Fs.Op) (w : World) (hS : Opr a n l w) (hn : n ≤ 140737488355328) (hS2 : Opr a2 n2 l2 w) (hn2 : n2 ≤ 140737488355328) (hD : Dg w) :
  Calls Tryz.prog 4 #[.slice a n cap, .slice a2 n2 cap2] w fun e w' => e = .returned (.bool true) ∧ Below w.heap.size w w' := by
 have HAw := Lib.hid (awake_any w hD)
 have HFw := Lib.hid (fun W (hb : Below w.heap.size w W) => few_any a n cap l W (hS.below hb) hn)
 have HFx := Lib.hid (fun W (hb : Below w.heap.size w W) => few_any a2 n2 cap2 l2 W (hS2.below hb) hn2)
 have HSr := Lib.hid (fun W (hb : Below w.heap.size w W) => hS.below hb)
 have HDg := Lib.hid (fun W (hb : Below w.heap.size w W) => hD.below hb)
 have HN := Lib.hid hS.count
 have HN2 := Lib.hid hS2.count
 have HCl := Lib.hid hS2.cell
 have HOk := Lib.hid hS2.ok
 clear hS hS2 hD
 cases hfew : few11 l with
 | false =>
  rw [hfew] at HFw
  go_enter Tryz.func4, Tryz.ntmps4
  go_wp2_with fail
  refine HAw.out.mono ?_
  rintro e w1 ⟨rfl, hb⟩
  have HB := Lib.hid hb
  clear hb
  dsimp only
  go_wp2_with fail
  refine (HFw.out w1 HB.out).mono ?_
  rintro e w2 ⟨rfl, hb⟩
  have HB := Lib.hid (HB.out.trans (hb.mono HB.out.size))
  clear hb
  dsimp only
  go_wp2_with fail
  go_ret
  exact ⟨rfl, HB.out⟩
 | true =>
  rw [hfew] at HFw
  cases hfew2 : few11 l2 with
  | false =>
   rw [hfew2] at HFx
   go_enter Tryz.func4, Tryz.ntmps4
   go_wp2_with fail
   refine HAw.out.mono ?_
   rintro e w1 ⟨rfl, hb⟩
   have HB := Lib.hid hb
   clear hb
   dsimp only
   go_wp2_with fail
   refine (HFw.out w1 HB.out).mono ?_
   rintro e w2 ⟨rfl, hb⟩
   have HB := Lib.hid (HB.out.trans (hb.mono HB.out.size))
   clear hb
   dsimp only
   go_wp2_with fail
   refine (HFx.out _ HB.out).mono ?_
   rintro e w3 ⟨rfl, hb⟩
   have HB := Lib.hid (HB.out.trans (hb.mono HB.out.size))
   clear hb
   dsimp only
   go_wp2_with fail
   go_ret
   exact ⟨rfl, HB.out⟩
  | true =>
   rw [hfew2] at HFx
   have hln := few_len hfew
   have hln2 := few_len hfew2
   have hn3 : n ≤ 120 := by rw [HN.out]; exact hln
   have hn4 : n2 ≤ 120 := by rw [HN2.out]; exact hln2
   have hni : (n2 : Int) ≤ 120 := by omega
   obtain ⟨G, hnx⟩ := done_all (l := l) (by omega)
   have HDn := Lib.hid (fun W (hb : Below w.heap.size w W) => done_any a n cap l W (HSr.out W hb) (by omega) (HDg.out W hb))
   generalize doneF Fs.new l = f at *
   have HG := Lib.hid (fun k => done_more G (by omega) hln2 k)
   have HMp := Lib.hid (fun g f W (h : Fo W g f) => qMap_any h)
   have HNm := Lib.hid (fun m f W (h : Sv W m f) => qName_any h)
   have HNx := Lib.hid (fun g f W (h : Fo W g f) => qNext_any h)
   have HCp := Lib.hid (fun g W (h : Fo W g f) => qCopy_any h)
   have HOf := Lib.hid (fun m W (h : Sv W m f.l) => of_good G (by omega) h)
   have HSo := Lib.hid (fun m f W (G : Fs.Good env f) (h : Sv W m f.l) => (show Calls Tryz.prog 29 #[pv m] W (SoundR true W) from sound_good G ▸ pSound_any m f.l W h))
   have HSf := Lib.hid (fun m W (h : Sv W m f.l) => HSo.out m f W G h)
   have HAl := Lib.hid (fun f => alike_self (nmf f))
   have hal := HAl.out f.l
   unfold SoundR at HSo HSf
   clear hfew hfew2 HSr HDg HN hn hln G hn2 hln2 hnx hn3
   go_enter Tryz.func4, Tryz.ntmps4
   go_wp2_with fail
   refine HAw.out.mono ?_
   rintro e w1 ⟨rfl, hb⟩
   have HB := Lib.hid hb
   clear hb
   dsimp only
   go_wp2_with fail
   refine (HFw.out w1 HB.out).mono ?_
   rintro e w2 ⟨rfl, hb⟩
   have HB := Lib.hid (HB.out.trans (hb.mono HB.out.size))
   clear hb
   dsimp only
   go_wp2_with fail
   refine (HFx.out _ HB.out).mono ?_
   rintro e w3 ⟨rfl, hb⟩
   have HB := Lib.hid (HB.out.trans (hb.mono HB.out.size))
   clear hb
   dsimp only
   go_wp2_with fail
   refine (HDn.out _ HB.out).mono ?_
   rintro e w4 ⟨g, rfl, hF, hg, hb⟩
   have HGg := Lib.hid (Nat.le_trans HB.out.size hg)
   have HB := Lib.hid (HB.out.trans (hb.mono HB.out.size))
   have HFg := Lib.hid hF
   clear hF hg hb
   dsimp only
   go_wp2_with fail
   refine (HMp.out g f _ HFg.out).mono ?_
   rintro e w5 ⟨m5, rfl, hSv, rfl⟩
   have HSv := Lib.hid hSv
   clear hSv
   dsimp only
   go_wp2_with fail
   refine (HSf.out m5 _ HSv.out).mono ?_
   rintro e w6 ⟨rfl, hb⟩
   have HB := Lib.hid (HB.out.trans (hb.mono HB.out.size))
   have HFg := Lib.hid (HFg.out.below hb)
   clear hb HSv
   dsimp only
   go_wp2_with fail
   refine (HMp.out g f _ HFg.out).mono ?_
   rintro e w7 ⟨m7, rfl, hSv, rfl⟩
   have HSv := Lib.hid hSv
   clear hSv
   dsimp only
   go_wp2_with fail
   refine (HNm.out m7 f.l _ HSv.out).mono ?_
   rintro e w8 ⟨rfl, hb⟩
   have HB := Lib.hid (HB.out.trans (hb.mono HB.out.size))
   have HFg := Lib.hid (HFg.out.below hb)
   clear hb HSv
   dsimp only
   go_wp2_with fail
   refine (HNx.out g f _ HFg.out).mono ?_
   rintro e w9 ⟨rfl, rfl⟩
   dsimp only
   go_wp2_with fail
   refine (HCp.out g _ HFg.out).mono ?_
   rintro e w10 ⟨c, rfl, hF, hg, hb⟩
   have HGc := Lib.hid (Nat.le_trans HB.out.size hg)
   have HNcg := Lib.hid (show c ≠ g from fun e => by have := HFg.out.lt; omega)
   have HB := Lib.hid (HB.out.trans (hb.mono HB.out.size))
   have HFg := Lib.hid (HFg.out.below hb)
   have HFc := Lib.hid hF
   clear hF hg hb
   dsimp only
   go_wp2_with fail
   refine (HMp.out g f _ HFg.out).mono ?_
   rintro e w11 ⟨m11, rfl, hSv, rfl⟩
   have HSv := Lib.hid hSv
   clear hSv
   dsimp only
   go_wp2_with fail
   refine (HNx.out g f _ HFg.out).mono ?_
   rintro e w12 ⟨rfl, rfl⟩
   dsimp only
   go_wp2_with fail
   refine (HOf.out m11 _ HSv.out).mono ?_
   rintro e w13 ⟨q, rfl, hF, hg, hb⟩
   have HGq := Lib.hid (Nat.le_trans HB.out.size hg)
   have HNqg := Lib.hid (show q ≠ g from fun e => by have := HFg.out.lt; omega)
   have HNqc := Lib.hid (show q ≠ c from fun e => by have := HFc.out.lt; omega)
   have HB := Lib.hid (HB.out.trans (hb.mono HB.out.size))
   have HFg := Lib.hid (HFg.out.below hb)
   have HFc := Lib.hid (HFc.out.below hb)
   have HFq := Lib.hid hF
   clear hF hg hb
   dsimp only
   go_wp2_with fail
   refine (HMp.out q f _ HFq.out).mono ?_
   rintro e w14 ⟨m14, rfl, hSv, rfl⟩
   have HSv := Lib.hid hSv
   clear hSv
   dsimp only
   go_wp2_with fail
   refine (HNm.out m14 f.l _ HSv.out).mono ?_
   rintro e w15 ⟨rfl, hb⟩
   have HB := Lib.hid (HB.out.trans (hb.mono HB.out.size))
   have HFg := Lib.hid (HFg.out.below hb)
   have HFc := Lib.hid (HFc.out.below hb)
   have HFq := Lib.hid (HFq.out.below hb)
   clear hb HSv
   dsimp only
   go_wp2_with fail
   go_loopw [11, 12, 13] (fun x11 _ _ wr => ∃ k : Nat, k ≤ n2 ∧ x11 = .int .i64 k ∧ Fo wr g f ∧ Fo wr c (doneF f (l2.take k)) ∧ Fo wr q (doneF f (l2.take k)) ∧ Below w.heap.size w wr) (fun x11 _ _ _ => n2 - (intOf x11).toNat)
   case atStart => exact ⟨0, Nat.zero_le _, rfl, HFg.out, HFc.out, HFq.out, HB.out⟩
   case round =>
    clear HFg HFc HFq HB HAw HFw HFx HCp HOf HSf HDn
    obtain ⟨k, hk, rfl, hFg, hFc, hFq, hB⟩ := hrel
    have HFg := Lib.hid hFg
    have HFc := Lib.hid hFc
    have HFq := Lib.hid hFq
    have HB := Lib.hid hB
    clear hFg hFc hFq hB
    by_cases hlt : k < n2
    ·have k0 : (k : Int) < (n2 : Int) := by omega
     have hk0 : (0 : Int) ≤ (k : Int) := by omega
     have hkl : k < l2.length := by rw [← HN2.out]; exact hlt
     obtain ⟨b, off, rfl, hc⟩ := HCl.out k hlt
     have HC := Lib.hid (fun W (hb : Below w.heap.size w W) => op_cells (ops_at hc (W := W) hb))
     have HM := Lib.hid (doneF_more (f := f) hkl)
     have hok := HOk.out (l2.getD k op0) (by rw [List.getD, List.getElem?_eq_getElem hkl]; exact List.getElem_mem hkl)
     have hGk := HG.out k
     have hG1 := HG.out (k + 1)
     obtain ⟨f1, hf1⟩ : ∃ f1, doneF f (l2.take (k + 1)) = f1 := ⟨_, rfl⟩
     rw [hf1] at HM hG1
     have HEq := Lib.hid hf1
     clear hf1
     generalize doneF f (l2.take k) = f0 at *
     have HDc := Lib.hid (fun g W (h : Fo W g f0) => qDo_any h hGk.1 (by omega) hok)
     unfold Didf at HDc
     generalize l2.getD k op0 = op at *
     obtain ⟨⟨f2, z⟩, hd⟩ : ∃ r, Fs.doE env f0 op = r := ⟨_, rfl⟩
     rw [hd] at HDc HM
     obtain rfl : f1 = f2 := HM.out
     have HS1 := Lib.hid (fun m W (h : Sv W m f1.l) => HSo.out m f1 W hG1.1 h)
     have hal1 := HAl.out f1.l
     clear hc hok hGk hG1 HM hd
     obtain ⟨okd, oa, ob, oo, og, on, od⟩ := op
     have hBd := HB.out.drew
     have HFg := Lib.hid (HFg.out.below (Below.refl wr.heap.size wr).drew)
     have HFc := Lib.hid (HFc.out.below (Below.refl wr.heap.size wr).drew)
     have HFq := Lib.hid (HFq.out.below (Below.refl wr.heap.size wr).drew)
     obtain ⟨c0, c1, c2, c3, c4, c5, c6⟩ := HC.out _ hBd
     dsimp only at c0 c1 c2 c3 c4 c5 c6
     have HB := Lib.hid hBd
     clear hBd
     have HDc := Lib.hid (show ∀ g W, Fo W g f0 → Calls Tryz.prog 15 #[ptg g, .agg #[.int .i64 okd, .string oa, .string ob, .int .i64 oo, .int .i64 og, .int .i64 on, .string od]] W (fun e w' => e = .returned (.int .i64 z) ∧ Fo w' g f1 ∧ Turn g W w') from fun g W h => (HDc.out g W h).mono fun e w' h => ⟨h.1, h.2.1, h.2.2.1⟩)
     have HE1 := Lib.hid (HDc.out c _ HFc.out)
     go_wp2_with fail
     go_region_law (first
      | (go_simp; (with_reducible refine HE1.out.mono ?_); rintro e w5 ⟨rfl, hF5, hT5⟩; have hB5 := turn_below HB.out hT5 HGc.out; have hFg5 := Fo.turn hT5 HFc.out HFg.out (Ne.symm HNcg.out); have hFq5 := Fo.turn hT5 HFc.out HFq.out HNqc.out; obtain ⟨c0, c1, c2, c3, c4, c5, c6⟩ := HC.out _ hB5; have HE2 := Lib.hid (HDc.out q _ hFq5))
      | (go_simp; (with_reducible refine HE2.out.mono ?_); rintro e w6 ⟨rfl, hF6, hT6⟩; have hB6 := turn_below hB5 hT6 HGq.out; have hFg6 := Fo.turn hT6 hFq5 hFg5 (Ne.symm HNqg.out); have hFc6 := Fo.turn hT6 hFq5 hF5 (Ne.symm HNqc.out)))
     all_goals
      have HFg := Lib.hid hFg6
      have HFc := Lib.hid hFc6
      have HFq := Lib.hid hF6
      have HB := Lib.hid hB6
      clear c0 c1 c2 c3 c4 c5 c6 hF5 hT5 hB5 hFg5 hFq5 hF6 hT6 hB6 hFg6 hFc6 HE1 HE2
      go_wp2_with fail
      refine (HMp.out c f1 _ HFc.out).mono ?_
      rintro e w7 ⟨m7, rfl, hSv, rfl⟩
      have HSv := Lib.hid hSv
      clear hSv
      dsimp only
      go_wp2_with fail
      refine (HNm.out m7 f1.l _ HSv.out).mono ?_
      rintro e w8 ⟨rfl, hb⟩
      have HB := Lib.hid (HB.out.trans (hb.mono HB.out.size))
      have HFg := Lib.hid (HFg.out.below hb)
      have HFc := Lib.hid (HFc.out.below hb)
      have HFq := Lib.hid (HFq.out.below hb)
      clear hb HSv
      dsimp only
      go_wp2_with fail
      refine (HMp.out q f1 _ HFq.out).mono ?_
      rintro e w9 ⟨m9, rfl, hSv, rfl⟩
      have HSv := Lib.hid hSv
      clear hSv
      dsimp only
      go_wp2_with fail
      refine (HNm.out m9 f1.l _ HSv.out).mono ?_
      rintro e w10 ⟨rfl, hb⟩
      have HB := Lib.hid (HB.out.trans (hb.mono HB.out.size))
      have HFg := Lib.hid (HFg.out.below hb)
      have HFc := Lib.hid (HFc.out.below hb)
      have HFq := Lib.hid (HFq.out.below hb)
      clear hb HSv
      dsimp only
      go_wp2_with fail
      refine (HNx.out c f1 _ HFc.out).mono ?_
      rintro e w11 ⟨rfl, rfl⟩
      dsimp only
      go_wp2_with fail
      refine (HNx.out q f1 _ HFq.out).mono ?_
      rintro e w12 ⟨rfl, rfl⟩
      dsimp only
      go_wp2_with fail
      refine (HMp.out c f1 _ HFc.out).mono ?_
      rintro e w13 ⟨m13, rfl, hSv, rfl⟩
      have HSv := Lib.hid hSv
      clear hSv
      dsimp only
      go_wp2_with fail
      refine (HS1.out m13 _ HSv.out).mono ?_
      rintro e w14 ⟨rfl, hb⟩
      have HB := Lib.hid (HB.out.trans (hb.mono HB.out.size))
      have HFg := Lib.hid (HFg.out.below hb)
      have HFc := Lib.hid (HFc.out.below hb)
      have HFq := Lib.hid (HFq.out.below hb)
      clear hb HSv
      dsimp only
      go_wp2_with fail
      go_roundw
      case rel => exact ⟨k + 1, by omega, by go_num, HFg.out, by rw [HEq.out]; exact HFc.out, by rw [HEq.out]; exact HFq.out, HB.out⟩
      case measure => simp [intOf]; omega
    ·obtain rfl : k = n2 := by omega
     have hge : ¬ ((k : Int) < (k : Int)) := by omega
     go_wp2_with fail
     refine (HMp.out g f _ HFg.out).mono ?_
     rintro e w7 ⟨m7, rfl, hSv, rfl⟩
     have HSv := Lib.hid hSv
     clear hSv
     dsimp only
     go_wp2_with fail
     refine (HNm.out m7 f.l _ HSv.out).mono ?_
     rintro e w8 ⟨rfl, hb⟩
     have HB := Lib.hid (HB.out.trans (hb.mono HB.out.size))
     have HFg := Lib.hid (HFg.out.below hb)
     clear hb HSv
     dsimp only
     go_wp2_with fail
     refine (HNx.out g f _ HFg.out).mono ?_
     rintro e w9 ⟨rfl, rfl⟩
     dsimp only
     go_wp2_with fail
     go_ret
     exact ⟨by simp, HB.out⟩
end Go.Proofs.YthehblmjloohiaaGreatDoor
