/- Layer 11, a law walked. -/
import Derived.Test.YthehblmjloohiaaGreatDoorM39
namespace Go.Proofs.YthehblmjloohiaaGreatDoor
set_option maxRecDepth 100000
open Go.RowKit Go.Less Go.Maps
open T6
open T8 (pv Dg)
attribute [local go_sem 9000] sem_eql sem_neq
set_option maxHeartbeats 16000000 in
theorem fsRefused_any (a : Option Addr) (n cap : Nat) (l : List Fs.Op) (A B : ByteArray) (w : World) (hS : Opr a n l w) (hn : n ≤ 140737488355328) (pa : A.size ≤ 140737488355328) (pb : B.size ≤ 140737488355328) (hD : Dg w) :
  Calls Tryz.prog 6 #[.slice a n cap, .string A, .string B] w fun e w' => e = .returned (.bool true) ∧ Below w.heap.size w w' := by
 have HAw := Lib.hid (awake_any w hD)
 have HSr := Lib.hid (fun W (hb : Below w.heap.size w W) => hS.below hb)
 have HDg := Lib.hid (fun W (hb : Below w.heap.size w W) => hD.below hb)
 have HN := Lib.hid hS.count
 have HOk := Lib.hid hS.ok
 have HFw := Lib.hid (fun W (hb : Below w.heap.size w W) => few_any a n cap l W (hS.below hb) hn)
 have hpa : (A.size : Int) ≤ 140737488355328 := by omega
 have hpb : (B.size : Int) ≤ 140737488355328 := by omega
 clear hS hD
 cases hfew : few11 l with
 | false =>
  rw [hfew] at HFw
  go_enter Tryz.func6, Tryz.ntmps6
  go_wp2_with fail
  refine HAw.out.mono ?_
  rintro e w1 ⟨rfl, hb⟩
  have HB := Lib.hid hb
  clear hb
  dsimp only
  go_wp2_with fail
  refine (HFw.out w1 HB.out).mono ?_
  rintro e w2 ⟨rfl, hb⟩
  have HB := Lib.hid (HB.out.trans (hb.mono HB.out.size))
  clear hb
  dsimp only
  go_wp2_with fail
  go_ret
  exact ⟨rfl, HB.out⟩
 | true =>
  rw [hfew] at HFw
  by_cases hA : 300 < A.size
  ·have hAi : (300 : Int) < (A.size : Int) := by omega
   go_enter Tryz.func6, Tryz.ntmps6
   go_wp2_with fail
   refine HAw.out.mono ?_
   rintro e w1 ⟨rfl, hb⟩
   have HB := Lib.hid hb
   clear hb
   dsimp only
   go_wp2_with fail
   refine (HFw.out w1 HB.out).mono ?_
   rintro e w2 ⟨rfl, hb⟩
   have HB := Lib.hid (HB.out.trans (hb.mono HB.out.size))
   clear hb
   dsimp only
   go_wp2_with fail
   go_ret
   exact ⟨rfl, HB.out⟩
  have hAi : ¬ (300 : Int) < (A.size : Int) := by omega
  by_cases hB : 300 < B.size
  ·have hBi : (300 : Int) < (B.size : Int) := by omega
   go_enter Tryz.func6, Tryz.ntmps6
   go_wp2_with fail
   refine HAw.out.mono ?_
   rintro e w1 ⟨rfl, hb⟩
   have HB := Lib.hid hb
   clear hb
   dsimp only
   go_wp2_with fail
   refine (HFw.out w1 HB.out).mono ?_
   rintro e w2 ⟨rfl, hb⟩
   have HB := Lib.hid (HB.out.trans (hb.mono HB.out.size))
   clear hb
   dsimp only
   go_wp2_with fail
   go_ret
   exact ⟨rfl, HB.out⟩
  have hBi : ¬ (300 : Int) < (B.size : Int) := by omega
  have hln := few_len hfew
  have hn2 : n ≤ 120 := by rw [HN.out]; exact hln
  have hni : (n : Int) ≤ 120 := by omega
  have HNw := Lib.hid (fun W (hb : Below w.heap.size w W) => qNew_any W (HDg.out W hb))
  have HG := Lib.hid (fun k => done_take (l := l) (by omega) k)
  have HMp := Lib.hid (fun g f W (h : Fo W g f) => qMap_any h)
  have HNm := Lib.hid (fun m f W (h : Sv W m f) => qName_any h)
  have HNx := Lib.hid (fun g f W (h : Fo W g f) => qNext_any h)
  have HAl := Lib.hid (fun f => alike_self (nmf f))
  clear hfew hn hln HDg
  go_enter Tryz.func6, Tryz.ntmps6
  go_wp2_with fail
  refine HAw.out.mono ?_
  rintro e w1 ⟨rfl, hb⟩
  have HB := Lib.hid hb
  clear hb
  dsimp only
  go_wp2_with fail
  refine (HFw.out w1 HB.out).mono ?_
  rintro e w2 ⟨rfl, hb⟩
  have HB := Lib.hid (HB.out.trans (hb.mono HB.out.size))
  clear hb
  dsimp only
  go_wp2_with fail
  refine (HNw.out w2 HB.out).mono ?_
  rintro e w3 ⟨g, rfl, hF, hg, hb⟩
  have HGg := Lib.hid (Nat.le_trans HB.out.size hg)
  have HB := Lib.hid (HB.out.trans (hb.mono HB.out.size))
  have HFg := Lib.hid hF
  clear hF hg hb
  dsimp only
  go_wp2_with fail
  go_loopw [8, 9, 10] (fun x8 _ _ wr => ∃ k : Nat, k ≤ n ∧ x8 = .int .i64 k ∧ Fo wr g (doneF Fs.new (l.take k)) ∧ Below w.heap.size w wr) (fun x8 _ _ _ => n - (intOf x8).toNat)
  case atStart => exact ⟨0, Nat.zero_le _, rfl, HFg.out, HB.out⟩
  case round =>
   clear HFg HB HNw HAw HFw
   obtain ⟨k, hk, rfl, hF, hB⟩ := hrel
   have HFg := Lib.hid hF
   have HB := Lib.hid hB
   clear hF hB
   by_cases hlt : k < n
   ·have k0 : (k : Int) < (n : Int) := by omega
    have hk0 : (0 : Int) ≤ (k : Int) := by omega
    have hkl : k < l.length := by rw [← HN.out]; exact hlt
    obtain ⟨b, off, rfl, hc⟩ := (HSr.out wr HB.out).cell k hlt
    have HC := Lib.hid (fun W hb => op_cells (ops_at hc (W := W) hb))
    have HM := Lib.hid (doneF_more (f := Fs.new) hkl)
    have hok := HOk.out (l.getD k op0) (by rw [List.getD, List.getElem?_eq_getElem hkl]; exact List.getElem_mem hkl)
    have hGk := HG.out k
    obtain ⟨f1, hf1⟩ : ∃ f1, doneF Fs.new (l.take (k + 1)) = f1 := ⟨_, rfl⟩
    rw [hf1] at HM
    have HE1 := Lib.hid hf1
    clear hf1
    generalize doneF Fs.new (l.take k) = f at *
    have HDo := Lib.hid (fun W (h : Fo W g f) => qDo_any h hGk.1 (by omega) hok)
    have hal := HAl.out f.l
    unfold Didf at HDo
    clear hc hok hGk
    generalize l.getD k op0 = o at *
    have HEnd := Lib.hid (fun W (h : Fo W g (Fs.doE env f o).1) => (show Fo W g f1 from HM.out ▸ h))
    rcases doE_cases f o with ⟨c, hact, hd⟩ | ⟨f2, hact, hd⟩
    ·rw [hd] at HDo HEnd
     have HAct := Lib.hid hact
     clear hd hact HM
     obtain ⟨okd, oa, ob, oo, og, on, od⟩ := o
     go_wp2_with fail
     refine (HMp.out g f _ HFg.out).mono ?_
     rintro e w4 ⟨m4, rfl, hSv, rfl⟩
     have HSv := Lib.hid hSv
     clear hSv
     dsimp only
     go_wp2_with fail
     refine (HNm.out m4 f.l _ HSv.out).mono ?_
     rintro e w5 ⟨rfl, hb⟩
     obtain ⟨c0, c1, c2, c3, c4, c5, c6⟩ := HC.out w5 hb
     try dsimp only at c0 c1 c2 c3 c4 c5 c6
     have HB := Lib.hid (HB.out.trans (hb.mono HB.out.size))
     have HFg := Lib.hid (HFg.out.below hb)
     clear hb HSv
     dsimp only
     go_wp2_with fail
     refine (HNx.out g f _ HFg.out).mono ?_
     rintro e w6 ⟨rfl, rfl⟩
     dsimp only
     go_wp2_with fail
     refine (HDo.out _ HFg.out).mono ?_
     rintro e w7 ⟨rfl, hF, hT, hnz⟩
     have hc0 := hnz c HAct.out
     have HB := Lib.hid (turn_below HB.out hT HGg.out)
     have HFg := Lib.hid hF
     clear hF hT hnz c0 c1 c2 c3 c4 c5 c6
     dsimp only
     go_wp2_with fail
     refine (HMp.out g f _ HFg.out).mono ?_
     rintro e w8 ⟨m8, rfl, hSv, rfl⟩
     have HSv := Lib.hid hSv
     clear hSv
     dsimp only
     go_wp2_with fail
     refine (HNm.out m8 f.l _ HSv.out).mono ?_
     rintro e w9 ⟨rfl, hb⟩
     have HB := Lib.hid (HB.out.trans (hb.mono HB.out.size))
     have HFg := Lib.hid (HFg.out.below hb)
     clear hb HSv
     dsimp only
     go_wp2_with fail
     refine (HNx.out g f _ HFg.out).mono ?_
     rintro e w10 ⟨rfl, rfl⟩
     dsimp only
     go_wp2_with fail
     go_roundw
     case rel => exact ⟨k + 1, by omega, by go_num, by rw [HE1.out]; exact HEnd.out _ HFg.out, HB.out⟩
     case measure => simp [intOf]; omega
    ·rw [hd] at HDo HEnd
     clear hd hact HM
     obtain ⟨okd, oa, ob, oo, og, on, od⟩ := o
     go_wp2_with fail
     refine (HMp.out g f _ HFg.out).mono ?_
     rintro e w4 ⟨m4, rfl, hSv, rfl⟩
     have HSv := Lib.hid hSv
     clear hSv
     dsimp only
     go_wp2_with fail
     refine (HNm.out m4 f.l _ HSv.out).mono ?_
     rintro e w5 ⟨rfl, hb⟩
     obtain ⟨c0, c1, c2, c3, c4, c5, c6⟩ := HC.out w5 hb
     try dsimp only at c0 c1 c2 c3 c4 c5 c6
     have HB := Lib.hid (HB.out.trans (hb.mono HB.out.size))
     have HFg := Lib.hid (HFg.out.below hb)
     clear hb HSv
     dsimp only
     go_wp2_with fail
     refine (HNx.out g f _ HFg.out).mono ?_
     rintro e w6 ⟨rfl, rfl⟩
     dsimp only
     go_wp2_with fail
     refine (HDo.out _ HFg.out).mono ?_
     rintro e w7 ⟨rfl, hF, hT, -⟩
     have HB := Lib.hid (turn_below HB.out hT HGg.out)
     have HFg := Lib.hid hF
     clear hF hT c0 c1 c2 c3 c4 c5 c6
     dsimp only
     go_wp2_with fail
     go_roundw
     case rel => exact ⟨k + 1, by omega, by go_num, by rw [HE1.out]; exact HEnd.out _ HFg.out, HB.out⟩
     case measure => simp [intOf]; omega
   ·obtain rfl : k = n := by omega
    have hge : ¬ ((k : Int) < (k : Int)) := by omega
    rw [show l.take k = l by rw [HN.out, List.take_length]] at HFg
    obtain ⟨G, hnx⟩ := done_all (l := l) (by rw [← HN.out]; omega)
    generalize doneF Fs.new l = f at *
    have HF1 := Lib.hid (fun W (h : Fo W g f) => qFind_any h A pa)
    have HF2 := Lib.hid (fun W (h : Fo W g f) => qFind_any h B pb)
    have hok : OpOk (trO A) := ⟨by show (ik 9).wf = true; decide, pa, Nat.zero_le _, Nat.zero_le _, by show (0 : Int) ≤ _; decide, by show (0 : Int) ≤ _; decide, by show (5 : Int) ≤ _; decide⟩
    have HDo := Lib.hid (fun W (h : Fo W g f) => qDo_any h G (by omega) hok)
    have h1f := ents_few G A
    have h2f := ents_few G B
    obtain ⟨⟨i, ⟨xk, xm, xd, xt, xe⟩, d⟩, h1⟩ : ∃ r, findR f.l A = r := ⟨_, rfl⟩
    obtain ⟨⟨q, ⟨yk, ym, yd, yt, ye⟩, e2⟩, h2⟩ : ∃ r, findR f.l B = r := ⟨_, rfl⟩
    rw [h1] at HF1 h1f
    rw [h2] at HF2 h2f
    dsimp only at h1f h2f
    clear HG HOk hk hok hpa hpb hn2 hni HAl HSr HMp HNm HNx
    unfold Didf at HDo
    by_cases hd : d = 0
    case neg =>
     clear HDo h1 h2
     go_wp2_with fail
     refine (HF1.out _ HFg.out).mono ?_
     rintro e w4 ⟨ax, cx, rfl, hE, hb⟩
     have hbx := below_one w4 (.cells #[.int .i64 xk, .int .i64 xm, .string xd, .string xt, .slice ax xe.length cx] 43)
     have hb2 := hb.trans (hbx.mono hb.size)
     have HB := Lib.hid (HB.out.trans (hb2.mono HB.out.size))
     have HFg := Lib.hid (HFg.out.below hb2)
     have HXx := Lib.hid (show (w4.alloc (.cells #[.int .i64 xk, .int .i64 xm, .string xd, .string xt, .slice ax xe.length cx] 43)).heap[w4.heap.size]? = some (.cells #[.int .i64 xk, .int .i64 xm, .string xd, .string xt, .slice ax xe.length cx] 43 (0, 0)) from heap_alloc_new _ _)
     have HEx := Lib.hid (hE.below hbx)
     have HQxg := Lib.hid (show w4.heap.size ≠ g from fun e => by have h1 := HFg.out; obtain ⟨_, h2, _⟩ := h1; rw [← e, heap_alloc_new] at h2; injection h2 with h2; injection h2 with _ h2 _; exact absurd h2 (by decide))
     clear hb hE hbx hb2
     dsimp only
     go_wp2_with fail
     refine (HF2.out _ HFg.out).mono ?_
     rintro e w5 ⟨ay, cy, rfl, hE, hb⟩
     have hbx := below_one w5 (.cells #[.int .i64 yk, .int .i64 ym, .string yd, .string yt, .slice ay ye.length cy] 43)
     have hb2 := hb.trans (hbx.mono hb.size)
     have HB := Lib.hid (HB.out.trans (hb2.mono HB.out.size))
     have HFg := Lib.hid (HFg.out.below hb2)
     have HXx := Lib.hid ((hb2.block _ (lt_of_obj HXx.out)).trans HXx.out)
     have HEx := Lib.hid (HEx.out.below hb2)
     have HXy := Lib.hid (show (w5.alloc (.cells #[.int .i64 yk, .int .i64 ym, .string yd, .string yt, .slice ay ye.length cy] 43)).heap[w5.heap.size]? = some (.cells #[.int .i64 yk, .int .i64 ym, .string yd, .string yt, .slice ay ye.length cy] 43 (0, 0)) from heap_alloc_new _ _)
     have HEy := Lib.hid (hE.below hbx)
     have HQyg := Lib.hid (show w5.heap.size ≠ g from fun e => by have h1 := HFg.out; obtain ⟨_, h2, _⟩ := h1; rw [← e, heap_alloc_new] at h2; injection h2 with h2; injection h2 with _ h2 _; exact absurd h2 (by decide))
     clear hb hE hbx hb2
     clear HXx HEx HXy HEy HQxg HQyg
     dsimp only
     go_wp2_with fail
     go_ret
     exact ⟨rfl, HB.out⟩
    subst hd
    by_cases he : e2 = 0
    case neg =>
     clear HDo h1 h2
     go_wp2_with fail
     refine (HF1.out _ HFg.out).mono ?_
     rintro e w4 ⟨ax, cx, rfl, hE, hb⟩
     have hbx := below_one w4 (.cells #[.int .i64 xk, .int .i64 xm, .string xd, .string xt, .slice ax xe.length cx] 43)
     have hb2 := hb.trans (hbx.mono hb.size)
     have HB := Lib.hid (HB.out.trans (hb2.mono HB.out.size))
     have HFg := Lib.hid (HFg.out.below hb2)
     have HXx := Lib.hid (show (w4.alloc (.cells #[.int .i64 xk, .int .i64 xm, .string xd, .string xt, .slice ax xe.length cx] 43)).heap[w4.heap.size]? = some (.cells #[.int .i64 xk, .int .i64 xm, .string xd, .string xt, .slice ax xe.length cx] 43 (0, 0)) from heap_alloc_new _ _)
     have HEx := Lib.hid (hE.below hbx)
     have HQxg := Lib.hid (show w4.heap.size ≠ g from fun e => by have h1 := HFg.out; obtain ⟨_, h2, _⟩ := h1; rw [← e, heap_alloc_new] at h2; injection h2 with h2; injection h2 with _ h2 _; exact absurd h2 (by decide))
     clear hb hE hbx hb2
     dsimp only
     go_wp2_with fail
     refine (HF2.out _ HFg.out).mono ?_
     rintro e w5 ⟨ay, cy, rfl, hE, hb⟩
     have hbx := below_one w5 (.cells #[.int .i64 yk, .int .i64 ym, .string yd, .string yt, .slice ay ye.length cy] 43)
     have hb2 := hb.trans (hbx.mono hb.size)
     have HB := Lib.hid (HB.out.trans (hb2.mono HB.out.size))
     have HFg := Lib.hid (HFg.out.below hb2)
     have HXx := Lib.hid ((hb2.block _ (lt_of_obj HXx.out)).trans HXx.out)
     have HEx := Lib.hid (HEx.out.below hb2)
     have HXy := Lib.hid (show (w5.alloc (.cells #[.int .i64 yk, .int .i64 ym, .string yd, .string yt, .slice ay ye.length cy] 43)).heap[w5.heap.size]? = some (.cells #[.int .i64 yk, .int .i64 ym, .string yd, .string yt, .slice ay ye.length cy] 43 (0, 0)) from heap_alloc_new _ _)
     have HEy := Lib.hid (hE.below hbx)
     have HQyg := Lib.hid (show w5.heap.size ≠ g from fun e => by have h1 := HFg.out; obtain ⟨_, h2, _⟩ := h1; rw [← e, heap_alloc_new] at h2; injection h2 with h2; injection h2 with _ h2 _; exact absurd h2 (by decide))
     clear hb hE hbx hb2
     clear HXx HEx HXy HEy HQxg HQyg
     dsimp only
     go_wp2_with fail
     go_ret
     exact ⟨rfl, HB.out⟩
    subst he
    by_cases hk1 : xk = 1
    case neg =>
     clear HDo h1 h2
     go_wp2_with fail
     refine (HF1.out _ HFg.out).mono ?_
     rintro e w4 ⟨ax, cx, rfl, hE, hb⟩
     have hbx := below_one w4 (.cells #[.int .i64 xk, .int .i64 xm, .string xd, .string xt, .slice ax xe.length cx] 43)
     have hb2 := hb.trans (hbx.mono hb.size)
     have HB := Lib.hid (HB.out.trans (hb2.mono HB.out.size))
     have HFg := Lib.hid (HFg.out.below hb2)
     have HXx := Lib.hid (show (w4.alloc (.cells #[.int .i64 xk, .int .i64 xm, .string xd, .string xt, .slice ax xe.length cx] 43)).heap[w4.heap.size]? = some (.cells #[.int .i64 xk, .int .i64 xm, .string xd, .string xt, .slice ax xe.length cx] 43 (0, 0)) from heap_alloc_new _ _)
     have HEx := Lib.hid (hE.below hbx)
     have HQxg := Lib.hid (show w4.heap.size ≠ g from fun e => by have h1 := HFg.out; obtain ⟨_, h2, _⟩ := h1; rw [← e, heap_alloc_new] at h2; injection h2 with h2; injection h2 with _ h2 _; exact absurd h2 (by decide))
     clear hb hE hbx hb2
     dsimp only
     go_wp2_with fail
     refine (HF2.out _ HFg.out).mono ?_
     rintro e w5 ⟨ay, cy, rfl, hE, hb⟩
     have hbx := below_one w5 (.cells #[.int .i64 yk, .int .i64 ym, .string yd, .string yt, .slice ay ye.length cy] 43)
     have hb2 := hb.trans (hbx.mono hb.size)
     have HB := Lib.hid (HB.out.trans (hb2.mono HB.out.size))
     have HFg := Lib.hid (HFg.out.below hb2)
     have HXx := Lib.hid ((hb2.block _ (lt_of_obj HXx.out)).trans HXx.out)
     have HEx := Lib.hid (HEx.out.below hb2)
     have HXy := Lib.hid (show (w5.alloc (.cells #[.int .i64 yk, .int .i64 ym, .string yd, .string yt, .slice ay ye.length cy] 43)).heap[w5.heap.size]? = some (.cells #[.int .i64 yk, .int .i64 ym, .string yd, .string yt, .slice ay ye.length cy] 43 (0, 0)) from heap_alloc_new _ _)
     have HEy := Lib.hid (hE.below hbx)
     have HQyg := Lib.hid (show w5.heap.size ≠ g from fun e => by have h1 := HFg.out; obtain ⟨_, h2, _⟩ := h1; rw [← e, heap_alloc_new] at h2; injection h2 with h2; injection h2 with _ h2 _; exact absurd h2 (by decide))
     clear hb hE hbx hb2
     have u0 : (w5.alloc (.cells #[.int .i64 yk, .int .i64 ym, .string yd, .string yt, .slice ay ye.length cy] 43)).cell? ⟨w4.heap.size, 0, none⟩ = some (.int .i64 xk) := cell_obj HXx.out 0
     clear HXx HEx HXy HEy HQxg HQyg
     dsimp only
     go_wp2_with fail
     go_ret
     exact ⟨rfl, HB.out⟩
    subst hk1
    rcases doE_cases f (trO A) with ⟨c, hact, hdo⟩ | ⟨f2, hact, hdo⟩
    ·rw [hdo] at HDo
     have HAct := Lib.hid hact
     clear hact hdo h1 h2
     unfold trO at HDo
     go_wp2_with fail
     refine (HF1.out _ HFg.out).mono ?_
     rintro e w4 ⟨ax, cx, rfl, hE, hb⟩
     have hbx := below_one w4 (.cells #[.int .i64 1, .int .i64 xm, .string xd, .string xt, .slice ax xe.length cx] 43)
     have hb2 := hb.trans (hbx.mono hb.size)
     have HB := Lib.hid (HB.out.trans (hb2.mono HB.out.size))
     have HFg := Lib.hid (HFg.out.below hb2)
     have HXx := Lib.hid (show (w4.alloc (.cells #[.int .i64 1, .int .i64 xm, .string xd, .string xt, .slice ax xe.length cx] 43)).heap[w4.heap.size]? = some (.cells #[.int .i64 1, .int .i64 xm, .string xd, .string xt, .slice ax xe.length cx] 43 (0, 0)) from heap_alloc_new _ _)
     have HEx := Lib.hid (hE.below hbx)
     have HQxg := Lib.hid (show w4.heap.size ≠ g from fun e => by have h1 := HFg.out; obtain ⟨_, h2, _⟩ := h1; rw [← e, heap_alloc_new] at h2; injection h2 with h2; injection h2 with _ h2 _; exact absurd h2 (by decide))
     clear hb hE hbx hb2
     dsimp only
     go_wp2_with fail
     refine (HF2.out _ HFg.out).mono ?_
     rintro e w5 ⟨ay, cy, rfl, hE, hb⟩
     have hbx := below_one w5 (.cells #[.int .i64 yk, .int .i64 ym, .string yd, .string yt, .slice ay ye.length cy] 43)
     have hb2 := hb.trans (hbx.mono hb.size)
     have HB := Lib.hid (HB.out.trans (hb2.mono HB.out.size))
     have HFg := Lib.hid (HFg.out.below hb2)
     have HXx := Lib.hid ((hb2.block _ (lt_of_obj HXx.out)).trans HXx.out)
     have HEx := Lib.hid (HEx.out.below hb2)
     have HXy := Lib.hid (show (w5.alloc (.cells #[.int .i64 yk, .int .i64 ym, .string yd, .string yt, .slice ay ye.length cy] 43)).heap[w5.heap.size]? = some (.cells #[.int .i64 yk, .int .i64 ym, .string yd, .string yt, .slice ay ye.length cy] 43 (0, 0)) from heap_alloc_new _ _)
     have HEy := Lib.hid (hE.below hbx)
     have HQyg := Lib.hid (show w5.heap.size ≠ g from fun e => by have h1 := HFg.out; obtain ⟨_, h2, _⟩ := h1; rw [← e, heap_alloc_new] at h2; injection h2 with h2; injection h2 with _ h2 _; exact absurd h2 (by decide))
     clear hb hE hbx hb2
     have u0 : (w5.alloc (.cells #[.int .i64 yk, .int .i64 ym, .string yd, .string yt, .slice ay ye.length cy] 43)).cell? ⟨w4.heap.size, 0, none⟩ = some (.int .i64 1) := cell_obj HXx.out 0
     clear HXx HEx HXy HEy HQxg HQyg
     dsimp only
     go_wp2_with fail
     refine (HDo.out _ HFg.out).mono ?_
     rintro e w6 ⟨rfl, hF, hT, hnz⟩
     have hc0 := hnz c HAct.out
     have HB := Lib.hid (turn_below HB.out hT HGg.out)
     have HFg := Lib.hid hF
     clear hF hT hnz
     dsimp only
     go_wp2_with fail
     go_ret
     exact ⟨rfl, HB.out⟩
    ·rw [hdo] at HDo
     obtain ⟨s, hs5, hrd, hf2⟩ := trunc_plain G h1 h2 rfl hact
     have hG2 := (Fs.act_good env_ok G (by omega) hact).1
     have HRd := Lib.hid (fun W (h : Fo W g f2) => (show Calls Tryz.prog 21 #[ptg g, .string A, .int .i64 0, .int .i64 99] W (Both (s.data.toList, 0) W) from hrd ▸ qRead_any h hG2.toHalf A 0 99 pa (by decide) (by decide)))
     have HRd := Lib.hid (show ∀ W, Fo W g f2 → Calls Tryz.prog 21 #[ptg g, .string A, .int .i64 0, .int .i64 99] W (fun e w' => e = .returned (.tuple #[.string s, .int .i64 0]) ∧ Below W.heap.size W w') from HRd.out)
     have hs5i : (s.size : Int) = 5 := by omega
     have HF3 := Lib.hid (fun W (h : Fo W g f2) => qFind_any h B pb)
     rw [hf2] at HF3
     clear hact hdo h1 h2 hrd hf2 hG2 hs5 G
     unfold trO at HDo
     by_cases hki : q = i
     ·subst hki
      rw [if_pos rfl] at HF3
      go_wp2_with fail
      refine (HF1.out _ HFg.out).mono ?_
      rintro e w4 ⟨ax, cx, rfl, hE, hb⟩
      have hbx := below_one w4 (.cells #[.int .i64 1, .int .i64 xm, .string xd, .string xt, .slice ax xe.length cx] 43)
      have hb2 := hb.trans (hbx.mono hb.size)
      have HB := Lib.hid (HB.out.trans (hb2.mono HB.out.size))
      have HFg := Lib.hid (HFg.out.below hb2)
      have HXx := Lib.hid (show (w4.alloc (.cells #[.int .i64 1, .int .i64 xm, .string xd, .string xt, .slice ax xe.length cx] 43)).heap[w4.heap.size]? = some (.cells #[.int .i64 1, .int .i64 xm, .string xd, .string xt, .slice ax xe.length cx] 43 (0, 0)) from heap_alloc_new _ _)
      have HEx := Lib.hid (hE.below hbx)
      have HQxg := Lib.hid (show w4.heap.size ≠ g from fun e => by have h1 := HFg.out; obtain ⟨_, h2, _⟩ := h1; rw [← e, heap_alloc_new] at h2; injection h2 with h2; injection h2 with _ h2 _; exact absurd h2 (by decide))
      clear hb hE hbx hb2
      dsimp only
      go_wp2_with fail
      refine (HF2.out _ HFg.out).mono ?_
      rintro e w5 ⟨ay, cy, rfl, hE, hb⟩
      have hbx := below_one w5 (.cells #[.int .i64 yk, .int .i64 ym, .string yd, .string yt, .slice ay ye.length cy] 43)
      have hb2 := hb.trans (hbx.mono hb.size)
      have HB := Lib.hid (HB.out.trans (hb2.mono HB.out.size))
      have HFg := Lib.hid (HFg.out.below hb2)
      have HXx := Lib.hid ((hb2.block _ (lt_of_obj HXx.out)).trans HXx.out)
      have HEx := Lib.hid (HEx.out.below hb2)
      have HXy := Lib.hid (show (w5.alloc (.cells #[.int .i64 yk, .int .i64 ym, .string yd, .string yt, .slice ay ye.length cy] 43)).heap[w5.heap.size]? = some (.cells #[.int .i64 yk, .int .i64 ym, .string yd, .string yt, .slice ay ye.length cy] 43 (0, 0)) from heap_alloc_new _ _)
      have HEy := Lib.hid (hE.below hbx)
      have HQyg := Lib.hid (show w5.heap.size ≠ g from fun e => by have h1 := HFg.out; obtain ⟨_, h2, _⟩ := h1; rw [← e, heap_alloc_new] at h2; injection h2 with h2; injection h2 with _ h2 _; exact absurd h2 (by decide))
      clear hb hE hbx hb2
      have u0 : (w5.alloc (.cells #[.int .i64 yk, .int .i64 ym, .string yd, .string yt, .slice ay ye.length cy] 43)).cell? ⟨w4.heap.size, 0, none⟩ = some (.int .i64 1) := cell_obj HXx.out 0
      clear HXx HEx HQxg
      dsimp only
      go_wp2_with fail
      refine (HDo.out _ HFg.out).mono ?_
      rintro e w6 ⟨rfl, hF, hT, -⟩
      have HB := Lib.hid (turn_below HB.out hT HGg.out)
      have HXy := Lib.hid (hT.obj HXy.out HQyg.out)
      have HEy := Lib.hid (hT.ents HFg.out HEy.out)
      have HFg := Lib.hid hF
      clear hF hT
      dsimp only
      go_wp2_with fail
      refine (HRd.out _ HFg.out).mono ?_
      rintro e w7 ⟨rfl, hb⟩
      have HB := Lib.hid (HB.out.trans (hb.mono HB.out.size))
      have HFg := Lib.hid (HFg.out.below hb)
      have HXy := Lib.hid ((hb.block _ (lt_of_obj HXy.out)).trans HXy.out)
      have HEy := Lib.hid (HEy.out.below hb)
      clear hb
      dsimp only
      go_wp2_with fail
      clear HXy HEy HQyg
      refine (HF3.out _ HFg.out).mono ?_
      rintro e w8 ⟨az, cz, rfl, -, hb⟩
      have hbx := below_one w8 (.cells #[.int .i64 1, .int .i64 xm, .string s, .string xt, .slice az xe.length cz] 43)
      have hb2 := hb.trans (hbx.mono hb.size)
      have HB := Lib.hid (HB.out.trans (hb2.mono HB.out.size))
      have HFg := Lib.hid (HFg.out.below hb2)
      have z2 : (w8.alloc (.cells #[.int .i64 1, .int .i64 xm, .string s, .string xt, .slice az xe.length cz] 43)).cell? ⟨w8.heap.size, 2, none⟩ = some (.string s) := World.cell?_alloc_new _ _ _ _
      clear hb hbx hb2
      dsimp only
      go_wp2_with fail
      go_ret
      exact ⟨by simp [alike_eq], HB.out⟩
     ·rw [if_neg hki] at HF3
      have hik : ¬ i = q := fun e => hki e.symm
      have HSm := Lib.hid (fun W a1 c1 a2 c2 (h1 : Ents a1 ye.length ye W) (h2 : Ents a2 ye.length ye W) => q_rsame (k := yk) (m := ym) (d := yd) (t := yt) (c := c1) (k' := yk) (m' := ym) (d' := yd) (t' := yt) (c' := c2) W h1 h2 (by omega) (by omega) (sameN_self yk ym yd yt ye))
      go_wp2_with fail
      refine (HF1.out _ HFg.out).mono ?_
      rintro e w4 ⟨ax, cx, rfl, hE, hb⟩
      have hbx := below_one w4 (.cells #[.int .i64 1, .int .i64 xm, .string xd, .string xt, .slice ax xe.length cx] 43)
      have hb2 := hb.trans (hbx.mono hb.size)
      have HB := Lib.hid (HB.out.trans (hb2.mono HB.out.size))
      have HFg := Lib.hid (HFg.out.below hb2)
      have HXx := Lib.hid (show (w4.alloc (.cells #[.int .i64 1, .int .i64 xm, .string xd, .string xt, .slice ax xe.length cx] 43)).heap[w4.heap.size]? = some (.cells #[.int .i64 1, .int .i64 xm, .string xd, .string xt, .slice ax xe.length cx] 43 (0, 0)) from heap_alloc_new _ _)
      have HEx := Lib.hid (hE.below hbx)
      have HQxg := Lib.hid (show w4.heap.size ≠ g from fun e => by have h1 := HFg.out; obtain ⟨_, h2, _⟩ := h1; rw [← e, heap_alloc_new] at h2; injection h2 with h2; injection h2 with _ h2 _; exact absurd h2 (by decide))
      clear hb hE hbx hb2
      dsimp only
      go_wp2_with fail
      refine (HF2.out _ HFg.out).mono ?_
      rintro e w5 ⟨ay, cy, rfl, hE, hb⟩
      have hbx := below_one w5 (.cells #[.int .i64 yk, .int .i64 ym, .string yd, .string yt, .slice ay ye.length cy] 43)
      have hb2 := hb.trans (hbx.mono hb.size)
      have HB := Lib.hid (HB.out.trans (hb2.mono HB.out.size))
      have HFg := Lib.hid (HFg.out.below hb2)
      have HXx := Lib.hid ((hb2.block _ (lt_of_obj HXx.out)).trans HXx.out)
      have HEx := Lib.hid (HEx.out.below hb2)
      have HXy := Lib.hid (show (w5.alloc (.cells #[.int .i64 yk, .int .i64 ym, .string yd, .string yt, .slice ay ye.length cy] 43)).heap[w5.heap.size]? = some (.cells #[.int .i64 yk, .int .i64 ym, .string yd, .string yt, .slice ay ye.length cy] 43 (0, 0)) from heap_alloc_new _ _)
      have HEy := Lib.hid (hE.below hbx)
      have HQyg := Lib.hid (show w5.heap.size ≠ g from fun e => by have h1 := HFg.out; obtain ⟨_, h2, _⟩ := h1; rw [← e, heap_alloc_new] at h2; injection h2 with h2; injection h2 with _ h2 _; exact absurd h2 (by decide))
      clear hb hE hbx hb2
      have u0 : (w5.alloc (.cells #[.int .i64 yk, .int .i64 ym, .string yd, .string yt, .slice ay ye.length cy] 43)).cell? ⟨w4.heap.size, 0, none⟩ = some (.int .i64 1) := cell_obj HXx.out 0
      clear HXx HEx HQxg
      dsimp only
      go_wp2_with fail
      refine (HDo.out _ HFg.out).mono ?_
      rintro e w6 ⟨rfl, hF, hT, -⟩
      have HB := Lib.hid (turn_below HB.out hT HGg.out)
      have HXy := Lib.hid (hT.obj HXy.out HQyg.out)
      have HEy := Lib.hid (hT.ents HFg.out HEy.out)
      have HFg := Lib.hid hF
      clear hF hT
      dsimp only
      go_wp2_with fail
      refine (HRd.out _ HFg.out).mono ?_
      rintro e w7 ⟨rfl, hb⟩
      have HB := Lib.hid (HB.out.trans (hb.mono HB.out.size))
      have HFg := Lib.hid (HFg.out.below hb)
      have HXy := Lib.hid ((hb.block _ (lt_of_obj HXy.out)).trans HXy.out)
      have HEy := Lib.hid (HEy.out.below hb)
      clear hb
      dsimp only
      go_wp2_with fail
      refine (HF3.out _ HFg.out).mono ?_
      rintro e w8 ⟨az, cz, rfl, hE, hb⟩
      have hbx := below_one w8 (.cells #[.int .i64 yk, .int .i64 ym, .string yd, .string yt, .slice az ye.length cz] 43)
      have hb2 := hb.trans (hbx.mono hb.size)
      have HB := Lib.hid (HB.out.trans (hb2.mono HB.out.size))
      have HFg := Lib.hid (HFg.out.below hb2)
      have HXy := Lib.hid ((hb2.block _ (lt_of_obj HXy.out)).trans HXy.out)
      have HEy := Lib.hid (HEy.out.below hb2)
      have u0 : (w8.alloc (.cells #[.int .i64 yk, .int .i64 ym, .string yd, .string yt, .slice az ye.length cz] 43)).cell? ⟨w5.heap.size, 0, none⟩ = some (.int .i64 yk) := cell_obj HXy.out 0
      have u1 : (w8.alloc (.cells #[.int .i64 yk, .int .i64 ym, .string yd, .string yt, .slice az ye.length cz] 43)).cell? ⟨w5.heap.size, 1, none⟩ = some (.int .i64 ym) := cell_obj HXy.out 1
      have u2 : (w8.alloc (.cells #[.int .i64 yk, .int .i64 ym, .string yd, .string yt, .slice az ye.length cz] 43)).cell? ⟨w5.heap.size, 2, none⟩ = some (.string yd) := cell_obj HXy.out 2
      have u3 : (w8.alloc (.cells #[.int .i64 yk, .int .i64 ym, .string yd, .string yt, .slice az ye.length cz] 43)).cell? ⟨w5.heap.size, 3, none⟩ = some (.string yt) := cell_obj HXy.out 3
      have u4 : (w8.alloc (.cells #[.int .i64 yk, .int .i64 ym, .string yd, .string yt, .slice az ye.length cz] 43)).cell? ⟨w5.heap.size, 4, none⟩ = some (.slice ay ye.length cy) := cell_obj HXy.out 4
      have v0 : (w8.alloc (.cells #[.int .i64 yk, .int .i64 ym, .string yd, .string yt, .slice az ye.length cz] 43)).cell? ⟨w8.heap.size, 0, none⟩ = some (.int .i64 yk) := World.cell?_alloc_new _ _ _ _
      have v1 : (w8.alloc (.cells #[.int .i64 yk, .int .i64 ym, .string yd, .string yt, .slice az ye.length cz] 43)).cell? ⟨w8.heap.size, 1, none⟩ = some (.int .i64 ym) := World.cell?_alloc_new _ _ _ _
      have v2 : (w8.alloc (.cells #[.int .i64 yk, .int .i64 ym, .string yd, .string yt, .slice az ye.length cz] 43)).cell? ⟨w8.heap.size, 2, none⟩ = some (.string yd) := World.cell?_alloc_new _ _ _ _
      have v3 : (w8.alloc (.cells #[.int .i64 yk, .int .i64 ym, .string yd, .string yt, .slice az ye.length cz] 43)).cell? ⟨w8.heap.size, 3, none⟩ = some (.string yt) := World.cell?_alloc_new _ _ _ _
      have v4 : (w8.alloc (.cells #[.int .i64 yk, .int .i64 ym, .string yd, .string yt, .slice az ye.length cz] 43)).cell? ⟨w8.heap.size, 4, none⟩ = some (.slice az ye.length cz) := World.cell?_alloc_new _ _ _ _
      have HCm := Lib.hid (HSm.out _ ay cy az cz HEy.out (hE.below hbx))
      clear hb hbx hb2 hE HXy HEy HQyg
      dsimp only
      go_wp2_with fail
      refine (HCm.out).mono ?_
      rintro e w9 ⟨rfl, hb⟩
      have HB := Lib.hid (HB.out.trans (hb.mono HB.out.size))
      have HFg := Lib.hid (HFg.out.below hb)
      clear hb
      dsimp only
      go_wp2_with fail
      go_ret
      exact ⟨rfl, HB.out⟩
end Go.Proofs.YthehblmjloohiaaGreatDoor
