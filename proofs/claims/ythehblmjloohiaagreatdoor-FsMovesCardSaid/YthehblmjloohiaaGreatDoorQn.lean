/- Layer 11, a law walked. -/
import Derived.Test.YthehblmjloohiaaGreatDoorM39
namespace Go.Proofs.YthehblmjloohiaaGreatDoor
set_option maxRecDepth 100000
open Go.RowKit Go.Less Go.Maps
open T8 (pv Dg)
attribute [local go_sem 9000] sem_eql sem_neq
set_option maxHeartbeats 16000000 in
theorem fsMoves_any (a : Option Addr) (n cap : Nat) (l : List Fs.Op) (A B : ByteArray) (w : World) (hS : Opr a n l w) (hn : n ≤ 140737488355328) (pa : A.size ≤ 140737488355328) (pb : B.size ≤ 140737488355328) (hD : Dg w) :
  Calls Tryz.prog 7 #[.slice a n cap, .string A, .string B] w fun e w' => e = .returned (.bool true) ∧ Below w.heap.size w w' := by
 have HAw := Lib.hid (awake_any w hD)
 have HSr := Lib.hid (fun W (hb : Below w.heap.size w W) => hS.below hb)
 have HDg := Lib.hid (fun W (hb : Below w.heap.size w W) => hD.below hb)
 have HN := Lib.hid hS.count
 have HFw := Lib.hid (fun W (hb : Below w.heap.size w W) => few_any a n cap l W (hS.below hb) hn)
 have hpa : (A.size : Int) ≤ 140737488355328 := by omega
 have hpb : (B.size : Int) ≤ 140737488355328 := by omega
 clear hS hD
 cases hfew : few11 l with
 | false =>
  rw [hfew] at HFw
  go_enter Tryz.func7, Tryz.ntmps7
  go_wp2_with fail
  refine HAw.out.mono ?_
  rintro e w1 ⟨rfl, hb⟩
  have HB := Lib.hid hb
  clear hb
  dsimp only
  go_wp2_with fail
  refine (HFw.out w1 HB.out).mono ?_
  rintro e w2 ⟨rfl, hb⟩
  have HB := Lib.hid (HB.out.trans (hb.mono HB.out.size))
  clear hb
  dsimp only
  go_wp2_with fail
  go_ret
  exact ⟨rfl, HB.out⟩
 | true =>
  rw [hfew] at HFw
  by_cases hA : 300 < A.size
  ·have hAi : (300 : Int) < (A.size : Int) := by omega
   go_enter Tryz.func7, Tryz.ntmps7
   go_wp2_with fail
   refine HAw.out.mono ?_
   rintro e w1 ⟨rfl, hb⟩
   have HB := Lib.hid hb
   clear hb
   dsimp only
   go_wp2_with fail
   refine (HFw.out w1 HB.out).mono ?_
   rintro e w2 ⟨rfl, hb⟩
   have HB := Lib.hid (HB.out.trans (hb.mono HB.out.size))
   clear hb
   dsimp only
   go_wp2_with fail
   go_ret
   exact ⟨rfl, HB.out⟩
  have hAi : ¬ (300 : Int) < (A.size : Int) := by omega
  by_cases hB : 300 < B.size
  ·have hBi : (300 : Int) < (B.size : Int) := by omega
   go_enter Tryz.func7, Tryz.ntmps7
   go_wp2_with fail
   refine HAw.out.mono ?_
   rintro e w1 ⟨rfl, hb⟩
   have HB := Lib.hid hb
   clear hb
   dsimp only
   go_wp2_with fail
   refine (HFw.out w1 HB.out).mono ?_
   rintro e w2 ⟨rfl, hb⟩
   have HB := Lib.hid (HB.out.trans (hb.mono HB.out.size))
   clear hb
   dsimp only
   go_wp2_with fail
   go_ret
   exact ⟨rfl, HB.out⟩
  have hBi : ¬ (300 : Int) < (B.size : Int) := by omega
  have hln := few_len hfew
  have hn2 : n ≤ 120 := by rw [HN.out]; exact hln
  obtain ⟨G, hnx⟩ := done_all (l := l) (by omega)
  have HDn := Lib.hid (fun W (hb : Below w.heap.size w W) => done_any a n cap l W (HSr.out W hb) (by omega) (HDg.out W hb))
  generalize doneF Fs.new l = f at *
  have HFa := Lib.hid (fun g W (h : Lw w g f W) => qFind_any h.fo A pa)
  have HMp := Lib.hid (fun g f W (h : Lw w g f W) => qMap_any h.fo)
  have HNm := Lib.hid (fun m f W (h : Sv W m f) => qName_any h)
  have HD7 := Lib.hid (fun g W (h : Lw w g f W) => qDo_any h.fo G (by omega) (opok_mv pa pb))
  clear hfew HSr HDg HN hn hn2 hln
  unfold Didf at HD7
  rcases doE_cases f (mvO A B) with ⟨c, hc, hd⟩ | ⟨f2, hc, hd⟩
  ·rw [hd] at HD7
   have HC := Lib.hid hc
   clear hc hd
   go_enter Tryz.func7, Tryz.ntmps7
   go_wp2_with fail
   refine HAw.out.mono ?_
   rintro e w1 ⟨rfl, hb⟩
   have HB := Lib.hid hb
   clear hb
   dsimp only
   go_wp2_with fail
   refine (HFw.out w1 HB.out).mono ?_
   rintro e w2 ⟨rfl, hb⟩
   have HB := Lib.hid (HB.out.trans (hb.mono HB.out.size))
   clear hb
   dsimp only
   go_wp2_with fail
   refine (HDn.out w2 HB.out).mono ?_
   rintro e w3 ⟨g, rfl, hF, hg, hb⟩
   have HL := Lib.hid (show Lw w g f w3 from ⟨HB.out.trans (hb.mono HB.out.size), hF, Nat.le_trans HB.out.size hg⟩)
   clear hF hg hb HB
   dsimp only
   go_wp2_with fail
   refine (HMp.out g f _ HL.out).mono ?_
   rintro e w4 ⟨m, rfl, hSv, rfl⟩
   have HSv := Lib.hid hSv
   clear hSv
   dsimp only
   go_wp2_with fail
   refine (HNm.out m f.l _ HSv.out).mono ?_
   rintro e w5 ⟨rfl, hb⟩
   have HL := Lib.hid (HL.out.kept hb)
   clear hb HSv
   dsimp only
   go_wp2_with fail
   refine (HFa.out g _ HL.out).mono ?_
   generalize findR f.l A = r at *
   obtain ⟨ri, ⟨xk, xm, xd, xt, xe⟩, rc⟩ := r
   rintro e w6 ⟨ea, ec, rfl, hE, hb⟩
   have HL := Lib.hid ((HL.out.kept hb).kept (below_one w6 (.cells #[.int .i64 xk, .int .i64 xm, .string xd, .string xt, .slice ea xe.length ec] 43)))
   clear hb hE
   dsimp only
   go_wp2_with fail
   refine (HD7.out g _ HL.out).mono ?_
   rintro e w7 ⟨rfl, hF, hT, hnz⟩
   have hc0 := hnz c HC.out
   have HL := Lib.hid (HL.out.did hF hT)
   clear hF hT hnz
   dsimp only
   go_wp2_with fail
   refine (HMp.out g f _ HL.out).mono ?_
   rintro e w8 ⟨m, rfl, hSv, rfl⟩
   have HSv := Lib.hid hSv
   clear hSv
   dsimp only
   go_wp2_with fail
   refine (HNm.out m f.l _ HSv.out).mono ?_
   rintro e w9 ⟨rfl, hb⟩
   have HL := Lib.hid (HL.out.kept hb)
   clear hb HSv
   dsimp only
   go_wp2_with fail
   go_ret
   exact ⟨by simp [alike_eq], HL.out.below⟩
  ·rw [hd] at HD7
   obtain ⟨i, x, p1, p2, p3, p4⟩ := moves_plain G (by omega) hd hc
   have hG2 := (Fs.act_good env_ok G (by omega) hc)
   have HFb := Lib.hid (fun g W (h : Lw w g f2 W) => (show Calls Tryz.prog 19 #[ptg g, .string B] W (Foundy (i, x, 0) W) from p2 ▸ qFind_any h.fo B pb))
   have HFg := Lib.hid (fun g W (h : Lw w g f2 W) => qFind_any h.fo A pa)
   have HD8 := Lib.hid (fun g W (h : Lw w g f2 W) => did h.fo hG2.1 (by have := hG2.2; omega) (opok_mv pb pa) p4)
   rw [p1] at HFa
   obtain ⟨xk, xm, xd, xt, xe⟩ := x
   obtain ⟨⟨gi, ⟨gk, gm, gd, gt, ge⟩, gc⟩, hgr⟩ : ∃ r, findR f2.l A = r := ⟨_, rfl⟩
   rw [hgr] at HFg p3
   dsimp only at p3
   have hxe : xe.length ≤ 64 := by
    have h1 : (findR f.l A).2.1.ents.length ≤ 64 := by
     rcases find_cases2 f.l A with ⟨e, hne, hf⟩ | ⟨ns, j, hs, hw, hf⟩
     ·rw [hf]; exact Nat.zero_le _
     ·rw [hf]
      obtain ⟨y, hy, hyD⟩ := G.walk_node hw
      show (Fs.nodeD f.l j).ents.length ≤ 64
      rw [hyD]
      exact (G.right hy).len
    rw [p1] at h1
    exact h1
   have HSm := Lib.hid (fun W a1 c1 a2 c2 (h1 : Ents a1 xe.length xe W) (h2 : Ents a2 xe.length xe W) => q_rsame (k := xk) (m := xm) (d := xd) (t := xt) (c := c1) (k' := xk) (m' := xm) (d' := xd) (t' := xt) (c' := c2) W h1 h2 (by omega) (by omega) (sameN_self xk xm xd xt xe))
   clear hc hd p1 p2 p4 hG2 hgr G
   unfold mvO at HD7 HD8
   go_enter Tryz.func7, Tryz.ntmps7
   go_wp2_with fail
   refine HAw.out.mono ?_
   rintro e w1 ⟨rfl, hb⟩
   have HB := Lib.hid hb
   clear hb
   dsimp only
   go_wp2_with fail
   refine (HFw.out w1 HB.out).mono ?_
   rintro e w2 ⟨rfl, hb⟩
   have HB := Lib.hid (HB.out.trans (hb.mono HB.out.size))
   clear hb
   dsimp only
   go_wp2_with fail
   refine (HDn.out w2 HB.out).mono ?_
   rintro e w3 ⟨g, rfl, hF, hg, hb⟩
   have HL := Lib.hid (show Lw w g f w3 from ⟨HB.out.trans (hb.mono HB.out.size), hF, Nat.le_trans HB.out.size hg⟩)
   clear hF hg hb HB
   dsimp only
   go_wp2_with fail
   refine (HMp.out g f _ HL.out).mono ?_
   rintro e w4 ⟨m, rfl, hSv, rfl⟩
   have HSv := Lib.hid hSv
   clear hSv
   dsimp only
   go_wp2_with fail
   refine (HNm.out m f.l _ HSv.out).mono ?_
   rintro e w5 ⟨rfl, hb⟩
   have HL := Lib.hid (HL.out.kept hb)
   clear hb HSv
   dsimp only
   go_wp2_with fail
   refine (HFa.out g _ HL.out).mono ?_
   rintro e w6 ⟨ea, ec, rfl, hE, hb⟩
   have hbx := below_one w6 (.cells #[.int .i64 xk, .int .i64 xm, .string xd, .string xt, .slice ea xe.length ec] 43)
   have hL6 := HL.out.kept hb
   have HL := Lib.hid (hL6.kept hbx)
   have HX1 := Lib.hid (show (w6.alloc (.cells #[.int .i64 xk, .int .i64 xm, .string xd, .string xt, .slice ea xe.length ec] 43)).heap[w6.heap.size]? = some (.cells #[.int .i64 xk, .int .i64 xm, .string xd, .string xt, .slice ea xe.length ec] 43 (0, 0)) from heap_alloc_new _ _)
   have HE1 := Lib.hid (hE.below hbx)
   have hne6 : w6.heap.size ≠ g := Nat.ne_of_gt hL6.fo.lt
   clear hb hE hbx hL6
   dsimp only
   go_wp2_with fail
   refine (HD7.out g _ HL.out).mono ?_
   rintro e w7 ⟨rfl, hF, hT, -⟩
   have HX1 := Lib.hid (hT.obj HX1.out hne6)
   have HE1 := Lib.hid (hT.ents HL.out.fo HE1.out)
   have HL := Lib.hid (HL.out.did hF hT)
   clear hF hT hne6
   dsimp only
   go_wp2_with fail
   refine (HFb.out g _ HL.out).mono ?_
   rintro e w8 ⟨ea2, ec2, rfl, hE, hb⟩
   have hbx := below_one w8 (.cells #[.int .i64 xk, .int .i64 xm, .string xd, .string xt, .slice ea2 xe.length ec2] 43)
   have hb2 := hb.trans (hbx.mono hb.size)
   have HL := Lib.hid (HL.out.kept hb2)
   have HX1 := Lib.hid ((hb2.block _ (lt_of_obj HX1.out)).trans HX1.out)
   have HE1 := Lib.hid (HE1.out.below hb2)
   have HX2 := Lib.hid (show (w8.alloc (.cells #[.int .i64 xk, .int .i64 xm, .string xd, .string xt, .slice ea2 xe.length ec2] 43)).heap[w8.heap.size]? = some (.cells #[.int .i64 xk, .int .i64 xm, .string xd, .string xt, .slice ea2 xe.length ec2] 43 (0, 0)) from heap_alloc_new _ _)
   have HE2 := Lib.hid (hE.below hbx)
   clear hb hE hbx hb2
   dsimp only
   go_wp2_with fail
   refine (HFg.out g _ HL.out).mono ?_
   rintro e w9 ⟨ea3, ec3, rfl, -, hb⟩
   have hbx := below_one w9 (.cells #[.int .i64 gk, .int .i64 gm, .string gd, .string gt, .slice ea3 ge.length ec3] 43)
   have hb2 := hb.trans (hbx.mono hb.size)
   have HL := Lib.hid (HL.out.kept hb2)
   have hX1 := (hb2.block _ (lt_of_obj HX1.out)).trans HX1.out
   have hX2 := (hb2.block _ (lt_of_obj HX2.out)).trans HX2.out
   have HC := Lib.hid (HSm.out _ ea ec ea2 ec2 (HE1.out.below hb2) (HE2.out.below hb2))
   have u0 : (w9.alloc (.cells #[.int .i64 gk, .int .i64 gm, .string gd, .string gt, .slice ea3 ge.length ec3] 43)).cell? ⟨w6.heap.size, 0, none⟩ = some (.int .i64 xk) := cell_obj hX1 0
   have u1 : (w9.alloc (.cells #[.int .i64 gk, .int .i64 gm, .string gd, .string gt, .slice ea3 ge.length ec3] 43)).cell? ⟨w6.heap.size, 1, none⟩ = some (.int .i64 xm) := cell_obj hX1 1
   have u2 : (w9.alloc (.cells #[.int .i64 gk, .int .i64 gm, .string gd, .string gt, .slice ea3 ge.length ec3] 43)).cell? ⟨w6.heap.size, 2, none⟩ = some (.string xd) := cell_obj hX1 2
   have u3 : (w9.alloc (.cells #[.int .i64 gk, .int .i64 gm, .string gd, .string gt, .slice ea3 ge.length ec3] 43)).cell? ⟨w6.heap.size, 3, none⟩ = some (.string xt) := cell_obj hX1 3
   have u4 : (w9.alloc (.cells #[.int .i64 gk, .int .i64 gm, .string gd, .string gt, .slice ea3 ge.length ec3] 43)).cell? ⟨w6.heap.size, 4, none⟩ = some (.slice ea xe.length ec) := cell_obj hX1 4
   have v0 : (w9.alloc (.cells #[.int .i64 gk, .int .i64 gm, .string gd, .string gt, .slice ea3 ge.length ec3] 43)).cell? ⟨w8.heap.size, 0, none⟩ = some (.int .i64 xk) := cell_obj hX2 0
   have v1 : (w9.alloc (.cells #[.int .i64 gk, .int .i64 gm, .string gd, .string gt, .slice ea3 ge.length ec3] 43)).cell? ⟨w8.heap.size, 1, none⟩ = some (.int .i64 xm) := cell_obj hX2 1
   have v2 : (w9.alloc (.cells #[.int .i64 gk, .int .i64 gm, .string gd, .string gt, .slice ea3 ge.length ec3] 43)).cell? ⟨w8.heap.size, 2, none⟩ = some (.string xd) := cell_obj hX2 2
   have v3 : (w9.alloc (.cells #[.int .i64 gk, .int .i64 gm, .string gd, .string gt, .slice ea3 ge.length ec3] 43)).cell? ⟨w8.heap.size, 3, none⟩ = some (.string xt) := cell_obj hX2 3
   have v4 : (w9.alloc (.cells #[.int .i64 gk, .int .i64 gm, .string gd, .string gt, .slice ea3 ge.length ec3] 43)).cell? ⟨w8.heap.size, 4, none⟩ = some (.slice ea2 xe.length ec2) := cell_obj hX2 4
   clear hb hbx hb2 hX1 hX2
   dsimp only
   go_wp2_with fail
   refine HC.out.mono ?_
   rintro e w10 ⟨rfl, hb⟩
   have HL := Lib.hid (HL.out.kept hb)
   clear hb u0 u1 u2 u3 u4 v0 v1 v2 v3 v4
   dsimp only
   go_wp2_with fail
   refine (HD8.out g _ HL.out).mono ?_
   rintro e w11 ⟨rfl, hF, hT⟩
   have HL := Lib.hid (HL.out.did hF hT)
   clear hF hT
   dsimp only
   go_wp2_with fail
   refine (HMp.out g f _ HL.out).mono ?_
   rintro e w12 ⟨m, rfl, hSv, rfl⟩
   have HSv := Lib.hid hSv
   clear hSv
   dsimp only
   go_wp2_with fail
   refine (HNm.out m f.l _ HSv.out).mono ?_
   rintro e w13 ⟨rfl, hb⟩
   have HL := Lib.hid (HL.out.kept hb)
   clear hb HSv
   dsimp only
   go_wp2_with fail
   go_ret
   exact ⟨by simp [alike_eq], HL.out.below⟩
end Go.Proofs.YthehblmjloohiaaGreatDoor
