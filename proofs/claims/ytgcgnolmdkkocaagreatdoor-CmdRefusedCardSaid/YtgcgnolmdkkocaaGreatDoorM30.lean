/- A part of the proofs. -/
import Derived.ProofKit
import Derived.LaidMore
import Derived.Lay
import Derived.Carry
import Derived.OpenShut
import Derived.SizedLaws
import Derived.ChangeMaps5
import Derived.Lib.SmallJoins
import Derived.Deep.Fields
import Derived.Deep.Slices
import Derived.SliceStrings
import Derived.ChangeSame
import Derived.Stop.Joined
import Derived.Stop.LaidErr
import Derived.Test.YtgcgnolmdkkocaaGreatDoorM29
set_option maxRecDepth 1000000
set_option maxHeartbeats 16000000
open Go.Lib (hid)
open Go.Proofs.Tryz
namespace Go.Proofs.YtgcgnolmdkkocaaGreatDoor
open Go.RowKit Go.Less Go.Maps
open T8 (pv Dg)
attribute [local go_sem 9000] sem_eql sem_neq
theorem sem_same (t : TypeId) (a : ByteArray) : binOp .neq t (.string a) (.string a) = pure (.bool false) := by rw [sem_neq, alike_self]; rfl
attribute [local go_sem 9500] sem_same
theorem cmdResumes_any (a : Option Addr) (n cap : Nat) (l : List Fs.Op) (a2 : Option Addr) (n2 cap2 : Nat) (l2 : List Fs.Cmd) (cut : Int) (w : World) (hS : Opr a n l w) (hS2 : Cpr a2 n2 l2 w) (hn : n <= 140737488355328) (hn2 : n2 <= 140737488355328) (hD : Dg w) (hT : Tn w) :
  Calls prog 9 #[.slice a n cap, .slice a2 n2 cap2, .int .i64 cut] w λe w' => e = .returned (.bool true) /\ Below w.heap.size w w' := by
 have HAw := hid (awake13_any w hD hT)
 have HSr := hid (λW (hb : Below w.heap.size w W) => hS.below hb)
 have HSq := hid (λW (hb : Below w.heap.size w W) => hS2.below hb)
 have HDg := hid (λW (hb : Below w.heap.size w W) => hD.below hb)
 have HN2 := hid hS2.count
 have HN := hid hS.count
 have HOk := hid hS2.ok
 have HFw := hid (λW (hb : Below w.heap.size w W) => few_any a n cap l W (hS.below hb) hn)
 have HFx := hid (λW (hb : Below w.heap.size w W) => few13_any a2 n2 cap2 l2 W (hS2.below hb) hn2)
 clear hS hS2 hD hT
 cases hfew : few11 l with
 | false =>
  rw [hfew] at HFw
  go_enter func9, ntmps9
  go_wp2_with fail
  refine HAw.out.mono ?_
  rintro e w1 ⟨rfl, hb⟩
  have HB := hid hb
  clear hb
  dsimp only
  go_wp2_with fail
  refine (HFw.out w1 HB.out).mono ?_
  rintro e w2 ⟨rfl, hb⟩
  have HB := hid (HB.out.trans (hb.mono HB.out.size))
  clear hb
  dsimp only
  go_wp2_with fail
  go_ret
  exact ⟨rfl, HB.out⟩
 | true =>
 rw [hfew] at HFw
 cases hfew2 : few13 l2 with
 | false =>
  rw [hfew2] at HFx
  go_enter func9, ntmps9
  go_wp2_with fail
  refine HAw.out.mono ?_
  rintro e w1 ⟨rfl, hb⟩
  have HB := hid hb
  clear hb
  dsimp only
  go_wp2_with fail
  refine (HFw.out w1 HB.out).mono ?_
  rintro e w2 ⟨rfl, hb⟩
  have HB := hid (HB.out.trans (hb.mono HB.out.size))
  clear hb
  dsimp only
  go_wp2_with fail
  refine (HFx.out w2 HB.out).mono ?_
  rintro e w3 ⟨rfl, hb⟩
  have HB := hid (HB.out.trans (hb.mono HB.out.size))
  clear hb
  dsimp only
  go_wp2_with fail
  go_ret
  exact ⟨rfl, HB.out⟩
 | true =>
 rw [hfew2] at HFx
 have hln := few_len hfew
 have hln2 := few13_len hfew2
 have hnl : n <= 120 := by rw [HN.out]; exact hln
 have hn2l : n2 <= 150 := by rw [HN2.out]; exact hln2
 have hn2i : (n2 : Int) <= 150 := by omega
 have HDn := hid (λW (hb : Below w.heap.size w W) => done_any a n cap l W (HSr.out W hb) (by omega) (HDg.out W hb))
 obtain ⟨hG, hnx⟩ := done_all (l := l) (by omega)
 generalize doneF Fs.new l = f at *
 have HG := hid hG
 have HNx := hid hnx
 have HP := hid (Okc.of hG.toHalf (by omega))
 have HNs := hid (λq W (h : Fo W q f) => cNew_any h HP.out)
 have HRs := hid (λq m L W (h : Fo W q f) (hS : Sv W m L) (hc : Okc L) => cResume_any h hS HP.out hc)
 have HMp := hid (λg p L W (h : Stg W g p f L) => cMap_any h)
 have HNm := hid (λm L W (h : Sv W m L) => qName_any h)
 have HC := hid (λk (hk : k < n2) W (hb : Below w.heap.size w W) => (HSq.out W hb).cell k hk)
 clear hfew hfew2 hn hn2 hln hln2 hG hnx HSr HDg HSq HN hnl
 go_enter func9, ntmps9
 go_wp2_with fail
 refine HAw.out.mono ?_
 rintro e w1 ⟨rfl, hb⟩
 have HB := hid hb
 clear hb HAw
 dsimp only
 go_wp2_with fail
 refine (HFw.out w1 HB.out).mono ?_
 rintro e w2 ⟨rfl, hb⟩
 have HB := hid (HB.out.trans (hb.mono HB.out.size))
 clear hb HFw
 dsimp only
 go_wp2_with fail
 refine (HFx.out w2 HB.out).mono ?_
 rintro e w3 ⟨rfl, hb⟩
 have HB := hid (HB.out.trans (hb.mono HB.out.size))
 clear hb HFx
 dsimp only
 go_wp2_with fail
 refine (HDn.out w3 HB.out).mono ?_
 rintro e w4 ⟨gf, rfl, hF, hg, hb⟩
 have HGf := hid (Nat.le_trans HB.out.size hg)
 have HB := hid (HB.out.trans (hb.mono HB.out.size))
 have HFf := hid hF
 clear hF hg hb HDn
 dsimp only
 go_wp2_with fail
 refine (HNs.out gf w4 HFf.out).mono ?_
 rintro e w5 ⟨ga, pa, rfl, hS, hg, -, hb⟩
 have HGa := hid (Nat.le_trans HB.out.size hg)
 have HB := hid (HB.out.trans (hb.mono HB.out.size))
 have HFf := hid (HFf.out.below hb)
 have HSa := hid hS
 clear hS hg hb
 dsimp only
 go_wp2_with fail
 refine (HNs.out gf w5 HFf.out).mono ?_
 rintro e w6 ⟨gb, pb, rfl, hS, hg, -, hb⟩
 have HGb := hid (Nat.le_trans HB.out.size hg)
 have HNe := hid (show gb ≠ ga from λe => by have := HSa.out.lt; omega)
 have HB := hid (HB.out.trans (hb.mono HB.out.size))
 have HFf := hid (HFf.out.below hb)
 have HSa := hid (HSa.out.below hb)
 have HSb := hid hS
 clear hS hg hb HNs
 dsimp only
 go_wp2_with fail
 go_loopw [9, 10] (λx9 x10 wr => ∃ (k gb pb : Nat), k <= n2 /\ x9 = ptg gb /\ x10 = .int .i64 k /\ Stg wr ga pa f (doneC f.l f.l (l2.take k)) /\ Stg wr gb pb f (doneC f.l f.l (l2.take k)) /\ gb ≠ ga /\ w.heap.size <= gb /\ Fo wr gf f /\ Below w.heap.size w wr) (λ_ x10 _ => n2 - (intOf x10).toNat)
 case atStart => exact ⟨0, gb, pb, Nat.zero_le _, rfl, rfl, HSa.out, HSb.out, HNe.out, HGb.out, HFf.out, HB.out⟩
 case round =>
  clear HSa HSb HNe HGb HFf HB
  obtain ⟨k, gb, pb, hk, rfl, rfl, hSa, hSb, hne, hgb, hF, hB⟩ := hrel
  have HSa := hid hSa
  have HSb := hid hSb
  have HNe := hid hne
  have HGb := hid hgb
  have HFf := hid hF
  have HB := hid hB
  clear hSa hSb hne hgb hF hB
  by_cases hlt : k < n2
  ·have k0 : (k : Int) < (n2 : Int) := by omega
   have hk0 : (0 : Int) <= (k : Int) := by omega
   have hkl : k < l2.length := by rw [<- HN2.out]; exact hlt
   obtain ⟨b, off, rfl, hc⟩ := HC.out k hlt w (Below.refl _ _)
   have HCt := hid (λW (hb : Below w.heap.size w W) => cmd_cells (cmds_at hc (W := W) hb))
   have HM := hid (doneC_more (par := f.l) (l := f.l) hkl)
   have hok := cmds_ok HOk.out hkl
   have HDo := hid (λg p W (h : Stg W g p f (doneC f.l f.l (l2.take k))) => cDo_any h (l2.getD k cmd0) hok)
   generalize doneC f.l f.l (l2.take k) = L at *
   generalize l2.getD k cmd0 = q at *
   obtain ⟨L2, hL2⟩ : ∃ L2, doneC f.l f.l (l2.take (k + 1)) = L2 := ⟨_, rfl⟩
   have HL2 := hid hL2
   rw [hL2] at HM
   clear hL2
   rw [<- HM.out] at HDo
   generalize (Fs.doC env f.l L q).2 = cd at *
   obtain ⟨q0, q1, q2, q3, q4, q5, q6, q7⟩ := q
   clear hc hok HM
   by_cases hm : (k : Int).tmod 2 = 0
   ·go_wp2_with fail
    refine (HMp.out gb pb L wr HSb.out).mono ?_
    rintro e w7 ⟨m7, rfl, hv7, rfl⟩
    have HV7 := hid hv7
    have HOk7 := hid HSb.out.ok
    clear hv7
    dsimp only
    go_wp2_with fail
    refine (HRs.out gf m7 L _ HFf.out HV7.out HOk7.out).mono ?_
    rintro e w7 ⟨gq, pq, rfl, hS7, hg7, -, hb7⟩
    have HGb := hid (Nat.le_trans HB.out.size hg7)
    have HNe := hid (show gq ≠ ga from λe => by have := HSa.out.lt; omega)
    have HB := hid (HB.out.trans (hb7.mono HB.out.size))
    have HFf := hid (HFf.out.below hb7)
    have HSa := hid (HSa.out.below hb7)
    have HSb := hid hS7
    clear hS7 hg7 hb7 HV7 HOk7
    dsimp only
    have HDr := hid ((Below.refl w7.heap.size w7).drew)
    have HE1 := hid (HDo.out ga pa _ (HSa.out.below HDr.out))
    obtain ⟨c0, c1, c2, c3, c4, c5, c6, c7⟩ := HCt.out w7 HB.out
    go_wp2_with fail
    go_region_law (first
     | (go_simp; (with_reducible refine HE1.out.mono ?_); rintro e w7 ⟨rfl, hSa7, hT7⟩; have hSb7 := Stg.turnS hT7 (HSa.out.below HDr.out) (HSb.out.below HDr.out) HNe.out; have hF7 := Stg.fo hT7 (HSa.out.below HDr.out) (HFf.out.below HDr.out); have hB7 := turn_below (HB.out.drew) hT7 HGa.out; have HE2 := hid (HDo.out gq pq _ hSb7); obtain ⟨b0, b1, b2, b3, b4, b5, b6, b7⟩ := HCt.out w7 hB7)
     | (go_simp; (with_reducible refine HE2.out.mono ?_); rintro e w8 ⟨rfl, hSb8, hT8⟩; have hSa8 := Stg.turnS hT8 hSb7 hSa7 (Ne.symm HNe.out); have hF8 := Stg.fo hT8 hSb7 hF7; have hB8 := turn_below hB7 hT8 HGb.out; have HM1 := hid (HMp.out ga pa L2 _ hSa8))
     | (go_simp; (with_reducible refine HM1.out.mono ?_); rintro e w9 ⟨m9, rfl, hv9, rfl⟩; have HN1 := hid (HNm.out m9 L2 _ hv9))
     | (go_simp; (with_reducible refine HN1.out.mono ?_); rintro e w10 ⟨rfl, hb10⟩; have hSb10 := hSb8.below hb10; have HM3 := hid (HMp.out gq pq L2 _ hSb10))
     | (go_simp; (with_reducible refine HM3.out.mono ?_); rintro e w11 ⟨m11, rfl, hv11, rfl⟩; have HN3 := hid (HNm.out m11 L2 _ hv11))
     | (go_simp; (with_reducible refine HN3.out.mono ?_); rintro e w12 ⟨rfl, hb12⟩))
    all_goals
     have hb13 := hb10.trans (hb12.mono hb10.size)
     have HX := hid (And.intro (hSa8.below hb13) (And.intro (hSb8.below hb13) (And.intro (hF8.below hb13) (hB8.trans (hb13.mono hB8.size)))))
     clear hSa7 hT7 hSb7 hF7 hB7 hSb8 hT8 hSa8 hF8 hB8 hv9 hb10 hSb10 hv11 hb12 hb13 HE1 HE2 HM1 HN1 HM3 HN3
     go_wp2_with fail
     go_roundw
     case rel => exact ⟨k + 1, gq, pq, by omega, rfl, by go_num, by rw [HL2.out]; exact HX.out.1, by rw [HL2.out]; exact HX.out.2.1, HNe.out, HGb.out, HX.out.2.2.1, HX.out.2.2.2⟩
     case measure => simp [intOf]; omega
   have hm2 : ¬ (k : Int) % 2 = 0 := by rw [Int.tmod_eq_emod_of_nonneg hk0] at hm; exact hm
   cases hcb : ((k : Int) == cut) with
   | true =>
    go_wp2_with fail
    refine (HMp.out gb pb L wr HSb.out).mono ?_
    rintro e w7 ⟨m7, rfl, hv7, rfl⟩
    have HV7 := hid hv7
    have HOk7 := hid HSb.out.ok
    clear hv7
    dsimp only
    go_wp2_with fail
    refine (HRs.out gf m7 L _ HFf.out HV7.out HOk7.out).mono ?_
    rintro e w7 ⟨gq, pq, rfl, hS7, hg7, -, hb7⟩
    have HGb := hid (Nat.le_trans HB.out.size hg7)
    have HNe := hid (show gq ≠ ga from λe => by have := HSa.out.lt; omega)
    have HB := hid (HB.out.trans (hb7.mono HB.out.size))
    have HFf := hid (HFf.out.below hb7)
    have HSa := hid (HSa.out.below hb7)
    have HSb := hid hS7
    clear hS7 hg7 hb7 HV7 HOk7
    dsimp only
    have HDr := hid ((Below.refl w7.heap.size w7).drew)
    have HE1 := hid (HDo.out ga pa _ (HSa.out.below HDr.out))
    obtain ⟨c0, c1, c2, c3, c4, c5, c6, c7⟩ := HCt.out w7 HB.out
    go_wp2_with fail
    go_region_law (first
     | (go_simp; (with_reducible refine HE1.out.mono ?_); rintro e w7 ⟨rfl, hSa7, hT7⟩; have hSb7 := Stg.turnS hT7 (HSa.out.below HDr.out) (HSb.out.below HDr.out) HNe.out; have hF7 := Stg.fo hT7 (HSa.out.below HDr.out) (HFf.out.below HDr.out); have hB7 := turn_below (HB.out.drew) hT7 HGa.out; have HE2 := hid (HDo.out gq pq _ hSb7); obtain ⟨b0, b1, b2, b3, b4, b5, b6, b7⟩ := HCt.out w7 hB7)
     | (go_simp; (with_reducible refine HE2.out.mono ?_); rintro e w8 ⟨rfl, hSb8, hT8⟩; have hSa8 := Stg.turnS hT8 hSb7 hSa7 (Ne.symm HNe.out); have hF8 := Stg.fo hT8 hSb7 hF7; have hB8 := turn_below hB7 hT8 HGb.out; have HM1 := hid (HMp.out ga pa L2 _ hSa8))
     | (go_simp; (with_reducible refine HM1.out.mono ?_); rintro e w9 ⟨m9, rfl, hv9, rfl⟩; have HN1 := hid (HNm.out m9 L2 _ hv9))
     | (go_simp; (with_reducible refine HN1.out.mono ?_); rintro e w10 ⟨rfl, hb10⟩; have hSb10 := hSb8.below hb10; have HM3 := hid (HMp.out gq pq L2 _ hSb10))
     | (go_simp; (with_reducible refine HM3.out.mono ?_); rintro e w11 ⟨m11, rfl, hv11, rfl⟩; have HN3 := hid (HNm.out m11 L2 _ hv11))
     | (go_simp; (with_reducible refine HN3.out.mono ?_); rintro e w12 ⟨rfl, hb12⟩))
    all_goals
     have hb13 := hb10.trans (hb12.mono hb10.size)
     have HX := hid (And.intro (hSa8.below hb13) (And.intro (hSb8.below hb13) (And.intro (hF8.below hb13) (hB8.trans (hb13.mono hB8.size)))))
     clear hSa7 hT7 hSb7 hF7 hB7 hSb8 hT8 hSa8 hF8 hB8 hv9 hb10 hSb10 hv11 hb12 hb13 HE1 HE2 HM1 HN1 HM3 HN3
     go_wp2_with fail
     go_roundw
     case rel => exact ⟨k + 1, gq, pq, by omega, rfl, by go_num, by rw [HL2.out]; exact HX.out.1, by rw [HL2.out]; exact HX.out.2.1, HNe.out, HGb.out, HX.out.2.2.1, HX.out.2.2.2⟩
     case measure => simp [intOf]; omega
   | false =>
    have HDr := hid ((Below.refl wr.heap.size wr).drew)
    have HE1 := hid (HDo.out ga pa _ (HSa.out.below HDr.out))
    obtain ⟨c0, c1, c2, c3, c4, c5, c6, c7⟩ := HCt.out wr HB.out
    go_wp2_with fail
    go_region_law (first
     | (go_simp; (with_reducible refine HE1.out.mono ?_); rintro e w7 ⟨rfl, hSa7, hT7⟩; have hSb7 := Stg.turnS hT7 (HSa.out.below HDr.out) (HSb.out.below HDr.out) HNe.out; have hF7 := Stg.fo hT7 (HSa.out.below HDr.out) (HFf.out.below HDr.out); have hB7 := turn_below (HB.out.drew) hT7 HGa.out; have HE2 := hid (HDo.out gb pb _ hSb7); obtain ⟨b0, b1, b2, b3, b4, b5, b6, b7⟩ := HCt.out w7 hB7)
     | (go_simp; (with_reducible refine HE2.out.mono ?_); rintro e w8 ⟨rfl, hSb8, hT8⟩; have hSa8 := Stg.turnS hT8 hSb7 hSa7 (Ne.symm HNe.out); have hF8 := Stg.fo hT8 hSb7 hF7; have hB8 := turn_below hB7 hT8 HGb.out; have HM1 := hid (HMp.out ga pa L2 _ hSa8))
     | (go_simp; (with_reducible refine HM1.out.mono ?_); rintro e w9 ⟨m9, rfl, hv9, rfl⟩; have HN1 := hid (HNm.out m9 L2 _ hv9))
     | (go_simp; (with_reducible refine HN1.out.mono ?_); rintro e w10 ⟨rfl, hb10⟩; have hSb10 := hSb8.below hb10; have HM3 := hid (HMp.out gb pb L2 _ hSb10))
     | (go_simp; (with_reducible refine HM3.out.mono ?_); rintro e w11 ⟨m11, rfl, hv11, rfl⟩; have HN3 := hid (HNm.out m11 L2 _ hv11))
     | (go_simp; (with_reducible refine HN3.out.mono ?_); rintro e w12 ⟨rfl, hb12⟩))
    all_goals
     have hb13 := hb10.trans (hb12.mono hb10.size)
     have HX := hid (And.intro (hSa8.below hb13) (And.intro (hSb8.below hb13) (And.intro (hF8.below hb13) (hB8.trans (hb13.mono hB8.size)))))
     clear hSa7 hT7 hSb7 hF7 hB7 hSb8 hT8 hSa8 hF8 hB8 hv9 hb10 hSb10 hv11 hb12 hb13 HE1 HE2 HM1 HN1 HM3 HN3
     go_wp2_with fail
     go_roundw
     case rel => exact ⟨k + 1, gb, pb, by omega, rfl, by go_num, by rw [HL2.out]; exact HX.out.1, by rw [HL2.out]; exact HX.out.2.1, HNe.out, HGb.out, HX.out.2.2.1, HX.out.2.2.2⟩
     case measure => simp [intOf]; omega
  ·obtain rfl : k = n2 := by omega
   have hge : ¬ ((k : Int) < (k : Int)) := by omega
   go_wp2_with fail
   go_ret
   exact ⟨rfl, HB.out⟩
end Go.Proofs.YtgcgnolmdkkocaaGreatDoor
namespace Go.Proofs.YtgcgnolmdkkocaaGreatDoor
open Go.ChangeShapes Go.WideShapes Go.ChangeAt Go.WideMaps Go.WideElems Go.RowKit Go.Joins Go.Deep
theorem own : ownKnob prog.godebug = none := by kernel_rfl
theorem laidOut : laidOutB prog = true := by kernel_rfl
def startZ : List Int := (List.range 8).map λj => T8.u32 (Sha.init.get j)
def roundZ : List Int := (List.range 64).map λj => T8.u32 (Sha.kAt j)
theorem of_laid {n1 n2 : String} {d1 d2 : DataW Unit} {rest : List (String × DataW Unit)} {W : World} (h : laidMet prog ((n1, d1) :: (n2, d2) :: rest) W) (e1 : d1 = Lib.tabData .u32 startZ) (e2 : d2 = Lib.tabData .u32 roundZ)
  (hg1 : prog.globalNamed n1 = some 1) (hg2 : prog.globalNamed n2 = some 3) : T8.Dg W := by
 subst e1 e2
 have t1 := Lib.tabIs_of_head (n := 8) (e := 266) hg1 (show _ = some 299 by kernel_rfl) underlying299 underlying266 (by kernel_rfl) (by kernel_rfl) h
 have t2 := Lib.tabIs_of_head (n := 64) (e := 266) hg2 (show _ = some 300 by kernel_rfl) underlying300 underlying266 (by kernel_rfl) (by kernel_rfl) h.tail
 refine ⟨λj hj => ?_, λj hj => ?_⟩
 ·rw [t2.cell hg2 j (by simp [roundZ]; omega)]
  simp [roundZ, List.getD, hj]
 ·rw [t1.cell hg1 j (by simp [startZ]; omega)]
  simp [startZ, List.getD, hj]
theorem bounded {s : ByteArray} (h : s.data.toList.length <= reachBytes) : s.size <= 140737488355328 := by
 have e : s.data.toList.length = s.size := Array.length_toList
 rw [e] at h
 exact Nat.le_trans h (by decide)
theorem weightsAll_mem {H : Type} {P : Program} {e : TypeId} : ∀ {l : List (DataW H)} {d : DataW H}, d ∈ l -> ∀ n ∈ d.weights P e, n ∈ DataW.weightsAll P e l
 | d' :: r, d, hd, n, hn => by
  simp only [DataW.weightsAll, List.mem_append]
  rcases List.mem_cons.1 hd with rfl | h
  ·exact Or.inl hn
  ·exact Or.inr (weightsAll_mem h n hn)
def vStr : Value -> ByteArray | .string s => s | _ => ByteArray.empty
def vInt : Value -> Int | .int _ z => z | _ => 0
def opAt (w : World) (a : Addr) (i : Nat) : Fs.Op :=
 ⟨vInt ((w.cell? (a.add (i * 7))).getD undef), vStr ((w.cell? (a.add (i * 7 + 1))).getD undef), vStr ((w.cell? (a.add (i * 7 + 2))).getD undef), vInt ((w.cell? (a.add (i * 7 + 3))).getD undef), vInt ((w.cell? (a.add (i * 7 + 4))).getD undef), vInt ((w.cell? (a.add (i * 7 + 5))).getD undef), vStr ((w.cell? (a.add (i * 7 + 6))).getD undef)⟩
section
variable {H : Type} {enc : TypeId × Value -> H} {P : Program} {w : World} {base : Nat} {spare : Nat -> Bool} {held : Bool}
theorem rows_open {t e : TypeId} {fs : Array Field} {fuel : Nat} {cs : List Value} {x : DataW H × List MemPlace} (ht : P.underlying t = some (.slice e)) (he : P.underlying e = some (.struct fs))
  (hone : oneCellFields P fs = true) (hC : P.cellsOf e = fs.size) (h : DataW.trod enc P w base spare held fuel t cs = some x) :
  (cs = [.slice none 0 0] /\ x = (.nil, [])) \/
  ∃ (a : Addr) (len cap m : Nat) (D : Nat -> DataW H), cs = [.slice (some a) len cap] /\ len <= cap /\ m = (if spare a.block then cap else len) /\
   x.1 = .slice ((List.range len).map D) ((List.range (m - len)).map λj => D (len + j)) /\
   ∀ i, i < m -> ∃ (ys : List (DataW H × List MemPlace)) (n : Nat), D i = .agg (ys.map (·.1)) /\ ys.length = fs.size /\
    ∀ (j : Nat) (f : Field), fs[j]? = some f -> ∃ (v : Value) (y : DataW H × List MemPlace), w.cell? (a.add (i * fs.size + j)) = some v /\ ys[j]? = some y /\ DataW.trod enc P w base spare held n f.type [v] = some y := by
 rcases open_slice ht h with h0 | ⟨a, len, cap, m, n, D, Pl, hcs, hb, hl, hm, hmm, hx, hi⟩
 ·exact .inl h0
 ·refine .inr ⟨a, len, cap, m, D, hcs, hl, hmm, by rw [hx], λi him => ?_⟩
  obtain ⟨cs', hc, ht'⟩ := hi i him
  rw [hC] at hc
  obtain ⟨ys, n', hn', hy, hlen, hyl, hf⟩ := DataW.trod_struct he ht'
  obtain ⟨_, hcl, hat⟩ := World.cells?_some hc
  simp only [Prod.mk.injEq] at hy
  refine ⟨ys, n', hy.1, hyl, λj f hj => ?_⟩
  obtain ⟨ho, hk⟩ := hone_of hone j f hj
  have hjl : j < fs.size := (Array.getElem?_eq_some_iff.1 hj).1
  have hcell := hat j hjl
  have hv : cs'[j]? = some (cs'[j]'(by omega)) := List.getElem?_eq_getElem (by omega)
  have h1 := hf j f hj
  rw [ho, hk] at h1
  have hone' : (cs'.drop j).take 1 = [cs'[j]'(by omega)] := by
   rw [List.drop_eq_getElem_cons (by omega)]
   rfl
  rw [hone'] at h1
  have hys : ys[j]? = some (ys[j]'(by omega)) := List.getElem?_eq_getElem (by omega)
  refine ⟨_, _, ?_, hys, h1.trans hys⟩
  rw [<- Go.Deep.add_add, hcell, hv]
end
section
variable {H : Type} {enc : TypeId × Value -> H} {w : World} {base : Nat} {sp : Nat -> Bool} {held : Bool}
theorem i64_le {z : Int} (h : (Lit.int .i64 z).wf = true) : z <= 9223372036854775807 := by
 simp only [Lit.wf, Bool.and_eq_true, decide_eq_true_eq] at h
 exact h.2
theorem ops_open {fuel : Nat} {v : Value} {y : DataW H × List MemPlace} (h : DataW.trod enc prog w base sp held fuel 92 [v] = some y) (hsz : ∀ x ∈ y.1.weights prog 92, x <= reachBytes) : ∃ a n c l, v = .slice a n c /\ Opr a n l w /\ n <= 140737488355328 := by
 rcases rows_open underlying92 underlying55 (by kernel_rfl) (by kernel_rfl) h with ⟨hcs, hx⟩ | ⟨a, n, c, m, D, hcs, hl, hm, hx, hi⟩
 ·injection hcs with hcs _
  subst hcs
  exact ⟨none, 0, 0, [], rfl, ⟨rfl, λj hj => by omega, λo ho => by cases ho⟩, Nat.zero_le _⟩
 ·injection hcs with hcs _
  subst hcs
  have hnm : n <= m := by rw [hm]; split <;> omega
  have hw : ∀ x ∈ (DataW.slice ((List.range n).map D) ((List.range (m - n)).map λj => D (n + j)) : DataW H).weights prog 92, x <= reachBytes := by rw [<- hx]; exact hsz
  simp only [DataW.weights, underlying92] at hw
  have hat : ∀ i, i < n -> ∃ s0 s1 s2 s3 s4 s5 s6, w.cell? (a.add (i * 7)) = some (.int .i64 s0) /\ w.cell? (a.add (i * 7 + 1)) = some (.string s1) /\ w.cell? (a.add (i * 7 + 2)) = some (.string s2) /\ w.cell? (a.add (i * 7 + 3)) = some (.int .i64 s3) /\ w.cell? (a.add (i * 7 + 4)) = some (.int .i64 s4) /\ w.cell? (a.add (i * 7 + 5)) = some (.int .i64 s5) /\ w.cell? (a.add (i * 7 + 6)) = some (.string s6) /\ OpOk ⟨s0, s1, s2, s3, s4, s5, s6⟩ := by
   intro i hin
   obtain ⟨ys, q, hD, hyl, hf⟩ := hi i (by omega)
   obtain ⟨v0, y0, c0, e0, t0⟩ := hf 0 _ rfl
   obtain ⟨v1, y1, c1, e1, t1⟩ := hf 1 _ rfl
   obtain ⟨v2, y2, c2, e2, t2⟩ := hf 2 _ rfl
   obtain ⟨v3, y3, c3, e3, t3⟩ := hf 3 _ rfl
   obtain ⟨v4, y4, c4, e4, t4⟩ := hf 4 _ rfl
   obtain ⟨v5, y5, c5, e5, t5⟩ := hf 5 _ rfl
   obtain ⟨v6, y6, c6, e6, t6⟩ := hf 6 _ rfl
   obtain ⟨s0, hs0, hy0, wf0⟩ := DataW.trod_int underlying3 t0
   obtain ⟨s1, hs1, hy1, wf1⟩ := DataW.trod_string underlying9 t1
   obtain ⟨s2, hs2, hy2, wf2⟩ := DataW.trod_string underlying9 t2
   obtain ⟨s3, hs3, hy3, wf3⟩ := DataW.trod_int underlying3 t3
   obtain ⟨s4, hs4, hy4, wf4⟩ := DataW.trod_int underlying3 t4
   obtain ⟨s5, hs5, hy5, wf5⟩ := DataW.trod_int underlying3 t5
   obtain ⟨s6, hs6, hy6, wf6⟩ := DataW.trod_string underlying9 t6
   injection hs0 with hs0 _
   injection hs1 with hs1 _
   injection hs2 with hs2 _
   injection hs3 with hs3 _
   injection hs4 with hs4 _
   injection hs5 with hs5 _
   injection hs6 with hs6 _
   subst hs0 hs1 hs2 hs3 hs4 hs5 hs6
   have hmem : D i ∈ (List.range n).map D := List.mem_map.2 ⟨i, List.mem_range.2 hin, rfl⟩
   have hin2 : ∀ x, x ∈ (D i).weights prog 55 -> x <= reachBytes := λx hx => hw _ (List.mem_cons_of_mem _ (List.mem_append_left _ (weightsAll_mem hmem _ hx)))
   rw [hD] at hin2
   simp only [DataW.weights, underlying55] at hin2
   match ys, hyl, e0, e1, e2, e3, e4, e5, e6 with
   | [u0, u1, u2, u3, u4, u5, u6], _, e0, e1, e2, e3, e4, e5, e6 =>
    have f1 : u1 = (DataW.lit (Lit.string s1.data.toList), []) := by rw [<- hy1]; simpa using e1
    have f2 : u2 = (DataW.lit (Lit.string s2.data.toList), []) := by rw [<- hy2]; simpa using e2
    have f6 : u6 = (DataW.lit (Lit.string s6.data.toList), []) := by rw [<- hy6]; simpa using e6
    rw [f1, f2, f6] at hin2
    simp [DataW.weightsEach, DataW.weights] at hin2
    exact ⟨s0, s1, s2, s3, s4, s5, s6, c0, c1, c2, c3, c4, c5, c6, ⟨wf0, bounded (hin2 _ (by simp)), bounded (hin2 _ (by simp)), bounded (hin2 _ (by simp)), i64_le wf3, i64_le wf4, i64_le wf5⟩⟩
  have hopAt : ∀ i, i < n -> OpOk (opAt w a i) /\ ∀ j v, (ocs (opAt w a i))[j]? = some v -> w.cell? (a.add (i * 7 + j)) = some v := by
   intro i hin
   obtain ⟨s0, s1, s2, s3, s4, s5, s6, c0, c1, c2, c3, c4, c5, c6, hok⟩ := hat i hin
   have e : opAt w a i = ⟨s0, s1, s2, s3, s4, s5, s6⟩ := by unfold opAt; rw [c0, c1, c2, c3, c4, c5, c6]; rfl
   rw [e]
   refine ⟨hok, λj v hv => ?_⟩
   match j, hv with
   | 0, hv => injection hv with hv; rw [<- hv]; exact c0
   | 1, hv => injection hv with hv; rw [<- hv]; exact c1
   | 2, hv => injection hv with hv; rw [<- hv]; exact c2
   | 3, hv => injection hv with hv; rw [<- hv]; exact c3
   | 4, hv => injection hv with hv; rw [<- hv]; exact c4
   | 5, hv => injection hv with hv; rw [<- hv]; exact c5
   | 6, hv => injection hv with hv; rw [<- hv]; exact c6
   | j + 7, hv => simp [ocs] at hv
  refine ⟨some a, n, c, (List.range n).map (opAt w a), rfl, ⟨by simp, λi hin => ?_, λo ho => ?_⟩, ?_⟩
  ·have hg : ((List.range n).map (opAt w a)).getD i op0 = opAt w a i := by simp [List.getD, hin]
   obtain ⟨b, off, spot⟩ := a
   obtain ⟨s0, _, _, _, _, _, _, h00, _⟩ := hat 0 (by omega)
   have hspot : spot = none := by simpa [Addr.add] using World.cell?_spot h00
   subst hspot
   refine ⟨b, off, rfl, λj v hv => ?_⟩
   rw [hg] at hv
   have := (hopAt i hin).2 j v hv
   rw [Go.WideShapes.add_plain] at this
   rw [Nat.add_assoc]; exact this
  ·obtain ⟨i, hi9, rfl⟩ := List.mem_map.1 ho
   exact (hopAt i (List.mem_range.1 hi9)).1
  ·have := hw _ List.mem_cons_self
   have hb : 1 <= prog.bytesOf 55 := by rw [show prog.bytesOf 55 = 80 by kernel_rfl]; decide
   have hr : reachBytes <= 140737488355328 := by decide
   simp only [List.length_map, List.length_range] at this
   have h2 : n + (m - n) <= (n + (m - n)) * prog.bytesOf 55 := Nat.le_mul_of_pos_right _ hb
   omega
end
def cmdAt (w : World) (a : Addr) (i : Nat) : Fs.Cmd :=
 ⟨vInt ((w.cell? (a.add (i * 8))).getD undef), vInt ((w.cell? (a.add (i * 8 + 1))).getD undef), vInt ((w.cell? (a.add (i * 8 + 2))).getD undef), vInt ((w.cell? (a.add (i * 8 + 3))).getD undef), vInt ((w.cell? (a.add (i * 8 + 4))).getD undef), vInt ((w.cell? (a.add (i * 8 + 5))).getD undef), vStr ((w.cell? (a.add (i * 8 + 6))).getD undef), vStr ((w.cell? (a.add (i * 8 + 7))).getD undef)⟩
section
variable {H : Type} {enc : TypeId × Value -> H} {w : World} {base : Nat} {sp : Nat -> Bool} {held : Bool}
theorem i64_ge {z : Int} (h : (Lit.int .i64 z).wf = true) : -9223372036854775808 <= z := by
 simp only [Lit.wf, Bool.and_eq_true, decide_eq_true_eq] at h
 exact h.1
theorem cmds_open {fuel : Nat} {v : Value} {y : DataW H × List MemPlace} (h : DataW.trod enc prog w base sp held fuel 93 [v] = some y) (hsz : ∀ x ∈ y.1.weights prog 93, x <= reachBytes) : ∃ a n c l, v = .slice a n c /\ Cpr a n l w /\ n <= 140737488355328 := by
 rcases rows_open underlying93 underlying80 (by kernel_rfl) (by kernel_rfl) h with ⟨hcs, hx⟩ | ⟨a, n, c, m, D, hcs, hl, hm, hx, hi⟩
 ·injection hcs with hcs _
  subst hcs
  exact ⟨none, 0, 0, [], rfl, ⟨rfl, λj hj => by omega, λo ho => by cases ho⟩, Nat.zero_le _⟩
 ·injection hcs with hcs _
  subst hcs
  have hnm : n <= m := by rw [hm]; split <;> omega
  have hw : ∀ x ∈ (DataW.slice ((List.range n).map D) ((List.range (m - n)).map λj => D (n + j)) : DataW H).weights prog 93, x <= reachBytes := by rw [<- hx]; exact hsz
  simp only [DataW.weights, underlying93] at hw
  have hat : ∀ i, i < n -> ∃ s0 s1 s2 s3 s4 s5 s6 s7, w.cell? (a.add (i * 8)) = some (.int .i64 s0) /\ w.cell? (a.add (i * 8 + 1)) = some (.int .i64 s1) /\ w.cell? (a.add (i * 8 + 2)) = some (.int .i64 s2) /\ w.cell? (a.add (i * 8 + 3)) = some (.int .i64 s3) /\ w.cell? (a.add (i * 8 + 4)) = some (.int .i64 s4) /\ w.cell? (a.add (i * 8 + 5)) = some (.int .i64 s5) /\ w.cell? (a.add (i * 8 + 6)) = some (.string s6) /\ w.cell? (a.add (i * 8 + 7)) = some (.string s7) /\ CmdOk ⟨s0, s1, s2, s3, s4, s5, s6, s7⟩ := by
   intro i hin
   obtain ⟨ys, q, hD, hyl, hf⟩ := hi i (by omega)
   obtain ⟨v0, y0, c0, e0, t0⟩ := hf 0 _ rfl
   obtain ⟨v1, y1, c1, e1, t1⟩ := hf 1 _ rfl
   obtain ⟨v2, y2, c2, e2, t2⟩ := hf 2 _ rfl
   obtain ⟨v3, y3, c3, e3, t3⟩ := hf 3 _ rfl
   obtain ⟨v4, y4, c4, e4, t4⟩ := hf 4 _ rfl
   obtain ⟨v5, y5, c5, e5, t5⟩ := hf 5 _ rfl
   obtain ⟨v6, y6, c6, e6, t6⟩ := hf 6 _ rfl
   obtain ⟨v7, y7, c7, e7, t7⟩ := hf 7 _ rfl
   obtain ⟨s0, hs0, hy0, wf0⟩ := DataW.trod_int underlying3 t0
   obtain ⟨s1, hs1, hy1, wf1⟩ := DataW.trod_int underlying3 t1
   obtain ⟨s2, hs2, hy2, wf2⟩ := DataW.trod_int underlying3 t2
   obtain ⟨s3, hs3, hy3, wf3⟩ := DataW.trod_int underlying3 t3
   obtain ⟨s4, hs4, hy4, wf4⟩ := DataW.trod_int underlying3 t4
   obtain ⟨s5, hs5, hy5, wf5⟩ := DataW.trod_int underlying3 t5
   obtain ⟨s6, hs6, hy6, wf6⟩ := DataW.trod_string underlying9 t6
   obtain ⟨s7, hs7, hy7, wf7⟩ := DataW.trod_string underlying9 t7
   injection hs0 with hs0 _
   injection hs1 with hs1 _
   injection hs2 with hs2 _
   injection hs3 with hs3 _
   injection hs4 with hs4 _
   injection hs5 with hs5 _
   injection hs6 with hs6 _
   injection hs7 with hs7 _
   subst hs0 hs1 hs2 hs3 hs4 hs5 hs6 hs7
   have hmem : D i ∈ (List.range n).map D := List.mem_map.2 ⟨i, List.mem_range.2 hin, rfl⟩
   have hin2 : ∀ x, x ∈ (D i).weights prog 80 -> x <= reachBytes := λx hx => hw _ (List.mem_cons_of_mem _ (List.mem_append_left _ (weightsAll_mem hmem _ hx)))
   rw [hD] at hin2
   simp only [DataW.weights, underlying80] at hin2
   match ys, hyl, e0, e1, e2, e3, e4, e5, e6, e7 with
   | [u0, u1, u2, u3, u4, u5, u6, u7], _, e0, e1, e2, e3, e4, e5, e6, e7 =>
    have f6 : u6 = (DataW.lit (Lit.string s6.data.toList), []) := by rw [<- hy6]; simpa using e6
    have f7 : u7 = (DataW.lit (Lit.string s7.data.toList), []) := by rw [<- hy7]; simpa using e7
    rw [f6, f7] at hin2
    simp [DataW.weightsEach, DataW.weights] at hin2
    exact ⟨s0, s1, s2, s3, s4, s5, s6, s7, c0, c1, c2, c3, c4, c5, c6, c7, ⟨i64_ge wf1, i64_le wf1, i64_ge wf2, i64_le wf2, i64_le wf3, i64_le wf4, i64_le wf5, bounded (hin2 _ (by simp)), bounded (hin2 _ (by simp))⟩⟩
  have hopAt : ∀ i, i < n -> CmdOk (cmdAt w a i) /\ ∀ j v, (ccs (cmdAt w a i))[j]? = some v -> w.cell? (a.add (i * 8 + j)) = some v := by
   intro i hin
   obtain ⟨s0, s1, s2, s3, s4, s5, s6, s7, c0, c1, c2, c3, c4, c5, c6, c7, hok⟩ := hat i hin
   have e : cmdAt w a i = ⟨s0, s1, s2, s3, s4, s5, s6, s7⟩ := by unfold cmdAt; rw [c0, c1, c2, c3, c4, c5, c6, c7]; rfl
   rw [e]
   refine ⟨hok, λj v hv => ?_⟩
   match j, hv with
   | 0, hv => injection hv with hv; rw [<- hv]; exact c0
   | 1, hv => injection hv with hv; rw [<- hv]; exact c1
   | 2, hv => injection hv with hv; rw [<- hv]; exact c2
   | 3, hv => injection hv with hv; rw [<- hv]; exact c3
   | 4, hv => injection hv with hv; rw [<- hv]; exact c4
   | 5, hv => injection hv with hv; rw [<- hv]; exact c5
   | 6, hv => injection hv with hv; rw [<- hv]; exact c6
   | 7, hv => injection hv with hv; rw [<- hv]; exact c7
   | j + 8, hv => simp [ccs] at hv
  refine ⟨some a, n, c, (List.range n).map (cmdAt w a), rfl, ⟨by simp, λi hin => ?_, λo ho => ?_⟩, ?_⟩
  ·have hg : ((List.range n).map (cmdAt w a)).getD i cmd0 = cmdAt w a i := by simp [List.getD, hin]
   obtain ⟨b, off, spot⟩ := a
   obtain ⟨s0, _, _, _, _, _, _, _, h00, _⟩ := hat 0 (by omega)
   have hspot : spot = none := by simpa [Addr.add] using World.cell?_spot h00
   subst hspot
   refine ⟨b, off, rfl, λj v hv => ?_⟩
   rw [hg] at hv
   have := (hopAt i hin).2 j v hv
   rw [Go.WideShapes.add_plain] at this
   rw [Nat.add_assoc]; exact this
  ·obtain ⟨i, hi9, rfl⟩ := List.mem_map.1 ho
   exact (hopAt i (List.mem_range.1 hi9)).1
  ·have := hw _ List.mem_cons_self
   have hb : 1 <= prog.bytesOf 80 := by rw [show prog.bytesOf 80 = 80 by kernel_rfl]; decide
   have hr : reachBytes <= 140737488355328 := by decide
   simp only [List.length_map, List.length_range] at this
   have h2 : n + (m - n) <= (n + (m - n)) * prog.bytesOf 80 := Nat.le_mul_of_pos_right _ hb
   omega
end
def tbD : DataW Unit := .agg (tbl.map λr => .agg (r.map λb => .lit (.bool b)))
theorem map_at {α β γ : Type} {f : α -> γ} {g : β -> γ} {l : List α} {r : List β} (h : l.map f = r.map g) {i : Nat} {x : α} (hx : l[i]? = some x) : ∃ y, r[i]? = some y /\ f x = g y := by
 have h1 : (l.map f)[i]? = (r.map g)[i]? := by rw [h]
 rw [List.getElem?_map, List.getElem?_map, hx] at h1
 cases hr : r[i]? with
 | none => rw [hr] at h1; cases h1
 | some y => rw [hr] at h1; injection h1 with h1; exact ⟨y, rfl, h1⟩
theorem tn_of {n1 : String} {d : DataW Unit} {rest : List (String × DataW Unit)} {W : World} (h : laidMet prog ((n1, d) :: rest) W) (e : d = tbD) (hg : prog.globalNamed n1 = some 0) : Tn W := by
 subst e
 obtain ⟨ps, ⟨g', t', cs, fuel, p, q, hg', ht', hvar, hd, _, _⟩, _⟩ := h
 obtain rfl := Option.some.inj (hg.symm.trans hg')
 obtain rfl := Option.some.inj ((show (prog.globals[0]?).map (·.type) = some 252 by kernel_rfl).symm.trans ht')
 intro k i hk hi
 obtain ⟨xs, m, _, hx, hcl, hxl, hf⟩ := DataW.trod_array underlying252 hd
 have hx1 : tbl.map (λr => (DataW.agg (r.map λb => .lit (.bool b)) : DataW Unit)) = xs.map (·.1) := by
  have h1 := congrArg Prod.fst hx
  unfold tbD at h1
  injection h1
 have c5 : prog.cellsOf 251 = 5 := by kernel_rfl
 have c1 : prog.cellsOf 4 = 1 := by kernel_rfl
 obtain ⟨row, hrow⟩ : ∃ row, tbl[k]? = some row := ⟨_, List.getElem?_eq_getElem (show k < tbl.length from hk)⟩
 obtain ⟨y, hy, hyr⟩ := map_at hx1 hrow
 have hfk := hf k hk
 rw [hy, c5] at hfk
 obtain ⟨ys, m2, _, hx2, hcl2, hyl, hf2⟩ := DataW.trod_array underlying251 hfk
 have hx3 : row.map (λb => (DataW.lit (.bool b) : DataW Unit)) = ys.map (·.1) := by
  have h1 := congrArg Prod.fst hx2
  rw [<- hyr] at h1
  injection h1
 have hrl : row.length = 5 := by
  have := congrArg List.length hx3
  rw [List.length_map, List.length_map, hyl] at this
  exact this
 obtain ⟨b, hb⟩ : ∃ b, row[i]? = some b := ⟨_, List.getElem?_eq_getElem (by omega)⟩
 obtain ⟨z, hz, hzb⟩ := map_at hx3 hb
 have hfi := hf2 i hi
 rw [hz, c1, Nat.mul_one] at hfi
 obtain ⟨b2, hb2, hzz⟩ := DataW.trod_bool underlying4 hfi
 have hbb : b2 = b := by
  rw [hzz] at hzb
  injection hzb with h1
  injection h1 with h1
  exact h1.symm
 subst hbb
 have hcell := World.var?_cell hg hvar (k * 5 + i)
 rw [hcell]
 have h1 : ((List.take 5 (List.drop (k * 5) cs.toList)).drop i).take 1 = [Value.bool b2] := hb2
 have h2 : (((List.take 5 (List.drop (k * 5) cs.toList)).drop i).take 1)[0]? = some (Value.bool b2) := by rw [h1]; rfl
 rw [List.getElem?_take_of_lt (by decide), List.getElem?_drop, Nat.add_zero, List.getElem?_take_of_lt hi, List.getElem?_drop] at h2
 have h3 : tb k i = b2 := by unfold tb; rw [show tbl.getD k [] = row from by rw [List.getD, hrow]; rfl, List.getD, hb]; rfl
 rw [h3]
 simpa using h2
end Go.Proofs.YtgcgnolmdkkocaaGreatDoor
