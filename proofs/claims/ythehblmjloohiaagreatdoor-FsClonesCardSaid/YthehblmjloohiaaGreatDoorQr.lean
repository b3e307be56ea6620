/- Layer 11, a law walked. -/
import Derived.Test.YthehblmjloohiaaGreatDoorM39
namespace Go.Proofs.YthehblmjloohiaaGreatDoor
set_option maxRecDepth 100000
open Go.RowKit Go.Less Go.Maps
open T6
open T8 (pv Dg)
attribute [local go_sem 9000] sem_eql sem_neq
def clO (a b : ByteArray) (x y z : Int) : Fs.Op := ⟨10, a, b, x, y, z, ⟨#[]⟩⟩
def wrO (a : ByteArray) (x : Int) (d : ByteArray) : Fs.Op := ⟨8, a, ⟨#[]⟩, x, 0, 0, d⟩
theorem clones_plain {f g : Fs.FS} {a b : ByteArray} {x y z : Int} (h : Fs.act env f (clO a b x y z) = .ok g) : ∃ s : List UInt8, readR f.l b y z = (s, 0) ∧ (s.length : Int) = z ∧ Fs.act env f (wrO a x (lstr s)) = .ok g := by
 unfold Fs.act clO at h
 rw [if_neg (by show ¬ ((10 : Int) < 1 ∨ 11 < (10 : Int)); decide)] at h
 cases ha : spl a with
 | none => rw [show env.sp a = none from ha] at h; cases h
 | some na =>
  rw [show env.sp a = some na from ha] at h
  cases hb : spl b with
  | none => rw [show env.sp b = none from hb] at h; cases h
  | some nb =>
   rw [show env.sp b = some nb from hb] at h
   have h : Fs.edit f na (fun w => match Fs.file f.l nb with
    | .error e => .error e
    | .ok (_, v) => Fs.asked (env.copy w.data x v.data y z)) = .ok g := h
   unfold Fs.edit at h
   cases hfa : Fs.file f.l na with
   | error e => rw [hfa] at h; cases h
   | ok r =>
    obtain ⟨i, w⟩ := r
    rw [hfa] at h
    simp only at h
    rcases file_cases (l := f.l) hb with ⟨ec, _, hfb, _⟩ | ⟨k, hw, hfb, hfr, _, _⟩
    ·rw [hfb] at h; cases h
    ·rw [hfb] at h
     simp only at h
     have hcp : env.copy w.data x (Fs.nodeD f.l k).data y z = (lstr (copyR w.data.data.toList x (Fs.nodeD f.l k).data.data.toList y z).1, (copyR w.data.data.toList x (Fs.nodeD f.l k).data.data.toList y z).2) := rfl
     rw [hcp] at h
     unfold copyR at h
     by_cases hc : y < 0 ∨ z < 0 ∨ (((Fs.nodeD f.l k).data.data.toList.length : Nat) : Int) < y + z
     ·rw [if_pos hc] at h
      unfold Fs.asked at h
      rw [if_pos (by simp)] at h
      cases h
     ·rw [if_neg hc] at h
      refine ⟨((Fs.nodeD f.l k).data.data.toList.drop y.toNat).take z.toNat, ?_, ?_, ?_⟩
      ·unfold readR
       rw [hfr, if_neg (by simp)]
       show getR (Fs.nodeD f.l k).data.data.toList y z = _
       unfold getR
       rw [if_neg (by omega), Chk.get_take]
      ·rw [List.length_take, List.length_drop]
       omega
      ·unfold Fs.act wrO
       rw [if_neg (by show ¬ ((8 : Int) < 1 ∨ 11 < (8 : Int)); decide), show env.sp a = some na from ha]
       show Fs.edit f na (fun w => Fs.asked (env.put w.data x (lstr (((Fs.nodeD f.l k).data.data.toList.drop y.toNat).take z.toNat)))) = _
       unfold Fs.edit
       rw [hfa]
       exact h
theorem doE_of {f g : Fs.FS} {o : Fs.Op} (h : Fs.act env f o = .ok g) : Fs.doE env f o = (g, 0) := by unfold Fs.doE; rw [h]
theorem get_few {f : Fs.FS} (G : Fs.Half env f) (b : ByteArray) (y z : Int) : (readR f.l b y z).1.length ≤ 4096 := by
 unfold readR
 split
 ·exact Nat.zero_le _
 ·rename_i h1
  unfold getR
  split
  ·exact Nat.zero_le _
  ·rw [Chk.get_take, List.length_take, List.length_drop]
   have hd : (fileR f.l b).2.1.data.size ≤ 4096 := by
    unfold fileR
    split
    ·rename_i h1
     rcases find_cases2 f.l b with ⟨e, hne, hf⟩ | ⟨ns, j, hs, hw, hf⟩
     ·rw [hf]; exact Nat.zero_le _
     ·rw [hf] at h1; exact absurd rfl h1
    ·split
     ·decide
     ·split
      ·decide
      ·rcases find_cases2 f.l b with ⟨e, hne, hf⟩ | ⟨ns, j, hs, hw, hf⟩
       ·rw [hf]; exact Nat.zero_le _
       ·rw [hf]
        obtain ⟨y, hy, hyD⟩ := G.walk_node hw
        show (Fs.nodeD f.l j).data.size ≤ 4096
        rw [hyD]
        exact data_size (G.right hy)
   have e : (fileR f.l b).2.1.data.data.toList.length = (fileR f.l b).2.1.data.size := Array.length_toList
   omega
set_option maxHeartbeats 16000000 in
theorem fsClones_any (a : Option Addr) (n cap : Nat) (l : List Fs.Op) (A B : ByteArray) (x y z : Int) (w : World) (hS : Opr a n l w) (hn : n ≤ 140737488355328) (pa : A.size ≤ 140737488355328) (pb : B.size ≤ 140737488355328) (hx : x ≤ 9223372036854775807) (hy : y ≤ 9223372036854775807) (hz : z ≤ 9223372036854775807) (hD : Dg w) :
  Calls Tryz.prog 8 #[.slice a n cap, .string A, .string B, .int .i64 x, .int .i64 y, .int .i64 z] w fun e w' => e = .returned (.bool true) ∧ Below w.heap.size w w' := by
 have HAw := Lib.hid (awake_any w hD)
 have HSr := Lib.hid (fun W (hb : Below w.heap.size w W) => hS.below hb)
 have HDg := Lib.hid (fun W (hb : Below w.heap.size w W) => hD.below hb)
 have HN := Lib.hid hS.count
 have HFw := Lib.hid (fun W (hb : Below w.heap.size w W) => few_any a n cap l W (hS.below hb) hn)
 have hpa : (A.size : Int) ≤ 140737488355328 := by omega
 have hpb : (B.size : Int) ≤ 140737488355328 := by omega
 clear hS hD
 cases hfew : few11 l with
 | false =>
  rw [hfew] at HFw
  go_enter Tryz.func8, Tryz.ntmps8
  go_wp2_with fail
  refine HAw.out.mono ?_
  rintro e w1 ⟨rfl, hb⟩
  have HB := Lib.hid hb
  clear hb
  dsimp only
  go_wp2_with fail
  refine (HFw.out w1 HB.out).mono ?_
  rintro e w2 ⟨rfl, hb⟩
  have HB := Lib.hid (HB.out.trans (hb.mono HB.out.size))
  clear hb
  dsimp only
  go_wp2_with fail
  go_ret
  exact ⟨rfl, HB.out⟩
 | true =>
  rw [hfew] at HFw
  by_cases hA : 300 < A.size
  ·have hAi : (300 : Int) < (A.size : Int) := by omega
   go_enter Tryz.func8, Tryz.ntmps8
   go_wp2_with fail
   refine HAw.out.mono ?_
   rintro e w1 ⟨rfl, hb⟩
   have HB := Lib.hid hb
   clear hb
   dsimp only
   go_wp2_with fail
   refine (HFw.out w1 HB.out).mono ?_
   rintro e w2 ⟨rfl, hb⟩
   have HB := Lib.hid (HB.out.trans (hb.mono HB.out.size))
   clear hb
   dsimp only
   go_wp2_with fail
   go_ret
   exact ⟨rfl, HB.out⟩
  have hAi : ¬ (300 : Int) < (A.size : Int) := by omega
  by_cases hB : 300 < B.size
  ·have hBi : (300 : Int) < (B.size : Int) := by omega
   go_enter Tryz.func8, Tryz.ntmps8
   go_wp2_with fail
   refine HAw.out.mono ?_
   rintro e w1 ⟨rfl, hb⟩
   have HB := Lib.hid hb
   clear hb
   dsimp only
   go_wp2_with fail
   refine (HFw.out w1 HB.out).mono ?_
   rintro e w2 ⟨rfl, hb⟩
   have HB := Lib.hid (HB.out.trans (hb.mono HB.out.size))
   clear hb
   dsimp only
   go_wp2_with fail
   go_ret
   exact ⟨rfl, HB.out⟩
  have hBi : ¬ (300 : Int) < (B.size : Int) := by omega
  have hln := few_len hfew
  have hn2 : n ≤ 120 := by rw [HN.out]; exact hln
  obtain ⟨G, hnx⟩ := done_all (l := l) (by omega)
  have HDn := Lib.hid (fun W (hb : Below w.heap.size w W) => done_any a n cap l W (HSr.out W hb) (by omega) (HDg.out W hb))
  generalize doneF Fs.new l = f at *
  have HMp := Lib.hid (fun g f W (h : Fo W g f) => qMap_any h)
  have HNm := Lib.hid (fun m f W (h : Sv W m f) => qName_any h)
  have HCp := Lib.hid (fun g W (h : Fo W g f) => qCopy_any h)
  have hok : OpOk (clO A B x y z) := ⟨by show (ik 10).wf = true; decide, pa, pb, Nat.zero_le _, hx, hy, hz⟩
  have HDc := Lib.hid (fun g W (h : Fo W g f) => qDo_any h G (by omega) hok)
  clear hfew HSr HDg HN hn hn2 hln hok
  unfold Didf at HDc
  rcases doE_cases f (clO A B x y z) with ⟨c, hc, hd⟩ | ⟨f2, hc, hd⟩
  ·rw [hd] at HDc
   have HC := Lib.hid hc
   clear hc hd
   unfold clO at HDc
   go_enter Tryz.func8, Tryz.ntmps8
   go_wp2_with fail
   refine HAw.out.mono ?_
   rintro e w1 ⟨rfl, hb⟩
   have HB := Lib.hid hb
   clear hb
   dsimp only
   go_wp2_with fail
   refine (HFw.out w1 HB.out).mono ?_
   rintro e w2 ⟨rfl, hb⟩
   have HB := Lib.hid (HB.out.trans (hb.mono HB.out.size))
   clear hb
   dsimp only
   go_wp2_with fail
   refine (HDn.out w2 HB.out).mono ?_
   rintro e w3 ⟨g, rfl, hF, hg, hb⟩
   have HG1 := Lib.hid (Nat.le_trans HB.out.size hg)
   have HB := Lib.hid (HB.out.trans (hb.mono HB.out.size))
   have HF1 := Lib.hid hF
   clear hF hg hb
   dsimp only
   go_wp2_with fail
   refine (HCp.out g w3 HF1.out).mono ?_
   rintro e w4 ⟨g2, rfl, hF, hg, hb⟩
   have HG2 := Lib.hid (Nat.le_trans HB.out.size hg)
   have HNE := Lib.hid (show g2 ≠ g from fun e => by have := HF1.out.lt; omega)
   have HB := Lib.hid (HB.out.trans (hb.mono HB.out.size))
   have HF1 := Lib.hid (HF1.out.below hb)
   have HF2 := Lib.hid hF
   clear hF hg hb
   dsimp only
   go_wp2_with fail
   refine (HDc.out g _ HF1.out).mono ?_
   rintro e w5 ⟨rfl, hF, hT, hnz⟩
   have hc0 := hnz c HC.out
   have HB := Lib.hid (turn_below HB.out hT HG1.out)
   have HF2 := Lib.hid (Fo.turn hT HF1.out HF2.out HNE.out)
   have HF1 := Lib.hid hF
   clear hF hT hnz
   dsimp only
   go_wp2_with fail
   refine (HMp.out g f _ HF1.out).mono ?_
   rintro e w20 ⟨m, rfl, hSv, rfl⟩
   have HSv := Lib.hid hSv
   clear hSv
   dsimp only
   go_wp2_with fail
   refine (HNm.out m f.l _ HSv.out).mono ?_
   rintro e w21 ⟨rfl, hb⟩
   have HB := Lib.hid (HB.out.trans (hb.mono HB.out.size))
   have HF1 := Lib.hid (HF1.out.below hb)
   have HF2 := Lib.hid (HF2.out.below hb)
   clear hb HSv
   dsimp only
   go_wp2_with fail
   refine (HMp.out g2 f _ HF2.out).mono ?_
   rintro e w22 ⟨m, rfl, hSv, rfl⟩
   have HSv := Lib.hid hSv
   clear hSv
   dsimp only
   go_wp2_with fail
   refine (HNm.out m f.l _ HSv.out).mono ?_
   rintro e w23 ⟨rfl, hb⟩
   have HB := Lib.hid (HB.out.trans (hb.mono HB.out.size))
   have HF1 := Lib.hid (HF1.out.below hb)
   have HF2 := Lib.hid (HF2.out.below hb)
   clear hb HSv
   dsimp only
   go_wp2_with fail
   go_ret
   exact ⟨by simp [alike_eq], HB.out⟩
  ·rw [hd] at HDc
   obtain ⟨s, hr, hsl, ha8⟩ := clones_plain hc
   have hfew2 := get_few G.toHalf B y z
   rw [hr] at hfew2
   have HRd := Lib.hid (fun g W (h : Fo W g f) => (show Calls Tryz.prog 21 #[ptg g, .string B, .int .i64 y, .int .i64 z] W (Both (s, 0) W) from hr ▸ qRead_any h G.toHalf B y z pb hy hz))
   have HDw := Lib.hid (fun g W (h : Fo W g f) => did h G (by omega) (o := wrO A x (lstr s)) ⟨by show (ik 8).wf = true; decide, pa, Nat.zero_le _, by show (lstr s).size ≤ _; rw [lstr_size]; exact Nat.le_trans hfew2 (by decide), hx, by show (0 : Int) ≤ _; decide, by show (0 : Int) ≤ _; decide⟩ (doE_of ha8))
   have HDw := Lib.hid (show ∀ g W, Fo W g f → Calls Tryz.prog 15 #[ptg g, .agg #[.int .i64 8, .string A, .string ⟨#[]⟩, .int .i64 x, .int .i64 0, .int .i64 0, .string (lstr s)]] W (fun e w' => e = .returned (.int .i64 0) ∧ Fo w' g f2 ∧ Turn g W w') from HDw.out)
   have hls : ((lstr s).size : Int) = z := by rw [lstr_size]; exact hsl
   have HRd := Lib.hid (show ∀ g W, Fo W g f → Calls Tryz.prog 21 #[ptg g, .string B, .int .i64 y, .int .i64 z] W (fun e w' => e = .returned (.tuple #[.string (lstr s), .int .i64 0]) ∧ Below W.heap.size W w') from HRd.out)
   generalize lstr s = S at *
   clear hc hd ha8 hr hfew2 hsl
   subst hls
   unfold clO at HDc
   go_enter Tryz.func8, Tryz.ntmps8
   go_wp2_with fail
   refine HAw.out.mono ?_
   rintro e w1 ⟨rfl, hb⟩
   have HB := Lib.hid hb
   clear hb
   dsimp only
   go_wp2_with fail
   refine (HFw.out w1 HB.out).mono ?_
   rintro e w2 ⟨rfl, hb⟩
   have HB := Lib.hid (HB.out.trans (hb.mono HB.out.size))
   clear hb
   dsimp only
   go_wp2_with fail
   refine (HDn.out w2 HB.out).mono ?_
   rintro e w3 ⟨g, rfl, hF, hg, hb⟩
   have HG1 := Lib.hid (Nat.le_trans HB.out.size hg)
   have HB := Lib.hid (HB.out.trans (hb.mono HB.out.size))
   have HF1 := Lib.hid hF
   clear hF hg hb
   dsimp only
   go_wp2_with fail
   refine (HCp.out g w3 HF1.out).mono ?_
   rintro e w4 ⟨g2, rfl, hF, hg, hb⟩
   have HG2 := Lib.hid (Nat.le_trans HB.out.size hg)
   have HNE := Lib.hid (show g2 ≠ g from fun e => by have := HF1.out.lt; omega)
   have HB := Lib.hid (HB.out.trans (hb.mono HB.out.size))
   have HF1 := Lib.hid (HF1.out.below hb)
   have HF2 := Lib.hid hF
   clear hF hg hb
   dsimp only
   go_wp2_with fail
   refine (HDc.out g _ HF1.out).mono ?_
   rintro e w5 ⟨rfl, hF, hT, -⟩
   have HB := Lib.hid (turn_below HB.out hT HG1.out)
   have HF2 := Lib.hid (Fo.turn hT HF1.out HF2.out HNE.out)
   have HF1 := Lib.hid hF
   clear hF hT
   dsimp only
   go_wp2_with fail
   refine (HRd.out g2 _ HF2.out).mono ?_
   rintro e w6 ⟨rfl, hb⟩
   have HB := Lib.hid (HB.out.trans (hb.mono HB.out.size))
   have HF1 := Lib.hid (HF1.out.below hb)
   have HF2 := Lib.hid (HF2.out.below hb)
   clear hb
   dsimp only
   go_wp2_with fail
   refine (HDw.out g2 _ HF2.out).mono ?_
   rintro e w7 ⟨rfl, hF, hT⟩
   have HB := Lib.hid (turn_below HB.out hT HG2.out)
   have HF1 := Lib.hid (Fo.turn hT HF2.out HF1.out (Ne.symm HNE.out))
   have HF2 := Lib.hid hF
   clear hF hT
   dsimp only
   go_wp2_with fail
   refine (HMp.out g2 f2 _ HF2.out).mono ?_
   rintro e w20 ⟨m, rfl, hSv, rfl⟩
   have HSv := Lib.hid hSv
   clear hSv
   dsimp only
   go_wp2_with fail
   refine (HNm.out m f2.l _ HSv.out).mono ?_
   rintro e w21 ⟨rfl, hb⟩
   have HB := Lib.hid (HB.out.trans (hb.mono HB.out.size))
   have HF1 := Lib.hid (HF1.out.below hb)
   have HF2 := Lib.hid (HF2.out.below hb)
   clear hb HSv
   dsimp only
   go_wp2_with fail
   refine (HMp.out g f2 _ HF1.out).mono ?_
   rintro e w22 ⟨m, rfl, hSv, rfl⟩
   have HSv := Lib.hid hSv
   clear hSv
   dsimp only
   go_wp2_with fail
   refine (HNm.out m f2.l _ HSv.out).mono ?_
   rintro e w23 ⟨rfl, hb⟩
   have HB := Lib.hid (HB.out.trans (hb.mono HB.out.size))
   have HF1 := Lib.hid (HF1.out.below hb)
   have HF2 := Lib.hid (HF2.out.below hb)
   clear hb HSv
   dsimp only
   go_wp2_with fail
   go_ret
   exact ⟨by simp [alike_eq], HB.out⟩
end Go.Proofs.YthehblmjloohiaaGreatDoor
