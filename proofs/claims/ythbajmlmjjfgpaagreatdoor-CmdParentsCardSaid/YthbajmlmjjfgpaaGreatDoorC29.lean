/- A part of the proofs. -/
import Derived.Test.YthbajmlmjjfgpaaGreatDoorC28
set_option maxRecDepth 1000000
set_option maxHeartbeats 16000000
open Go.Lib (hid)
open Go.Proofs.Tryz
namespace Go.Proofs.YthbajmlmjjfgpaaGreatDoor
open T6
open Go.RowKit Go.Less
open T8 (pv Dg)
attribute [local go_sem 9000] sem_eql sem_neq
theorem cloned_any (g p : Nat) (v : Value) (f : Fs.FS) (q : Fs.Cmd) (hq : CmdOk q) (s : ByteArray) (hs : s.size <= 4096) (w : World) (hg : w.heap[g]? = some (.cells #[ptg p, v] 117 (0, 0))) (hF : Fo w p f) (hok : Okc f.l) :
  Calls prog 74 #[ptg g, .string s, .agg (ccs q)] w λe w' => e = .returned (.tuple #[.string (Fs.cloneR env f.l q s).1, .int .i64 (Fs.cloneR env f.l q s).2]) /\ Below w.heap.size w w' := by
 have HB := hid (show Bxs w [(w.heap.size, ccs q, 23)] (w.alloc (.cells (ccs q) 23)) from Bxs.one w _ _)
 have HN := hid (λW (hb : Below w.heap.size w W) => qNode_any (hF.below hb) q.src)
 have HG := hid (λW (hb : Below w.heap.size w W) => cell_obj ((hb.block _ (lt_of_obj hg)).trans hg) 0)
 unfold Node11 Fs.nodeD at HN
 obtain ⟨x, hx, hk⟩ : ∃ x, (Fs.node f.l q.src).getD Nd.none0 = x /\ x.data.size <= 4096 := by
  refine ⟨_, rfl, ?_⟩
  cases hn : Fs.node f.l q.src with
  | none => exact Nat.zero_le _
  | some y => exact data_size (hok.node hn).1
 rw [hx] at HN
 obtain ⟨k, mo, d, t, es⟩ := x
 have HP := hid (λW => copy_any s q.off d q.from_ q.n W (Nat.le_trans hs (by decide)) (Nat.le_trans hk (by decide)) hq.off hq.from_ hq.n)
 have HFe := hid (λW (a : Option Addr) (c : Nat) => fileError_any k mo d t a es.length c es W)
 obtain ⟨th, hth⟩ : ∃ th, (Fs.node f.l q.src).isSome = th := ⟨_, rfl⟩
 rw [hth] at HN
 have HR := hid (show Fs.cloneR env f.l q s = if th = false then (⟨#[]⟩, 4) else if Fs.fileE ⟨k, mo, d, t, es⟩ ≠ 0 then (⟨#[]⟩, Fs.fileE ⟨k, mo, d, t, es⟩) else env.copy s q.off d q.from_ q.n from by
   unfold Fs.cloneR
   rw [<- hth]
   cases hn : Fs.node f.l q.src with
   | none => rfl
   | some y => rw [hn] at hx; have hx : y = _ := hx; subst hx; rfl)
 rw [HR.out]
 clear HR hx hth hg hF hok hk hq hs
 have hR : ∃ R, (if th = false then ((⟨#[]⟩ : ByteArray), (4 : Int)) else if Fs.fileE ⟨k, mo, d, t, es⟩ ≠ 0 then (⟨#[]⟩, Fs.fileE ⟨k, mo, d, t, es⟩) else env.copy s q.off d q.from_ q.n) = R := ⟨_, rfl⟩
 obtain ⟨R, hR⟩ := hR
 rw [hR]
 have HR := hid hR
 clear hR
 generalize Fs.fileE ⟨k, mo, d, t, es⟩ = fe at *
 go_enter func74, ntmps74
 go_wp2_with fail
 generalize w.alloc (.cells #[.int .i64 q.kind, .int .i64 q.ino, .int .i64 q.src, .int .i64 q.off, .int .i64 q.from_, .int .i64 q.n, .string q.name, .string q.data] 23) = W0 at HB |-
 have HZ := hid (HB.out.more zcs 67 rfl)
 have g0 := HG.out W0 HB.out.below
 have g1 := HG.out _ HZ.out.below
 have c2 : W0.cell? ⟨w.heap.size, 2, none⟩ = some (.int .i64 q.src) := HB.out.cell 0 rfl 2
 have c2z : (W0.alloc (.cells #[.int .i64 0, .int .i64 0, .string ⟨#[]⟩, .string ⟨#[]⟩, .slice none 0 0] 67)).cell? ⟨w.heap.size, 2, none⟩ = some (.int .i64 q.src) := HZ.out.cell 0 rfl 2
 go_wp2_with fail
 go_region_law (first
  | (go_simp; (with_reducible refine (HN.out _ (HB.out.below.trans ((Below.refl W0.heap.size W0).drew.mono HB.out.below.size))).mono ?_); rintro e wA ⟨a, c, rfl, -, hA⟩; have HbA := hid (HB.out.kept (below_drew hA)); clear hA)
  | (go_simp; (with_reducible refine (HN.out _ (HZ.out.below.trans ((Below.refl _ (W0.alloc _)).drew.mono HZ.out.below.size))).mono ?_); rintro e wA ⟨a, c, rfl, -, hA⟩; have HbZ := hid (HZ.out.kept (below_drew hA)); have hz := HbZ.out.obj 1 rfl; have z0 := cell_obj hz 0; have z1 := cell_obj hz 1; have z2 := cell_obj hz 2; have z3 := cell_obj hz 3; have z4 := cell_obj hz 4; have f0 := free_obj hz 0; have f1 := free_obj hz 1; have f2 := free_obj hz 2; have f3 := free_obj hz 3; have f4 := free_obj hz 4; clear hz hA))
 all_goals
  first
   |have HF := hid (show Bxs w [(w.heap.size, ccs q, 23), (W0.heap.size, #[.int .i64 k, .int .i64 mo, .string d, .string t, .slice a es.length c], 67)] (((((wA.setCell ⟨W0.heap.size, 0, none⟩ (.int .i64 k)).setCell ⟨W0.heap.size, 1, none⟩ (.int .i64 mo)).setCell ⟨W0.heap.size, 2, none⟩ (.string d)).setCell ⟨W0.heap.size, 3, none⟩ (.string t)).setCell ⟨W0.heap.size, 4, none⟩ (.slice a es.length c)) from HbZ.out.put5 1 rfl (.int .i64 k) (.int .i64 mo) (.string d) (.string t) (.slice a es.length c))
    generalize ((((wA.setCell ⟨W0.heap.size, 0, none⟩ (.int .i64 k)).setCell ⟨W0.heap.size, 1, none⟩ (.int .i64 mo)).setCell ⟨W0.heap.size, 2, none⟩ (.string d)).setCell ⟨W0.heap.size, 3, none⟩ (.string t)).setCell ⟨W0.heap.size, 4, none⟩ (.slice a es.length c) = W9 at HF |-
    generalize W0.heap.size = p9 at HF |-
    clear z0 z1 z2 z3 z4 f0 f1 f2 f3 f4 HbZ
   |have HF := hid (show Bxs w [(w.heap.size, ccs q, 23), (wA.heap.size, #[.int .i64 k, .int .i64 mo, .string d, .string t, .slice a es.length c], 67)] (wA.alloc (.cells #[.int .i64 k, .int .i64 mo, .string d, .string t, .slice a es.length c] 67)) from HbA.out.more _ 67 rfl)
    generalize wA.alloc (.cells #[.int .i64 k, .int .i64 mo, .string d, .string t, .slice a es.length c] 67) = W9 at HF |-
    generalize wA.heap.size = p9 at HF |-
    clear HbA
  clear g0 g1 c2 c2z
  have hn := HF.out.c5 1 rfl
  cases th with
  | false =>
   have hR : ((⟨#[]⟩ : ByteArray), (4 : Int)) = R := HR.out
   subst hR
   go_wp2_with fail
   go_ret2
   exact ⟨rfl, HF.out.below⟩
  | true =>
   by_cases h0 : fe = 0
   ·subst h0
    have hR := HR.out
    rw [if_neg (by simp), if_neg (by simp)] at hR
    subst hR
    go_wp2_with fail
    refine (HFe.out W9 a c).mono ?_
    rintro e w5 ⟨rfl, hb5⟩
    have HF := hid (HF.out.kept hb5)
    clear hb5 hn
    have hn := HF.out.c5 1 rfl
    have q3 : w5.cell? ⟨w.heap.size, 3, none⟩ = some (.int .i64 q.off) := HF.out.cell 0 rfl 3
    have q4 : w5.cell? ⟨w.heap.size, 4, none⟩ = some (.int .i64 q.from_) := HF.out.cell 0 rfl 4
    have q5 : w5.cell? ⟨w.heap.size, 5, none⟩ = some (.int .i64 q.n) := HF.out.cell 0 rfl 5
    dsimp only
    go_wp2_with fail
    refine (HP.out _).mono ?_
    rintro e w6 ⟨rfl, hb6⟩
    have HB6 := hid (HF.out.below.trans (hb6.mono HF.out.below.size))
    clear hb6 q3 q4 q5 hn
    dsimp only
    go_wp2_with fail
    go_ret2
    exact ⟨rfl, HB6.out⟩
   ·have hR := HR.out
    rw [if_neg (by simp), if_pos h0] at hR
    subst hR
    go_wp2_with fail
    refine (HFe.out W9 a c).mono ?_
    rintro e w5 ⟨rfl, hb5⟩
    have HF := hid (HF.out.kept hb5)
    clear hb5 hn
    dsimp only
    go_wp2_with fail
    go_ret2
    exact ⟨rfl, HF.out.below⟩
theorem cClone_any (sb b g p : Nat) (v : Value) (f : Fs.FS) (q : Fs.Cmd) (hq : CmdOk q) (s : ByteArray) (hs : s.size <= 4096) (w : World) (hsb : w.heap[sb]? = some (.cells #[ptg g] 47 (0, 0))) (hb : w.heap[b]? = some (.cells (ccs q) 23 (0, 0))) (hg : w.heap[g]? = some (.cells #[ptg p, v] 117 (0, 0))) (hF : Fo w p f) (hok : Okc f.l) :
  Calls prog 73 #[.string s, .pointer (some ⟨sb, 0, none⟩), .pointer (some ⟨b, 0, none⟩)] w λe w' => e = .returned (.tuple #[.string (Fs.cloneR env f.l q s).1, .int .i64 (Fs.cloneR env f.l q s).2]) /\ Below w.heap.size w w' := by
 have HC := hid (cloned_any g p v f q hq s hs w hg hF hok)
 have s0 : w.cell? ⟨sb, 0, none⟩ = some (ptg g) := cell_obj hsb 0
 have q0 : w.cell? ⟨b, 0, none⟩ = some (.int .i64 q.kind) := cell_obj hb 0
 have q1 : w.cell? ⟨b, 1, none⟩ = some (.int .i64 q.ino) := cell_obj hb 1
 have q2 : w.cell? ⟨b, 2, none⟩ = some (.int .i64 q.src) := cell_obj hb 2
 have q3 : w.cell? ⟨b, 3, none⟩ = some (.int .i64 q.off) := cell_obj hb 3
 have q4 : w.cell? ⟨b, 4, none⟩ = some (.int .i64 q.from_) := cell_obj hb 4
 have q5 : w.cell? ⟨b, 5, none⟩ = some (.int .i64 q.n) := cell_obj hb 5
 have q6 : w.cell? ⟨b, 6, none⟩ = some (.string q.name) := cell_obj hb 6
 have q7 : w.cell? ⟨b, 7, none⟩ = some (.string q.data) := cell_obj hb 7
 clear hsb hb hg hF hok
 go_enter func73, ntmps73
 go_wp2_with fail
 refine HC.out.mono ?_
 rintro e w1 ⟨rfl, hb1⟩
 dsimp only
 go_wp2_with fail
 go_ret2
 exact ⟨rfl, hb1⟩
end Go.Proofs.YthbajmlmjjfgpaaGreatDoor
namespace Go.Proofs.YthbajmlmjjfgpaaGreatDoor
open T6
open Go.RowKit Go.Less
open T8 (pv Rp Dg)
attribute [local go_sem 9000] sem_eql sem_neq
section
variable {g p : Nat} {m : Option Nat} {l : List Fs.Item} {f : Fs.FS} {w : World}
theorem sDo1_any (ino src off fr n : Int) (nm da : ByteArray) (_hq : CmdOk (⟨1, ino, src, off, fr, n, nm, da⟩ : Fs.Cmd)) (hg : w.heap[g]? = some (.cells #[ptg p, pv m] 117 (0, 0))) (h : Sv w m l) (hF : Fo w p f) (_hp : Okc f.l) (hc : Okc l) :
  Calls prog 24 #[ptg g, .agg #[.int .i64 1, .int .i64 ino, .int .i64 src, .int .i64 off, .int .i64 fr, .int .i64 n, .string nm, .string da]] w (StD (Fs.doC env f.l l (⟨1, ino, src, off, fr, n, nm, da⟩ : Fs.Cmd)) g p w) := by
 have HB := hid (show Bxs w [(w.heap.size, #[ptg g], 47), (w.heap.size + 1, #[.int .i64 1, .int .i64 ino, .int .i64 src, .int .i64 off, .int .i64 fr, .int .i64 n, .string nm, .string da], 23)] ((w.alloc (.cells #[ptg g] 47)).alloc (.cells #[.int .i64 1, .int .i64 ino, .int .i64 src, .int .i64 off, .int .i64 fr, .int .i64 n, .string nm, .string da] 23)) from Bxs.two w _ _ _ _)
 have hf : l.length <= 900 := Nat.le_trans hc.most (by decide)
 have hgW := (HB.out.below.block _ (lt_of_obj hg)).trans hg
 have hSW := h.below HB.out.below
 have hFW := hF.below HB.out.below
 have hsb := HB.out.obj 0 rfl
 have hcb := HB.out.obj 1 rfl
 have HA := hid (show Calls prog 62 _ ((w.alloc (.cells #[ptg g] 47)).alloc (.cells #[.int .i64 1, .int .i64 ino, .int .i64 src, .int .i64 off, .int .i64 fr, .int .i64 n, .string nm, .string da] 23)) (StD (Fs.createC env l ino ⟨1, n, ⟨#[]⟩, ⟨#[]⟩, []⟩) g p ((w.alloc (.cells #[ptg g] 47)).alloc (.cells #[.int .i64 1, .int .i64 ino, .int .i64 src, .int .i64 off, .int .i64 fr, .int .i64 n, .string nm, .string da] 23))) from sCreate_any g p m l ino 1 n ⟨#[]⟩ ((w.alloc (.cells #[ptg g] 47)).alloc (.cells #[.int .i64 1, .int .i64 ino, .int .i64 src, .int .i64 off, .int .i64 fr, .int .i64 n, .string nm, .string da] 23)) hgW hSW hf)
 clear hgW hSW hFW hsb hcb hg h hF _hp hc hf _hq
 show Calls prog 24 _ w (StD (Fs.createC env l ino ⟨1, n, ⟨#[]⟩, ⟨#[]⟩, []⟩) g p w)
 obtain ⟨R, hR⟩ : ∃ R, Fs.createC env l ino ⟨1, n, ⟨#[]⟩, ⟨#[]⟩, []⟩ = R := ⟨_, rfl⟩
 rw [hR] at HA |-
 clear hR
 go_enter func24, ntmps24
 go_wp2_with fail
 refine HA.out.mono ?_
 rintro e w2 ⟨rfl, hP⟩
 have HPx := hid (hP.from HB.out.below)
 clear hP
 dsimp only
 go_wp2_with fail
 go_ret
 exact ⟨rfl, HPx.out⟩
theorem sDo2_any (ino src off fr n : Int) (nm da : ByteArray) (_hq : CmdOk (⟨2, ino, src, off, fr, n, nm, da⟩ : Fs.Cmd)) (hg : w.heap[g]? = some (.cells #[ptg p, pv m] 117 (0, 0))) (h : Sv w m l) (hF : Fo w p f) (_hp : Okc f.l) (hc : Okc l) :
  Calls prog 24 #[ptg g, .agg #[.int .i64 2, .int .i64 ino, .int .i64 src, .int .i64 off, .int .i64 fr, .int .i64 n, .string nm, .string da]] w (StD (Fs.doC env f.l l (⟨2, ino, src, off, fr, n, nm, da⟩ : Fs.Cmd)) g p w) := by
 have HB := hid (show Bxs w [(w.heap.size, #[ptg g], 47), (w.heap.size + 1, #[.int .i64 2, .int .i64 ino, .int .i64 src, .int .i64 off, .int .i64 fr, .int .i64 n, .string nm, .string da], 23)] ((w.alloc (.cells #[ptg g] 47)).alloc (.cells #[.int .i64 2, .int .i64 ino, .int .i64 src, .int .i64 off, .int .i64 fr, .int .i64 n, .string nm, .string da] 23)) from Bxs.two w _ _ _ _)
 have hf : l.length <= 900 := Nat.le_trans hc.most (by decide)
 have hgW := (HB.out.below.block _ (lt_of_obj hg)).trans hg
 have hSW := h.below HB.out.below
 have hFW := hF.below HB.out.below
 have hsb := HB.out.obj 0 rfl
 have hcb := HB.out.obj 1 rfl
 have HA := hid (show Calls prog 62 _ ((w.alloc (.cells #[ptg g] 47)).alloc (.cells #[.int .i64 2, .int .i64 ino, .int .i64 src, .int .i64 off, .int .i64 fr, .int .i64 n, .string nm, .string da] 23)) (StD (Fs.createC env l ino ⟨2, n, ⟨#[]⟩, ⟨#[]⟩, []⟩) g p ((w.alloc (.cells #[ptg g] 47)).alloc (.cells #[.int .i64 2, .int .i64 ino, .int .i64 src, .int .i64 off, .int .i64 fr, .int .i64 n, .string nm, .string da] 23))) from sCreate_any g p m l ino 2 n ⟨#[]⟩ ((w.alloc (.cells #[ptg g] 47)).alloc (.cells #[.int .i64 2, .int .i64 ino, .int .i64 src, .int .i64 off, .int .i64 fr, .int .i64 n, .string nm, .string da] 23)) hgW hSW hf)
 clear hgW hSW hFW hsb hcb hg h hF _hp hc hf _hq
 show Calls prog 24 _ w (StD (Fs.createC env l ino ⟨2, n, ⟨#[]⟩, ⟨#[]⟩, []⟩) g p w)
 obtain ⟨R, hR⟩ : ∃ R, Fs.createC env l ino ⟨2, n, ⟨#[]⟩, ⟨#[]⟩, []⟩ = R := ⟨_, rfl⟩
 rw [hR] at HA |-
 clear hR
 go_enter func24, ntmps24
 go_wp2_with fail
 refine HA.out.mono ?_
 rintro e w2 ⟨rfl, hP⟩
 have HPx := hid (hP.from HB.out.below)
 clear hP
 dsimp only
 go_wp2_with fail
 go_ret
 exact ⟨rfl, HPx.out⟩
theorem sDo3_any (ino src off fr n : Int) (nm da : ByteArray) (_hq : CmdOk (⟨3, ino, src, off, fr, n, nm, da⟩ : Fs.Cmd)) (hg : w.heap[g]? = some (.cells #[ptg p, pv m] 117 (0, 0))) (h : Sv w m l) (hF : Fo w p f) (_hp : Okc f.l) (hc : Okc l) :
  Calls prog 24 #[ptg g, .agg #[.int .i64 3, .int .i64 ino, .int .i64 src, .int .i64 off, .int .i64 fr, .int .i64 n, .string nm, .string da]] w (StD (Fs.doC env f.l l (⟨3, ino, src, off, fr, n, nm, da⟩ : Fs.Cmd)) g p w) := by
 have HB := hid (show Bxs w [(w.heap.size, #[ptg g], 47), (w.heap.size + 1, #[.int .i64 3, .int .i64 ino, .int .i64 src, .int .i64 off, .int .i64 fr, .int .i64 n, .string nm, .string da], 23)] ((w.alloc (.cells #[ptg g] 47)).alloc (.cells #[.int .i64 3, .int .i64 ino, .int .i64 src, .int .i64 off, .int .i64 fr, .int .i64 n, .string nm, .string da] 23)) from Bxs.two w _ _ _ _)
 have hf : l.length <= 900 := Nat.le_trans hc.most (by decide)
 have hgW := (HB.out.below.block _ (lt_of_obj hg)).trans hg
 have hSW := h.below HB.out.below
 have hFW := hF.below HB.out.below
 have hsb := HB.out.obj 0 rfl
 have hcb := HB.out.obj 1 rfl
 have HA := hid (show Calls prog 62 _ ((w.alloc (.cells #[ptg g] 47)).alloc (.cells #[.int .i64 3, .int .i64 ino, .int .i64 src, .int .i64 off, .int .i64 fr, .int .i64 n, .string nm, .string da] 23)) (StD (Fs.createC env l ino ⟨3, 511, ⟨#[]⟩, da, []⟩) g p ((w.alloc (.cells #[ptg g] 47)).alloc (.cells #[.int .i64 3, .int .i64 ino, .int .i64 src, .int .i64 off, .int .i64 fr, .int .i64 n, .string nm, .string da] 23))) from sCreate_any g p m l ino 3 511 da ((w.alloc (.cells #[ptg g] 47)).alloc (.cells #[.int .i64 3, .int .i64 ino, .int .i64 src, .int .i64 off, .int .i64 fr, .int .i64 n, .string nm, .string da] 23)) hgW hSW hf)
 clear hgW hSW hFW hsb hcb hg h hF _hp hc hf _hq
 show Calls prog 24 _ w (StD (Fs.createC env l ino ⟨3, 511, ⟨#[]⟩, da, []⟩) g p w)
 obtain ⟨R, hR⟩ : ∃ R, Fs.createC env l ino ⟨3, 511, ⟨#[]⟩, da, []⟩ = R := ⟨_, rfl⟩
 rw [hR] at HA |-
 clear hR
 go_enter func24, ntmps24
 go_wp2_with fail
 refine HA.out.mono ?_
 rintro e w2 ⟨rfl, hP⟩
 have HPx := hid (hP.from HB.out.below)
 clear hP
 dsimp only
 go_wp2_with fail
 go_ret
 exact ⟨rfl, HPx.out⟩
theorem sDo4_any (ino src off fr n : Int) (nm da : ByteArray) (hq : CmdOk (⟨4, ino, src, off, fr, n, nm, da⟩ : Fs.Cmd)) (hg : w.heap[g]? = some (.cells #[ptg p, pv m] 117 (0, 0))) (h : Sv w m l) (hF : Fo w p f) (_hp : Okc f.l) (hc : Okc l) :
  Calls prog 24 #[ptg g, .agg #[.int .i64 4, .int .i64 ino, .int .i64 src, .int .i64 off, .int .i64 fr, .int .i64 n, .string nm, .string da]] w (StD (Fs.doC env f.l l (⟨4, ino, src, off, fr, n, nm, da⟩ : Fs.Cmd)) g p w) := by
 have HB := hid (show Bxs w [(w.heap.size, #[ptg g], 47), (w.heap.size + 1, #[.int .i64 4, .int .i64 ino, .int .i64 src, .int .i64 off, .int .i64 fr, .int .i64 n, .string nm, .string da], 23)] ((w.alloc (.cells #[ptg g] 47)).alloc (.cells #[.int .i64 4, .int .i64 ino, .int .i64 src, .int .i64 off, .int .i64 fr, .int .i64 n, .string nm, .string da] 23)) from Bxs.two w _ _ _ _)
 have hf : l.length <= 900 := Nat.le_trans hc.most (by decide)
 have hgW := (HB.out.below.block _ (lt_of_obj hg)).trans hg
 have hSW := h.below HB.out.below
 have hFW := hF.below HB.out.below
 have hsb := HB.out.obj 0 rfl
 have hcb := HB.out.obj 1 rfl
 have HA := hid (sEnter_any g p m l (⟨4, ino, src, off, fr, n, nm, da⟩ : Fs.Cmd) hq ((w.alloc (.cells #[ptg g] 47)).alloc (.cells #[.int .i64 4, .int .i64 ino, .int .i64 src, .int .i64 off, .int .i64 fr, .int .i64 n, .string nm, .string da] 23)) hgW hSW hf)
 clear hgW hSW hFW hsb hcb hg h hF _hp hc hf hq
 show Calls prog 24 _ w (StD (Fs.enterC env l (⟨4, ino, src, off, fr, n, nm, da⟩ : Fs.Cmd)) g p w)
 obtain ⟨R, hR⟩ : ∃ R, Fs.enterC env l (⟨4, ino, src, off, fr, n, nm, da⟩ : Fs.Cmd) = R := ⟨_, rfl⟩
 rw [hR] at HA |-
 clear hR
 go_enter func24, ntmps24
 go_wp2_with fail
 refine HA.out.mono ?_
 rintro e w2 ⟨rfl, hP⟩
 have HPx := hid (hP.from HB.out.below)
 clear hP
 dsimp only
 go_wp2_with fail
 go_ret
 exact ⟨rfl, HPx.out⟩
theorem sDo5_any (ino src off fr n : Int) (nm da : ByteArray) (hq : CmdOk (⟨5, ino, src, off, fr, n, nm, da⟩ : Fs.Cmd)) (hg : w.heap[g]? = some (.cells #[ptg p, pv m] 117 (0, 0))) (h : Sv w m l) (hF : Fo w p f) (_hp : Okc f.l) (hc : Okc l) :
  Calls prog 24 #[ptg g, .agg #[.int .i64 5, .int .i64 ino, .int .i64 src, .int .i64 off, .int .i64 fr, .int .i64 n, .string nm, .string da]] w (StD (Fs.doC env f.l l (⟨5, ino, src, off, fr, n, nm, da⟩ : Fs.Cmd)) g p w) := by
 have HB := hid (show Bxs w [(w.heap.size, #[ptg g], 47), (w.heap.size + 1, #[.int .i64 5, .int .i64 ino, .int .i64 src, .int .i64 off, .int .i64 fr, .int .i64 n, .string nm, .string da], 23)] ((w.alloc (.cells #[ptg g] 47)).alloc (.cells #[.int .i64 5, .int .i64 ino, .int .i64 src, .int .i64 off, .int .i64 fr, .int .i64 n, .string nm, .string da] 23)) from Bxs.two w _ _ _ _)
 have hf : l.length <= 900 := Nat.le_trans hc.most (by decide)
 have hgW := (HB.out.below.block _ (lt_of_obj hg)).trans hg
 have hSW := h.below HB.out.below
 have hFW := hF.below HB.out.below
 have hsb := HB.out.obj 0 rfl
 have hcb := HB.out.obj 1 rfl
 have HA := hid (alter_any 65 #[.pointer (some ⟨w.heap.size + 1, 0, none⟩)] (λ_ _ => by kernel_rfl) (λx => Nd.withoutE x nm) g p m l src ((w.alloc (.cells #[ptg g] 47)).alloc (.cells #[.int .i64 5, .int .i64 ino, .int .i64 src, .int .i64 off, .int .i64 fr, .int .i64 n, .string nm, .string da] 23)) hgW hSW hf hq.src0 hq.src1 (λx hR a c W hb hE => cWout_any (w.heap.size + 1) (⟨5, ino, src, off, fr, n, nm, da⟩ : Fs.Cmd) x.kind x.mode x.data x.target x.ents hR a c W ((hb.block _ (lt_of_obj hcb)).trans hcb) hE) (λx hR h0 => wout_right hR h0))
 clear hgW hSW hFW hsb hcb hg h hF _hp hc hf hq
 show Calls prog 24 _ w (StD (Fs.alter l src (λx => Nd.withoutE x nm)) g p w)
 obtain ⟨R, hR⟩ : ∃ R, Fs.alter l src (λx => Nd.withoutE x nm) = R := ⟨_, rfl⟩
 rw [hR] at HA |-
 clear hR
 go_enter func24, ntmps24
 go_wp2_with fail
 refine HA.out.mono ?_
 rintro e w2 ⟨rfl, hP⟩
 have HPx := hid (hP.from HB.out.below)
 clear hP
 dsimp only
 go_wp2_with fail
 go_ret
 exact ⟨rfl, HPx.out⟩
theorem sDo6_any (ino src off fr n : Int) (nm da : ByteArray) (hq : CmdOk (⟨6, ino, src, off, fr, n, nm, da⟩ : Fs.Cmd)) (hg : w.heap[g]? = some (.cells #[ptg p, pv m] 117 (0, 0))) (h : Sv w m l) (hF : Fo w p f) (_hp : Okc f.l) (hc : Okc l) :
  Calls prog 24 #[ptg g, .agg #[.int .i64 6, .int .i64 ino, .int .i64 src, .int .i64 off, .int .i64 fr, .int .i64 n, .string nm, .string da]] w (StD (Fs.doC env f.l l (⟨6, ino, src, off, fr, n, nm, da⟩ : Fs.Cmd)) g p w) := by
 have HB := hid (show Bxs w [(w.heap.size, #[ptg g], 47), (w.heap.size + 1, #[.int .i64 6, .int .i64 ino, .int .i64 src, .int .i64 off, .int .i64 fr, .int .i64 n, .string nm, .string da], 23)] ((w.alloc (.cells #[ptg g] 47)).alloc (.cells #[.int .i64 6, .int .i64 ino, .int .i64 src, .int .i64 off, .int .i64 fr, .int .i64 n, .string nm, .string da] 23)) from Bxs.two w _ _ _ _)
 have hf : l.length <= 900 := Nat.le_trans hc.most (by decide)
 have hgW := (HB.out.below.block _ (lt_of_obj hg)).trans hg
 have hSW := h.below HB.out.below
 have hFW := hF.below HB.out.below
 have hsb := HB.out.obj 0 rfl
 have hcb := HB.out.obj 1 rfl
 have HA := hid (alter_any 67 #[.pointer (some ⟨w.heap.size + 1, 0, none⟩)] (λ_ _ => by kernel_rfl) (Fs.modeR env n) g p m l ino ((w.alloc (.cells #[ptg g] 47)).alloc (.cells #[.int .i64 6, .int .i64 ino, .int .i64 src, .int .i64 off, .int .i64 fr, .int .i64 n, .string nm, .string da] 23)) hgW hSW hf hq.ino0 hq.ino1 (λx hR a c W hb hE => cMode_any (w.heap.size + 1) (⟨6, ino, src, off, fr, n, nm, da⟩ : Fs.Cmd) x.kind x.mode x.data x.target x.ents hR a c W ((hb.block _ (lt_of_obj hcb)).trans hcb) hE) (λx hR h0 => mode_right h0))
 clear hgW hSW hFW hsb hcb hg h hF _hp hc hf hq
 show Calls prog 24 _ w (StD (Fs.alter l ino (Fs.modeR env n)) g p w)
 obtain ⟨R, hR⟩ : ∃ R, Fs.alter l ino (Fs.modeR env n) = R := ⟨_, rfl⟩
 rw [hR] at HA |-
 clear hR
 go_enter func24, ntmps24
 go_wp2_with fail
 refine HA.out.mono ?_
 rintro e w2 ⟨rfl, hP⟩
 have HPx := hid (hP.from HB.out.below)
 clear hP
 dsimp only
 go_wp2_with fail
 go_ret
 exact ⟨rfl, HPx.out⟩
theorem sDo7_any (ino src off fr n : Int) (nm da : ByteArray) (hq : CmdOk (⟨7, ino, src, off, fr, n, nm, da⟩ : Fs.Cmd)) (hg : w.heap[g]? = some (.cells #[ptg p, pv m] 117 (0, 0))) (h : Sv w m l) (hF : Fo w p f) (_hp : Okc f.l) (hc : Okc l) :
  Calls prog 24 #[ptg g, .agg #[.int .i64 7, .int .i64 ino, .int .i64 src, .int .i64 off, .int .i64 fr, .int .i64 n, .string nm, .string da]] w (StD (Fs.doC env f.l l (⟨7, ino, src, off, fr, n, nm, da⟩ : Fs.Cmd)) g p w) := by
 have HB := hid (show Bxs w [(w.heap.size, #[ptg g], 47), (w.heap.size + 1, #[.int .i64 7, .int .i64 ino, .int .i64 src, .int .i64 off, .int .i64 fr, .int .i64 n, .string nm, .string da], 23)] ((w.alloc (.cells #[ptg g] 47)).alloc (.cells #[.int .i64 7, .int .i64 ino, .int .i64 src, .int .i64 off, .int .i64 fr, .int .i64 n, .string nm, .string da] 23)) from Bxs.two w _ _ _ _)
 have hf : l.length <= 900 := Nat.le_trans hc.most (by decide)
 have hgW := (HB.out.below.block _ (lt_of_obj hg)).trans hg
 have hSW := h.below HB.out.below
 have hFW := hF.below HB.out.below
 have hsb := HB.out.obj 0 rfl
 have hcb := HB.out.obj 1 rfl
 have HA := hid (alterBytes_any 70 #[.pointer (some ⟨w.heap.size + 1, 0, none⟩)] (λ_ _ => by kernel_rfl) (λs => env.trunc s n) g p m l ino ((w.alloc (.cells #[ptg g] 47)).alloc (.cells #[.int .i64 7, .int .i64 ino, .int .i64 src, .int .i64 off, .int .i64 fr, .int .i64 n, .string nm, .string da] 23)) hgW hSW hf hq.ino0 hq.ino1 (λs hs W hb => cTrunc_any (w.heap.size + 1) (⟨7, ino, src, off, fr, n, nm, da⟩ : Fs.Cmd) s W ((hb.block _ (lt_of_obj hcb)).trans hcb)) (λs hs h0 => env_ok.trunc _ _ h0))
 clear hgW hSW hFW hsb hcb hg h hF _hp hc hf hq
 show Calls prog 24 _ w (StD (Fs.alter l ino (Fs.bytesR λs => env.trunc s n)) g p w)
 obtain ⟨R, hR⟩ : ∃ R, Fs.alter l ino (Fs.bytesR λs => env.trunc s n) = R := ⟨_, rfl⟩
 rw [hR] at HA |-
 clear hR
 go_enter func24, ntmps24
 go_wp2_with fail
 refine HA.out.mono ?_
 rintro e w2 ⟨rfl, hP⟩
 have HPx := hid (hP.from HB.out.below)
 clear hP
 dsimp only
 go_wp2_with fail
 go_ret
 exact ⟨rfl, HPx.out⟩
theorem sDo8_any (ino src off fr n : Int) (nm da : ByteArray) (hq : CmdOk (⟨8, ino, src, off, fr, n, nm, da⟩ : Fs.Cmd)) (hg : w.heap[g]? = some (.cells #[ptg p, pv m] 117 (0, 0))) (h : Sv w m l) (hF : Fo w p f) (_hp : Okc f.l) (hc : Okc l) :
  Calls prog 24 #[ptg g, .agg #[.int .i64 8, .int .i64 ino, .int .i64 src, .int .i64 off, .int .i64 fr, .int .i64 n, .string nm, .string da]] w (StD (Fs.doC env f.l l (⟨8, ino, src, off, fr, n, nm, da⟩ : Fs.Cmd)) g p w) := by
 have HB := hid (show Bxs w [(w.heap.size, #[ptg g], 47), (w.heap.size + 1, #[.int .i64 8, .int .i64 ino, .int .i64 src, .int .i64 off, .int .i64 fr, .int .i64 n, .string nm, .string da], 23)] ((w.alloc (.cells #[ptg g] 47)).alloc (.cells #[.int .i64 8, .int .i64 ino, .int .i64 src, .int .i64 off, .int .i64 fr, .int .i64 n, .string nm, .string da] 23)) from Bxs.two w _ _ _ _)
 have hf : l.length <= 900 := Nat.le_trans hc.most (by decide)
 have hgW := (HB.out.below.block _ (lt_of_obj hg)).trans hg
 have hSW := h.below HB.out.below
 have hFW := hF.below HB.out.below
 have hsb := HB.out.obj 0 rfl
 have hcb := HB.out.obj 1 rfl
 have HA := hid (alterBytes_any 72 #[.pointer (some ⟨w.heap.size + 1, 0, none⟩)] (λ_ _ => by kernel_rfl) (λs => env.put s off da) g p m l ino ((w.alloc (.cells #[ptg g] 47)).alloc (.cells #[.int .i64 8, .int .i64 ino, .int .i64 src, .int .i64 off, .int .i64 fr, .int .i64 n, .string nm, .string da] 23)) hgW hSW hf hq.ino0 hq.ino1 (λs hs W hb => cPut_any (w.heap.size + 1) (⟨8, ino, src, off, fr, n, nm, da⟩ : Fs.Cmd) hq s hs W ((hb.block _ (lt_of_obj hcb)).trans hcb)) (λs hs h0 => env_ok.put _ _ _ hs h0))
 clear hgW hSW hFW hsb hcb hg h hF _hp hc hf hq
 show Calls prog 24 _ w (StD (Fs.alter l ino (Fs.bytesR λs => env.put s off da)) g p w)
 obtain ⟨R, hR⟩ : ∃ R, Fs.alter l ino (Fs.bytesR λs => env.put s off da) = R := ⟨_, rfl⟩
 rw [hR] at HA |-
 clear hR
 go_enter func24, ntmps24
 go_wp2_with fail
 refine HA.out.mono ?_
 rintro e w2 ⟨rfl, hP⟩
 have HPx := hid (hP.from HB.out.below)
 clear hP
 dsimp only
 go_wp2_with fail
 go_ret
 exact ⟨rfl, HPx.out⟩
theorem sDo9_any (ino src off fr n : Int) (nm da : ByteArray) (hq : CmdOk (⟨9, ino, src, off, fr, n, nm, da⟩ : Fs.Cmd)) (hg : w.heap[g]? = some (.cells #[ptg p, pv m] 117 (0, 0))) (h : Sv w m l) (hF : Fo w p f) (hp : Okc f.l) (hc : Okc l) :
  Calls prog 24 #[ptg g, .agg #[.int .i64 9, .int .i64 ino, .int .i64 src, .int .i64 off, .int .i64 fr, .int .i64 n, .string nm, .string da]] w (StD (Fs.doC env f.l l (⟨9, ino, src, off, fr, n, nm, da⟩ : Fs.Cmd)) g p w) := by
 have HB := hid (show Bxs w [(w.heap.size, #[ptg g], 47), (w.heap.size + 1, #[.int .i64 9, .int .i64 ino, .int .i64 src, .int .i64 off, .int .i64 fr, .int .i64 n, .string nm, .string da], 23)] ((w.alloc (.cells #[ptg g] 47)).alloc (.cells #[.int .i64 9, .int .i64 ino, .int .i64 src, .int .i64 off, .int .i64 fr, .int .i64 n, .string nm, .string da] 23)) from Bxs.two w _ _ _ _)
 have hf : l.length <= 900 := Nat.le_trans hc.most (by decide)
 have hgW := (HB.out.below.block _ (lt_of_obj hg)).trans hg
 have hSW := h.below HB.out.below
 have hFW := hF.below HB.out.below
 have hsb := HB.out.obj 0 rfl
 have hcb := HB.out.obj 1 rfl
 have HA := hid (alterBytes_any 73 #[.pointer (some ⟨w.heap.size, 0, none⟩), .pointer (some ⟨w.heap.size + 1, 0, none⟩)] (λ_ _ => by kernel_rfl) (Fs.cloneR env f.l (⟨9, ino, src, off, fr, n, nm, da⟩ : Fs.Cmd)) g p m l ino ((w.alloc (.cells #[ptg g] 47)).alloc (.cells #[.int .i64 9, .int .i64 ino, .int .i64 src, .int .i64 off, .int .i64 fr, .int .i64 n, .string nm, .string da] 23)) hgW hSW hf hq.ino0 hq.ino1 (λs hs W hb => cClone_any w.heap.size (w.heap.size + 1) g p (pv m) f (⟨9, ino, src, off, fr, n, nm, da⟩ : Fs.Cmd) hq s hs W ((hb.block _ (lt_of_obj hsb)).trans hsb) ((hb.block _ (lt_of_obj hcb)).trans hcb) ((hb.block _ (lt_of_obj hgW)).trans hgW) (hFW.below hb) hp) (λs hs h0 => clone_few s hs h0))
 clear hgW hSW hFW hsb hcb hg h hF hp hc hf hq
 show Calls prog 24 _ w (StD (Fs.alter l ino (Fs.bytesR (Fs.cloneR env f.l (⟨9, ino, src, off, fr, n, nm, da⟩ : Fs.Cmd)))) g p w)
 obtain ⟨R, hR⟩ : ∃ R, Fs.alter l ino (Fs.bytesR (Fs.cloneR env f.l (⟨9, ino, src, off, fr, n, nm, da⟩ : Fs.Cmd))) = R := ⟨_, rfl⟩
 rw [hR] at HA |-
 clear hR
 go_enter func24, ntmps24
 go_wp2_with fail
 refine HA.out.mono ?_
 rintro e w2 ⟨rfl, hP⟩
 have HPx := hid (hP.from HB.out.below)
 clear hP
 dsimp only
 go_wp2_with fail
 go_ret
 exact ⟨rfl, HPx.out⟩
theorem sDo10_any (ino src off fr n : Int) (nm da : ByteArray) (hq : CmdOk (⟨10, ino, src, off, fr, n, nm, da⟩ : Fs.Cmd)) (hg : w.heap[g]? = some (.cells #[ptg p, pv m] 117 (0, 0))) (h : Sv w m l) (hF : Fo w p f) (_hp : Okc f.l) (hc : Okc l) :
  Calls prog 24 #[ptg g, .agg #[.int .i64 10, .int .i64 ino, .int .i64 src, .int .i64 off, .int .i64 fr, .int .i64 n, .string nm, .string da]] w (StD (Fs.doC env f.l l (⟨10, ino, src, off, fr, n, nm, da⟩ : Fs.Cmd)) g p w) := by
 have HB := hid (show Bxs w [(w.heap.size, #[ptg g], 47), (w.heap.size + 1, #[.int .i64 10, .int .i64 ino, .int .i64 src, .int .i64 off, .int .i64 fr, .int .i64 n, .string nm, .string da], 23)] ((w.alloc (.cells #[ptg g] 47)).alloc (.cells #[.int .i64 10, .int .i64 ino, .int .i64 src, .int .i64 off, .int .i64 fr, .int .i64 n, .string nm, .string da] 23)) from Bxs.two w _ _ _ _)
 have hf : l.length <= 900 := Nat.le_trans hc.most (by decide)
 have hgW := (HB.out.below.block _ (lt_of_obj hg)).trans hg
 have hSW := h.below HB.out.below
 have hFW := hF.below HB.out.below
 have hsb := HB.out.obj 0 rfl
 have hcb := HB.out.obj 1 rfl
 have HA := hid (sRemove_any g p m l ino ((w.alloc (.cells #[ptg g] 47)).alloc (.cells #[.int .i64 10, .int .i64 ino, .int .i64 src, .int .i64 off, .int .i64 fr, .int .i64 n, .string nm, .string da] 23)) hgW hSW hf hq.ino0 hq.ino1)
 clear hgW hSW hFW hsb hcb hg h hF _hp hc hf hq
 show Calls prog 24 _ w (StD (Fs.removeC l ino) g p w)
 obtain ⟨R, hR⟩ : ∃ R, Fs.removeC l ino = R := ⟨_, rfl⟩
 rw [hR] at HA |-
 clear hR
 go_enter func24, ntmps24
 go_wp2_with fail
 refine HA.out.mono ?_
 rintro e w2 ⟨rfl, hP⟩
 have HPx := hid (hP.from HB.out.below)
 clear hP
 dsimp only
 go_wp2_with fail
 go_ret
 exact ⟨rfl, HPx.out⟩
theorem sDoX_any (q : Fs.Cmd) (hg : w.heap[g]? = some (.cells #[ptg p, pv m] 117 (0, 0))) (h : Sv w m l) (h1 : ¬ q.kind = 1) (h2 : ¬ q.kind = 2) (h3 : ¬ q.kind = 3) (h4 : ¬ q.kind = 4) (h5 : ¬ q.kind = 5) (h6 : ¬ q.kind = 6) (h7 : ¬ q.kind = 7) (h8 : ¬ q.kind = 8) (h9 : ¬ q.kind = 9) (h10 : ¬ q.kind = 10) :
  Calls prog 24 #[ptg g, .agg (ccs q)] w (StD (l, 16) g p w) := by
 have HB := hid (show Bxs w [(w.heap.size, #[ptg g], 47), (w.heap.size + 1, ccs q, 23)] ((w.alloc (.cells #[ptg g] 47)).alloc (.cells (ccs q) 23)) from Bxs.two w _ _ _ _)
 have HPx := hid (put1_same hg h HB.out.below)
 clear hg h
 go_enter func24, ntmps24
 go_wp2_with fail
 go_ret
 exact ⟨rfl, HPx.out⟩
theorem sDo_any (q : Fs.Cmd) (hq : CmdOk q) (hg : w.heap[g]? = some (.cells #[ptg p, pv m] 117 (0, 0))) (h : Sv w m l) (hF : Fo w p f) (hp : Okc f.l) (hc : Okc l) :
  Calls prog 24 #[ptg g, .agg (ccs q)] w (StD (Fs.doC env f.l l q) g p w) := by
 by_cases h1 : q.kind = 1
 ·obtain ⟨kd, ino, src, off, fr, n, nm, da⟩ := q; obtain rfl : kd = 1 := h1; exact sDo1_any ino src off fr n nm da hq hg h hF hp hc
 by_cases h2 : q.kind = 2
 ·obtain ⟨kd, ino, src, off, fr, n, nm, da⟩ := q; obtain rfl : kd = 2 := h2; exact sDo2_any ino src off fr n nm da hq hg h hF hp hc
 by_cases h3 : q.kind = 3
 ·obtain ⟨kd, ino, src, off, fr, n, nm, da⟩ := q; obtain rfl : kd = 3 := h3; exact sDo3_any ino src off fr n nm da hq hg h hF hp hc
 by_cases h4 : q.kind = 4
 ·obtain ⟨kd, ino, src, off, fr, n, nm, da⟩ := q; obtain rfl : kd = 4 := h4; exact sDo4_any ino src off fr n nm da hq hg h hF hp hc
 by_cases h5 : q.kind = 5
 ·obtain ⟨kd, ino, src, off, fr, n, nm, da⟩ := q; obtain rfl : kd = 5 := h5; exact sDo5_any ino src off fr n nm da hq hg h hF hp hc
 by_cases h6 : q.kind = 6
 ·obtain ⟨kd, ino, src, off, fr, n, nm, da⟩ := q; obtain rfl : kd = 6 := h6; exact sDo6_any ino src off fr n nm da hq hg h hF hp hc
 by_cases h7 : q.kind = 7
 ·obtain ⟨kd, ino, src, off, fr, n, nm, da⟩ := q; obtain rfl : kd = 7 := h7; exact sDo7_any ino src off fr n nm da hq hg h hF hp hc
 by_cases h8 : q.kind = 8
 ·obtain ⟨kd, ino, src, off, fr, n, nm, da⟩ := q; obtain rfl : kd = 8 := h8; exact sDo8_any ino src off fr n nm da hq hg h hF hp hc
 by_cases h9 : q.kind = 9
 ·obtain ⟨kd, ino, src, off, fr, n, nm, da⟩ := q; obtain rfl : kd = 9 := h9; exact sDo9_any ino src off fr n nm da hq hg h hF hp hc
 by_cases h10 : q.kind = 10
 ·obtain ⟨kd, ino, src, off, fr, n, nm, da⟩ := q; obtain rfl : kd = 10 := h10; exact sDo10_any ino src off fr n nm da hq hg h hF hp hc
 have hR : Fs.doC env f.l l q = (l, 16) := by
  unfold Fs.doC
  rw [if_neg (by omega), if_neg h4, if_neg h5, if_neg h6, if_neg h7, if_neg h8, if_neg h9, if_neg h10]
 rw [hR]
 exact sDoX_any q hg h h1 h2 h3 h4 h5 h6 h7 h8 h9 h10
end
theorem cDo_any {g p : Nat} {f : Fs.FS} {l : List Fs.Item} {w : World} (h : Stg w g p f l) (q : Fs.Cmd) (hq : CmdOk q) : Calls prog 24 #[ptg g, .agg (ccs q)] w λe w' => e = .returned (.int .i64 (Fs.doC env f.l l q).2) /\ Stg w' g p f (Fs.doC env f.l l q).1 /\ Turn g w w' := by
 have h0 := h
 obtain ⟨⟨m, hg, hS⟩, hF, hc, hp⟩ := h
 refine (sDo_any q hq hg hS hF hp hc).mono ?_
 rintro e w' ⟨e1, m', e2, e3, e4⟩
 exact ⟨e1, ⟨⟨m', e2, e3⟩, h0.fo e4 hF, hc.doC q, hp⟩, e4⟩
def Newst (f : Fs.FS) (l : List Fs.Item) (w : World) (e : Ending) (w' : World) : Prop := ∃ g p, e = .returned (ptg g) /\ Stg w' g p f l /\ w.heap.size <= g /\ w.heap.size <= p /\ Below w.heap.size w w'
theorem cResume_any {q : Nat} {f : Fs.FS} {m : Option Nat} {l : List Fs.Item} {w : World} (hF : Fo w q f) (hS : Sv w m l) (hp : Okc f.l) (hc : Okc l) : Calls prog 21 #[ptg q, pv m] w (Newst f l w) := by
 have HC := hid (qCopy_any hF)
 have HS := hid (λW (hb : Below w.heap.size w W) => hS.below hb)
 clear hF hS
 go_enter func21, ntmps21
 go_wp2_with fail
 refine HC.out.mono ?_
 rintro e w1 ⟨p, rfl, hF, hge, hb⟩
 have HX := hid (And.intro hF (And.intro hge hb))
 clear hF hge hb
 dsimp only
 go_wp2_with fail
 go_ret
 have hb1 := below_one w1 (.cells #[ptg p, pv m] 117)
 exact ⟨w1.heap.size, p, rfl, ⟨⟨m, heap_alloc_new _ _, (HS.out _ HX.out.2.2).below hb1⟩, HX.out.1.below hb1, hc, hp⟩, HX.out.2.2.size, HX.out.2.1, HX.out.2.2.trans (hb1.mono HX.out.2.2.size)⟩
theorem cNew_any {q : Nat} {f : Fs.FS} {w : World} (hF : Fo w q f) (hp : Okc f.l) : Calls prog 19 #[ptg q] w (Newst f f.l w) := by
 have HM := hid (qMap_any hF)
 have HR := hid (λm (hS : Sv w m f.l) => cResume_any hF hS hp hp)
 clear hF
 go_enter func19, ntmps19
 go_wp2_with fail
 refine HM.out.mono ?_
 rintro e w1 ⟨m, rfl, hS, rfl⟩
 have HR := hid (HR.out m hS)
 clear hS
 dsimp only
 go_wp2_with fail
 refine HR.out.mono ?_
 rintro e w2 ⟨g, p, rfl, hx⟩
 have HX := hid hx
 clear hx
 dsimp only
 go_wp2_with fail
 go_ret
 exact ⟨g, p, rfl, HX.out⟩
theorem cMap_any {g p : Nat} {f : Fs.FS} {l : List Fs.Item} {w : World} (h : Stg w g p f l) : Calls prog 22 #[ptg g] w (Mapp l w) := by
 obtain ⟨⟨m, hg, hS⟩, _⟩ := h
 have g1 : w.cell? ⟨g, 1, none⟩ = some (pv m) := cell_obj hg 1
 have HS := hid hS
 clear hg hS
 go_enter func22, ntmps22
 go_wp2_with fail
 go_ret
 exact ⟨m, rfl, HS.out, rfl⟩
end Go.Proofs.YthbajmlmjjfgpaaGreatDoor
namespace Go.Proofs.YthbajmlmjjfgpaaGreatDoor
open Go.RowKit Go.Less Go.Maps
open T8 (pv Dg)
attribute [local go_sem 9000] sem_eql sem_neq
def IsMax (M : Int) (l : List Int) : Prop := M ∈ l /\ ∀ x ∈ l, x <= M
theorem max_more {M : Int} {l : List Int} {k : Nat} {z : Int} (h : IsMax M (l.take k)) (hz : l[k]? = some z) : IsMax (max M z) (l.take (k + 1)) := by
 have hk : k < l.length := by
  rcases Nat.lt_or_ge k l.length with h | h
  ·exact h
  ·rw [List.getElem?_eq_none h] at hz; cases hz
 have e : l.take (k + 1) = l.take k ++ [z] := by
  rw [List.take_succ_eq_append_getElem hk]
  rw [List.getElem?_eq_getElem hk] at hz
  injection hz with hz
  rw [hz]
 rw [e]
 refine ⟨?_, λx hx => ?_⟩
 ·rcases Int.le_total M z with h1 | h1
  ·rw [Int.max_eq_right h1]; exact List.mem_append_right _ (List.mem_singleton.2 rfl)
  ·rw [Int.max_eq_left h1]; exact List.mem_append_left _ h.1
 ·rcases List.mem_append.1 hx with hx | hx
  ·exact Int.le_trans (h.2 x hx) (Int.le_max_left _ _)
  ·rw [List.mem_singleton.1 hx]; exact Int.le_max_right _ _
theorem max_any (a : Option Addr) (n cap : Nat) (l : List Int) (w : World) (hI : Ints a n l w) (hn : n <= 1000000) (h1 : 1 <= n) : Calls prog 117 #[.slice a n cap] w λe w' => (∃ M, e = .returned (.int .i64 M) /\ IsMax M l) /\ w' = w := by
 have hni : (n : Int) <= 1000000 := by omega
 have h1i : ¬ (n : Int) < 1 := by omega
 have h0i : (0 : Int) < (n : Int) := by omega
 have HI := hid hI
 have hcount := hI.count
 obtain ⟨z, hz⟩ : ∃ z, l[0]? = some z := ⟨_, List.getElem?_eq_getElem (by omega)⟩
 obtain ⟨b, off, rfl, hc⟩ := hI.cell 0 h1
 rw [show l.getD 0 0 = z by rw [List.getD, hz]; rfl] at hc
 have HL := hid hcount
 have HZ := hid (show IsMax z (l.take 1) by
  have e : l.take 1 = [z] := by
   cases l with
   | nil => cases hz
   | cons y l => injection hz with hz; rw [hz]; rfl
  rw [e]; exact ⟨List.mem_singleton.2 rfl, λx hx => by rw [List.mem_singleton.1 hx]; exact Int.le_refl _⟩)
 rw [Nat.add_zero] at hc
 clear hI hcount hz
 go_enter func117, ntmps117
 go_wp2_with fail
 clear hc
 go_loopw [3, 4] (λx3 x4 wr => ∃ (k : Nat) (M : Int), 1 <= k /\ k <= n /\ x4 = .int .i64 k /\ x3 = .int .i64 M /\ Hid (IsMax M (l.take k)) /\ wr = w) (λ_ x4 _ => n - (intOf x4).toNat)
 case atStart => exact ⟨1, z, Nat.le_refl _, h1, rfl, rfl, HZ.out, rfl⟩
 case round =>
  clear HZ
  obtain ⟨k, M, hk1, hk, rfl, rfl, HM, rfl⟩ := hrel
  by_cases hlt : k < n
  ·have k0 : (k : Int) < (n : Int) := by omega
   have hk0 : (0 : Int) <= (k : Int) := by omega
   obtain ⟨b1, o1, e1, hc⟩ := HI.out.cell k hlt
   injection e1 with e1
   injection e1 with e1 e2 _
   subst e1 e2
   obtain ⟨z2, hz2⟩ : ∃ z, l[k]? = some z := ⟨_, List.getElem?_eq_getElem (by rw [<- HL.out]; exact hlt)⟩
   rw [show l.getD k 0 = z2 by rw [List.getD, hz2]; rfl] at hc
   have HM2 := hid (max_more HM.out hz2)
   clear hz2
   go_wp2_with fail
   go_roundw
   case rel => exact ⟨k + 1, _, by omega, by omega, by go_num, by first | rfl | trivial, HM2.out, by first | rfl | trivial⟩
   case measure => simp [intOf]; omega
  ·obtain rfl : k = n := by omega
   have hge : ¬ ((k : Int) < (k : Int)) := by omega
   go_wp2_with fail
   go_ret
   exact ⟨⟨M, rfl, by have := HM.out; rwa [HL.out, List.take_length] at this⟩, rfl⟩
def OfR (l : List Fs.Item) (next : Int) (w : World) (e : Ending) (w' : World) : Prop :=
 (soundL l = true /\ next <= 2147483647 /\ (∀ y ∈ l, y.1 < next) /\ ∃ g, e = .returned (.tuple #[ptg g, .int .i64 0]) /\ Fo w' g ⟨l, next⟩ /\ w.heap.size <= g /\ Below w.heap.size w w') \/
 (¬ (soundL l = true /\ next <= 2147483647 /\ ∀ y ∈ l, y.1 < next) /\ e = .returned (.tuple #[.pointer none, .int .i64 2]) /\ Below w.heap.size w w')
theorem of_bad (m : Option Nat) (next : Int) (w : World) (h : Calls prog 116 #[pv m] w (SoundR false w)) : Calls prog 79 #[pv m, .int .i64 next] w λe w' => e = .returned (.tuple #[.pointer none, .int .i64 2]) /\ Below w.heap.size w w' := by
 have HS := hid h
 clear h
 unfold SoundR at HS
 go_enter func79, ntmps79
 go_wp2_with fail
 refine HS.out.mono ?_
 rintro e w1 ⟨rfl, hb⟩
 dsimp only
 go_wp2_with fail
 go_ret2
 exact ⟨rfl, hb⟩
theorem sound_some {l : List Fs.Item} (h : soundL l = true) : 1 <= l.length := by
 cases l with
 | nil => exact absurd h (by decide)
 | cons y l => rw [List.length_cons]; omega
theorem of_any (m : Option Nat) (l : List Fs.Item) (next : Int) (w : World) (h : Sv w m l) : Calls prog 79 #[pv m, .int .i64 next] w (OfR l next w) := by
 have hS := pSound_any m l w h
 cases hs : soundL l with
 | false =>
  rw [hs] at hS
  exact (of_bad m next w hS).mono λe w' h => .inr ⟨λh2 => (by rw [hs] at h2; cases h2.1), h.1, h.2⟩
 | true =>
  rw [hs] at hS
  have HSo := hid hS
  have HSv := hid (λW (hb : Below w.heap.size w W) => h.below hb)
  have HIn := hid (λW (hb : Below w.heap.size w W) => inos_any m next l W (h.below hb))
  have hlen : 1 <= (inosL l).length := by unfold inosL; rw [List.length_map]; exact sound_some hs
  have hl : (inosL l).length <= 1000 := by unfold inosL; rw [List.length_map]; exact h.ok.few
  have HMem := hid (show (∀ M ∈ inosL l, ∃ y ∈ l, y.1 = M) /\ ∀ y ∈ l, y.1 ∈ inosL l from ⟨λM hM => List.mem_map.1 hM, λy hy => List.mem_map.2 ⟨y, hy, rfl⟩⟩)
  generalize inosL l = L at *
  have HSs := hid hs
  clear hS h hs
  unfold SoundR at HSo
  by_cases hn : 2147483647 < next
  ·have HF := hid (show ¬ (soundL l = true /\ next <= 2147483647 /\ ∀ y ∈ l, y.1 < next) from λh => by omega)
   go_enter func79, ntmps79
   go_wp2_with fail
   refine HSo.out.mono ?_
   rintro e w1 ⟨rfl, hb⟩
   have HB := hid hb
   clear hb
   dsimp only
   go_wp2_with fail
   go_ret2
   exact .inr ⟨HF.out, rfl, HB.out.trans ((below_one _ _).mono HB.out.size)⟩
  ·have hn2 : ¬ (next > 2147483647) := hn
   go_enter func79, ntmps79
   go_wp2_with fail
   refine HSo.out.mono ?_
   rintro e w1 ⟨rfl, hb⟩
   have hb1 := below_one w1 (.cells #[pv m, .int .i64 next] 108)
   have HB := hid (hb.trans (hb1.mono hb.size))
   have c0 : (w1.alloc (.cells #[pv m, .int .i64 next] 108)).cell? ⟨w1.heap.size, 0, none⟩ = some (pv m) := World.cell?_alloc_new _ _ _ _
   have c1 : (w1.alloc (.cells #[pv m, .int .i64 next] 108)).cell? ⟨w1.heap.size, 1, none⟩ = some (.int .i64 next) := World.cell?_alloc_new _ _ _ _
   have HC := hid (show (w1.alloc (.cells #[pv m, .int .i64 next] 108)).heap[w1.heap.size]? = some (.cells #[pv m, .int .i64 next] 108 (0, 0)) from heap_alloc_new _ _)
   clear hb hb1
   dsimp only
   go_wp2_with fail
   refine (HIn.out _ HB.out).mono ?_
   rintro e w2 ⟨ao, cap, rfl, hI, hb⟩
   have HB := hid (HB.out.trans (hb.mono HB.out.size))
   have HC := hid ((hb.block _ (lt_of_obj HC.out)).trans HC.out)
   have HMx := hid (max_any ao L.length cap L w2 (irow_ints hI rfl) (by omega) hlen)
   clear hb hI c0 c1
   dsimp only
   go_wp2_with fail
   refine HMx.out.mono ?_
   rintro e w3 ⟨⟨M, rfl, hM⟩, rfl⟩
   dsimp only
   by_cases hle : next <= M
   ·have HF := hid (show ¬ (soundL l = true /\ next <= 2147483647 /\ ∀ y ∈ l, y.1 < next) from λh => by
     obtain ⟨y, hy, e⟩ := HMem.out.1 M hM.1
     have := h.2.2 y hy
     omega)
    clear hM
    go_wp2_with fail
    go_ret2
    exact .inr ⟨HF.out, rfl, HB.out⟩
   ·have HF := hid (show ∀ y ∈ l, y.1 < next from λy hy => by
     have := hM.2 y.1 (HMem.out.2 y hy)
     omega)
    clear hM
    have c0 : w3.cell? ⟨w1.heap.size, 0, none⟩ = some (pv m) := cell_obj HC.out 0
    have c1 : w3.cell? ⟨w1.heap.size, 1, none⟩ = some (.int .i64 next) := cell_obj HC.out 1
    go_wp2_with fail
    go_ret2
    exact .inl ⟨HSs.out, by omega, HF.out, _, rfl, ⟨m, heap_alloc_new _ _, (HSv.out _ HB.out).below (below_one _ _)⟩, HB.out.size, HB.out.trans ((below_one _ _).mono HB.out.size)⟩
end Go.Proofs.YthbajmlmjjfgpaaGreatDoor
