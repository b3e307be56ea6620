/- A part of the proofs. -/
import Derived.Test.YtgcgnolmdkkocaaGreatDoorM26
set_option maxRecDepth 1000000
set_option maxHeartbeats 16000000
open Go.Lib (hid)
open Go.Proofs.Tryz
namespace Go.Proofs.YtgcgnolmdkkocaaGreatDoor
open T6
open Go.RowKit Go.Less
open T8 (pv Rp Dg)
attribute [local go_sem 9000] sem_eql sem_neq
section
variable {g p : Nat} {m : Option Nat} {l : List Fs.Item} {f : Fs.FS} {w : World}
theorem sDo1_any (ino src off fr n : Int) (nm da : ByteArray) (_hq : CmdOk (⟨1, ino, src, off, fr, n, nm, da⟩ : Fs.Cmd)) (hg : w.heap[g]? = some (.cells #[ptg p, pv m] 192 (0, 0))) (h : Sv w m l) (hF : Fo w p f) (_hp : Okc f.l) (hc : Okc l) :
  Calls prog 53 #[ptg g, .agg #[.int .i64 1, .int .i64 ino, .int .i64 src, .int .i64 off, .int .i64 fr, .int .i64 n, .string nm, .string da]] w (StD (Fs.doC env f.l l (⟨1, ino, src, off, fr, n, nm, da⟩ : Fs.Cmd)) g p w) := by
 have HB := hid (show Bxs w [(w.heap.size, #[ptg g], 97), (w.heap.size + 1, #[.int .i64 1, .int .i64 ino, .int .i64 src, .int .i64 off, .int .i64 fr, .int .i64 n, .string nm, .string da], 80)] ((w.alloc (.cells #[ptg g] 97)).alloc (.cells #[.int .i64 1, .int .i64 ino, .int .i64 src, .int .i64 off, .int .i64 fr, .int .i64 n, .string nm, .string da] 80)) from Bxs.two w _ _ _ _)
 have hf : l.length <= 900 := Nat.le_trans hc.most (by decide)
 have hgW := (HB.out.below.block _ (lt_of_obj hg)).trans hg
 have hSW := h.below HB.out.below
 have hFW := hF.below HB.out.below
 have hsb := HB.out.obj 0 rfl
 have hcb := HB.out.obj 1 rfl
 have HA := hid (show Calls prog 118 _ ((w.alloc (.cells #[ptg g] 97)).alloc (.cells #[.int .i64 1, .int .i64 ino, .int .i64 src, .int .i64 off, .int .i64 fr, .int .i64 n, .string nm, .string da] 80)) (StD (Fs.createC env l ino ⟨1, n, ⟨#[]⟩, ⟨#[]⟩, []⟩) g p ((w.alloc (.cells #[ptg g] 97)).alloc (.cells #[.int .i64 1, .int .i64 ino, .int .i64 src, .int .i64 off, .int .i64 fr, .int .i64 n, .string nm, .string da] 80))) from sCreate_any g p m l ino 1 n ⟨#[]⟩ ((w.alloc (.cells #[ptg g] 97)).alloc (.cells #[.int .i64 1, .int .i64 ino, .int .i64 src, .int .i64 off, .int .i64 fr, .int .i64 n, .string nm, .string da] 80)) hgW hSW hf)
 clear hgW hSW hFW hsb hcb hg h hF _hp hc hf _hq
 show Calls prog 53 _ w (StD (Fs.createC env l ino ⟨1, n, ⟨#[]⟩, ⟨#[]⟩, []⟩) g p w)
 obtain ⟨R, hR⟩ : ∃ R, Fs.createC env l ino ⟨1, n, ⟨#[]⟩, ⟨#[]⟩, []⟩ = R := ⟨_, rfl⟩
 rw [hR] at HA |-
 clear hR
 go_enter func53, ntmps53
 go_wp2_with fail
 refine HA.out.mono ?_
 rintro e w2 ⟨rfl, hP⟩
 have HPx := hid (hP.from HB.out.below)
 clear hP
 dsimp only
 go_wp2_with fail
 go_ret
 exact ⟨rfl, HPx.out⟩
theorem sDo2_any (ino src off fr n : Int) (nm da : ByteArray) (_hq : CmdOk (⟨2, ino, src, off, fr, n, nm, da⟩ : Fs.Cmd)) (hg : w.heap[g]? = some (.cells #[ptg p, pv m] 192 (0, 0))) (h : Sv w m l) (hF : Fo w p f) (_hp : Okc f.l) (hc : Okc l) :
  Calls prog 53 #[ptg g, .agg #[.int .i64 2, .int .i64 ino, .int .i64 src, .int .i64 off, .int .i64 fr, .int .i64 n, .string nm, .string da]] w (StD (Fs.doC env f.l l (⟨2, ino, src, off, fr, n, nm, da⟩ : Fs.Cmd)) g p w) := by
 have HB := hid (show Bxs w [(w.heap.size, #[ptg g], 97), (w.heap.size + 1, #[.int .i64 2, .int .i64 ino, .int .i64 src, .int .i64 off, .int .i64 fr, .int .i64 n, .string nm, .string da], 80)] ((w.alloc (.cells #[ptg g] 97)).alloc (.cells #[.int .i64 2, .int .i64 ino, .int .i64 src, .int .i64 off, .int .i64 fr, .int .i64 n, .string nm, .string da] 80)) from Bxs.two w _ _ _ _)
 have hf : l.length <= 900 := Nat.le_trans hc.most (by decide)
 have hgW := (HB.out.below.block _ (lt_of_obj hg)).trans hg
 have hSW := h.below HB.out.below
 have hFW := hF.below HB.out.below
 have hsb := HB.out.obj 0 rfl
 have hcb := HB.out.obj 1 rfl
 have HA := hid (show Calls prog 118 _ ((w.alloc (.cells #[ptg g] 97)).alloc (.cells #[.int .i64 2, .int .i64 ino, .int .i64 src, .int .i64 off, .int .i64 fr, .int .i64 n, .string nm, .string da] 80)) (StD (Fs.createC env l ino ⟨2, n, ⟨#[]⟩, ⟨#[]⟩, []⟩) g p ((w.alloc (.cells #[ptg g] 97)).alloc (.cells #[.int .i64 2, .int .i64 ino, .int .i64 src, .int .i64 off, .int .i64 fr, .int .i64 n, .string nm, .string da] 80))) from sCreate_any g p m l ino 2 n ⟨#[]⟩ ((w.alloc (.cells #[ptg g] 97)).alloc (.cells #[.int .i64 2, .int .i64 ino, .int .i64 src, .int .i64 off, .int .i64 fr, .int .i64 n, .string nm, .string da] 80)) hgW hSW hf)
 clear hgW hSW hFW hsb hcb hg h hF _hp hc hf _hq
 show Calls prog 53 _ w (StD (Fs.createC env l ino ⟨2, n, ⟨#[]⟩, ⟨#[]⟩, []⟩) g p w)
 obtain ⟨R, hR⟩ : ∃ R, Fs.createC env l ino ⟨2, n, ⟨#[]⟩, ⟨#[]⟩, []⟩ = R := ⟨_, rfl⟩
 rw [hR] at HA |-
 clear hR
 go_enter func53, ntmps53
 go_wp2_with fail
 refine HA.out.mono ?_
 rintro e w2 ⟨rfl, hP⟩
 have HPx := hid (hP.from HB.out.below)
 clear hP
 dsimp only
 go_wp2_with fail
 go_ret
 exact ⟨rfl, HPx.out⟩
theorem sDo3_any (ino src off fr n : Int) (nm da : ByteArray) (_hq : CmdOk (⟨3, ino, src, off, fr, n, nm, da⟩ : Fs.Cmd)) (hg : w.heap[g]? = some (.cells #[ptg p, pv m] 192 (0, 0))) (h : Sv w m l) (hF : Fo w p f) (_hp : Okc f.l) (hc : Okc l) :
  Calls prog 53 #[ptg g, .agg #[.int .i64 3, .int .i64 ino, .int .i64 src, .int .i64 off, .int .i64 fr, .int .i64 n, .string nm, .string da]] w (StD (Fs.doC env f.l l (⟨3, ino, src, off, fr, n, nm, da⟩ : Fs.Cmd)) g p w) := by
 have HB := hid (show Bxs w [(w.heap.size, #[ptg g], 97), (w.heap.size + 1, #[.int .i64 3, .int .i64 ino, .int .i64 src, .int .i64 off, .int .i64 fr, .int .i64 n, .string nm, .string da], 80)] ((w.alloc (.cells #[ptg g] 97)).alloc (.cells #[.int .i64 3, .int .i64 ino, .int .i64 src, .int .i64 off, .int .i64 fr, .int .i64 n, .string nm, .string da] 80)) from Bxs.two w _ _ _ _)
 have hf : l.length <= 900 := Nat.le_trans hc.most (by decide)
 have hgW := (HB.out.below.block _ (lt_of_obj hg)).trans hg
 have hSW := h.below HB.out.below
 have hFW := hF.below HB.out.below
 have hsb := HB.out.obj 0 rfl
 have hcb := HB.out.obj 1 rfl
 have HA := hid (show Calls prog 118 _ ((w.alloc (.cells #[ptg g] 97)).alloc (.cells #[.int .i64 3, .int .i64 ino, .int .i64 src, .int .i64 off, .int .i64 fr, .int .i64 n, .string nm, .string da] 80)) (StD (Fs.createC env l ino ⟨3, 511, ⟨#[]⟩, da, []⟩) g p ((w.alloc (.cells #[ptg g] 97)).alloc (.cells #[.int .i64 3, .int .i64 ino, .int .i64 src, .int .i64 off, .int .i64 fr, .int .i64 n, .string nm, .string da] 80))) from sCreate_any g p m l ino 3 511 da ((w.alloc (.cells #[ptg g] 97)).alloc (.cells #[.int .i64 3, .int .i64 ino, .int .i64 src, .int .i64 off, .int .i64 fr, .int .i64 n, .string nm, .string da] 80)) hgW hSW hf)
 clear hgW hSW hFW hsb hcb hg h hF _hp hc hf _hq
 show Calls prog 53 _ w (StD (Fs.createC env l ino ⟨3, 511, ⟨#[]⟩, da, []⟩) g p w)
 obtain ⟨R, hR⟩ : ∃ R, Fs.createC env l ino ⟨3, 511, ⟨#[]⟩, da, []⟩ = R := ⟨_, rfl⟩
 rw [hR] at HA |-
 clear hR
 go_enter func53, ntmps53
 go_wp2_with fail
 refine HA.out.mono ?_
 rintro e w2 ⟨rfl, hP⟩
 have HPx := hid (hP.from HB.out.below)
 clear hP
 dsimp only
 go_wp2_with fail
 go_ret
 exact ⟨rfl, HPx.out⟩
theorem sDo4_any (ino src off fr n : Int) (nm da : ByteArray) (hq : CmdOk (⟨4, ino, src, off, fr, n, nm, da⟩ : Fs.Cmd)) (hg : w.heap[g]? = some (.cells #[ptg p, pv m] 192 (0, 0))) (h : Sv w m l) (hF : Fo w p f) (_hp : Okc f.l) (hc : Okc l) :
  Calls prog 53 #[ptg g, .agg #[.int .i64 4, .int .i64 ino, .int .i64 src, .int .i64 off, .int .i64 fr, .int .i64 n, .string nm, .string da]] w (StD (Fs.doC env f.l l (⟨4, ino, src, off, fr, n, nm, da⟩ : Fs.Cmd)) g p w) := by
 have HB := hid (show Bxs w [(w.heap.size, #[ptg g], 97), (w.heap.size + 1, #[.int .i64 4, .int .i64 ino, .int .i64 src, .int .i64 off, .int .i64 fr, .int .i64 n, .string nm, .string da], 80)] ((w.alloc (.cells #[ptg g] 97)).alloc (.cells #[.int .i64 4, .int .i64 ino, .int .i64 src, .int .i64 off, .int .i64 fr, .int .i64 n, .string nm, .string da] 80)) from Bxs.two w _ _ _ _)
 have hf : l.length <= 900 := Nat.le_trans hc.most (by decide)
 have hgW := (HB.out.below.block _ (lt_of_obj hg)).trans hg
 have hSW := h.below HB.out.below
 have hFW := hF.below HB.out.below
 have hsb := HB.out.obj 0 rfl
 have hcb := HB.out.obj 1 rfl
 have HA := hid (sEnter_any g p m l (⟨4, ino, src, off, fr, n, nm, da⟩ : Fs.Cmd) hq ((w.alloc (.cells #[ptg g] 97)).alloc (.cells #[.int .i64 4, .int .i64 ino, .int .i64 src, .int .i64 off, .int .i64 fr, .int .i64 n, .string nm, .string da] 80)) hgW hSW hf)
 clear hgW hSW hFW hsb hcb hg h hF _hp hc hf hq
 show Calls prog 53 _ w (StD (Fs.enterC env l (⟨4, ino, src, off, fr, n, nm, da⟩ : Fs.Cmd)) g p w)
 obtain ⟨R, hR⟩ : ∃ R, Fs.enterC env l (⟨4, ino, src, off, fr, n, nm, da⟩ : Fs.Cmd) = R := ⟨_, rfl⟩
 rw [hR] at HA |-
 clear hR
 go_enter func53, ntmps53
 go_wp2_with fail
 refine HA.out.mono ?_
 rintro e w2 ⟨rfl, hP⟩
 have HPx := hid (hP.from HB.out.below)
 clear hP
 dsimp only
 go_wp2_with fail
 go_ret
 exact ⟨rfl, HPx.out⟩
theorem sDo5_any (ino src off fr n : Int) (nm da : ByteArray) (hq : CmdOk (⟨5, ino, src, off, fr, n, nm, da⟩ : Fs.Cmd)) (hg : w.heap[g]? = some (.cells #[ptg p, pv m] 192 (0, 0))) (h : Sv w m l) (hF : Fo w p f) (_hp : Okc f.l) (hc : Okc l) :
  Calls prog 53 #[ptg g, .agg #[.int .i64 5, .int .i64 ino, .int .i64 src, .int .i64 off, .int .i64 fr, .int .i64 n, .string nm, .string da]] w (StD (Fs.doC env f.l l (⟨5, ino, src, off, fr, n, nm, da⟩ : Fs.Cmd)) g p w) := by
 have HB := hid (show Bxs w [(w.heap.size, #[ptg g], 97), (w.heap.size + 1, #[.int .i64 5, .int .i64 ino, .int .i64 src, .int .i64 off, .int .i64 fr, .int .i64 n, .string nm, .string da], 80)] ((w.alloc (.cells #[ptg g] 97)).alloc (.cells #[.int .i64 5, .int .i64 ino, .int .i64 src, .int .i64 off, .int .i64 fr, .int .i64 n, .string nm, .string da] 80)) from Bxs.two w _ _ _ _)
 have hf : l.length <= 900 := Nat.le_trans hc.most (by decide)
 have hgW := (HB.out.below.block _ (lt_of_obj hg)).trans hg
 have hSW := h.below HB.out.below
 have hFW := hF.below HB.out.below
 have hsb := HB.out.obj 0 rfl
 have hcb := HB.out.obj 1 rfl
 have HA := hid (alter_any 121 #[.pointer (some ⟨w.heap.size + 1, 0, none⟩)] (λ_ _ => by kernel_rfl) (λx => Nd.withoutE x nm) g p m l src ((w.alloc (.cells #[ptg g] 97)).alloc (.cells #[.int .i64 5, .int .i64 ino, .int .i64 src, .int .i64 off, .int .i64 fr, .int .i64 n, .string nm, .string da] 80)) hgW hSW hf hq.src0 hq.src1 (λx hR a c W hb hE => cWout_any (w.heap.size + 1) (⟨5, ino, src, off, fr, n, nm, da⟩ : Fs.Cmd) x.kind x.mode x.data x.target x.ents hR a c W ((hb.block _ (lt_of_obj hcb)).trans hcb) hE) (λx hR h0 => wout_right hR h0))
 clear hgW hSW hFW hsb hcb hg h hF _hp hc hf hq
 show Calls prog 53 _ w (StD (Fs.alter l src (λx => Nd.withoutE x nm)) g p w)
 obtain ⟨R, hR⟩ : ∃ R, Fs.alter l src (λx => Nd.withoutE x nm) = R := ⟨_, rfl⟩
 rw [hR] at HA |-
 clear hR
 go_enter func53, ntmps53
 go_wp2_with fail
 refine HA.out.mono ?_
 rintro e w2 ⟨rfl, hP⟩
 have HPx := hid (hP.from HB.out.below)
 clear hP
 dsimp only
 go_wp2_with fail
 go_ret
 exact ⟨rfl, HPx.out⟩
theorem sDo6_any (ino src off fr n : Int) (nm da : ByteArray) (hq : CmdOk (⟨6, ino, src, off, fr, n, nm, da⟩ : Fs.Cmd)) (hg : w.heap[g]? = some (.cells #[ptg p, pv m] 192 (0, 0))) (h : Sv w m l) (hF : Fo w p f) (_hp : Okc f.l) (hc : Okc l) :
  Calls prog 53 #[ptg g, .agg #[.int .i64 6, .int .i64 ino, .int .i64 src, .int .i64 off, .int .i64 fr, .int .i64 n, .string nm, .string da]] w (StD (Fs.doC env f.l l (⟨6, ino, src, off, fr, n, nm, da⟩ : Fs.Cmd)) g p w) := by
 have HB := hid (show Bxs w [(w.heap.size, #[ptg g], 97), (w.heap.size + 1, #[.int .i64 6, .int .i64 ino, .int .i64 src, .int .i64 off, .int .i64 fr, .int .i64 n, .string nm, .string da], 80)] ((w.alloc (.cells #[ptg g] 97)).alloc (.cells #[.int .i64 6, .int .i64 ino, .int .i64 src, .int .i64 off, .int .i64 fr, .int .i64 n, .string nm, .string da] 80)) from Bxs.two w _ _ _ _)
 have hf : l.length <= 900 := Nat.le_trans hc.most (by decide)
 have hgW := (HB.out.below.block _ (lt_of_obj hg)).trans hg
 have hSW := h.below HB.out.below
 have hFW := hF.below HB.out.below
 have hsb := HB.out.obj 0 rfl
 have hcb := HB.out.obj 1 rfl
 have HA := hid (alter_any 123 #[.pointer (some ⟨w.heap.size + 1, 0, none⟩)] (λ_ _ => by kernel_rfl) (Fs.modeR env n) g p m l ino ((w.alloc (.cells #[ptg g] 97)).alloc (.cells #[.int .i64 6, .int .i64 ino, .int .i64 src, .int .i64 off, .int .i64 fr, .int .i64 n, .string nm, .string da] 80)) hgW hSW hf hq.ino0 hq.ino1 (λx hR a c W hb hE => cMode_any (w.heap.size + 1) (⟨6, ino, src, off, fr, n, nm, da⟩ : Fs.Cmd) x.kind x.mode x.data x.target x.ents hR a c W ((hb.block _ (lt_of_obj hcb)).trans hcb) hE) (λx hR h0 => mode_right h0))
 clear hgW hSW hFW hsb hcb hg h hF _hp hc hf hq
 show Calls prog 53 _ w (StD (Fs.alter l ino (Fs.modeR env n)) g p w)
 obtain ⟨R, hR⟩ : ∃ R, Fs.alter l ino (Fs.modeR env n) = R := ⟨_, rfl⟩
 rw [hR] at HA |-
 clear hR
 go_enter func53, ntmps53
 go_wp2_with fail
 refine HA.out.mono ?_
 rintro e w2 ⟨rfl, hP⟩
 have HPx := hid (hP.from HB.out.below)
 clear hP
 dsimp only
 go_wp2_with fail
 go_ret
 exact ⟨rfl, HPx.out⟩
theorem sDo7_any (ino src off fr n : Int) (nm da : ByteArray) (hq : CmdOk (⟨7, ino, src, off, fr, n, nm, da⟩ : Fs.Cmd)) (hg : w.heap[g]? = some (.cells #[ptg p, pv m] 192 (0, 0))) (h : Sv w m l) (hF : Fo w p f) (_hp : Okc f.l) (hc : Okc l) :
  Calls prog 53 #[ptg g, .agg #[.int .i64 7, .int .i64 ino, .int .i64 src, .int .i64 off, .int .i64 fr, .int .i64 n, .string nm, .string da]] w (StD (Fs.doC env f.l l (⟨7, ino, src, off, fr, n, nm, da⟩ : Fs.Cmd)) g p w) := by
 have HB := hid (show Bxs w [(w.heap.size, #[ptg g], 97), (w.heap.size + 1, #[.int .i64 7, .int .i64 ino, .int .i64 src, .int .i64 off, .int .i64 fr, .int .i64 n, .string nm, .string da], 80)] ((w.alloc (.cells #[ptg g] 97)).alloc (.cells #[.int .i64 7, .int .i64 ino, .int .i64 src, .int .i64 off, .int .i64 fr, .int .i64 n, .string nm, .string da] 80)) from Bxs.two w _ _ _ _)
 have hf : l.length <= 900 := Nat.le_trans hc.most (by decide)
 have hgW := (HB.out.below.block _ (lt_of_obj hg)).trans hg
 have hSW := h.below HB.out.below
 have hFW := hF.below HB.out.below
 have hsb := HB.out.obj 0 rfl
 have hcb := HB.out.obj 1 rfl
 have HA := hid (alterBytes_any 126 #[.pointer (some ⟨w.heap.size + 1, 0, none⟩)] (λ_ _ => by kernel_rfl) (λs => env.trunc s n) g p m l ino ((w.alloc (.cells #[ptg g] 97)).alloc (.cells #[.int .i64 7, .int .i64 ino, .int .i64 src, .int .i64 off, .int .i64 fr, .int .i64 n, .string nm, .string da] 80)) hgW hSW hf hq.ino0 hq.ino1 (λs hs W hb => cTrunc_any (w.heap.size + 1) (⟨7, ino, src, off, fr, n, nm, da⟩ : Fs.Cmd) s W ((hb.block _ (lt_of_obj hcb)).trans hcb)) (λs hs h0 => env_ok.trunc _ _ h0))
 clear hgW hSW hFW hsb hcb hg h hF _hp hc hf hq
 show Calls prog 53 _ w (StD (Fs.alter l ino (Fs.bytesR λs => env.trunc s n)) g p w)
 obtain ⟨R, hR⟩ : ∃ R, Fs.alter l ino (Fs.bytesR λs => env.trunc s n) = R := ⟨_, rfl⟩
 rw [hR] at HA |-
 clear hR
 go_enter func53, ntmps53
 go_wp2_with fail
 refine HA.out.mono ?_
 rintro e w2 ⟨rfl, hP⟩
 have HPx := hid (hP.from HB.out.below)
 clear hP
 dsimp only
 go_wp2_with fail
 go_ret
 exact ⟨rfl, HPx.out⟩
theorem sDo8_any (ino src off fr n : Int) (nm da : ByteArray) (hq : CmdOk (⟨8, ino, src, off, fr, n, nm, da⟩ : Fs.Cmd)) (hg : w.heap[g]? = some (.cells #[ptg p, pv m] 192 (0, 0))) (h : Sv w m l) (hF : Fo w p f) (_hp : Okc f.l) (hc : Okc l) :
  Calls prog 53 #[ptg g, .agg #[.int .i64 8, .int .i64 ino, .int .i64 src, .int .i64 off, .int .i64 fr, .int .i64 n, .string nm, .string da]] w (StD (Fs.doC env f.l l (⟨8, ino, src, off, fr, n, nm, da⟩ : Fs.Cmd)) g p w) := by
 have HB := hid (show Bxs w [(w.heap.size, #[ptg g], 97), (w.heap.size + 1, #[.int .i64 8, .int .i64 ino, .int .i64 src, .int .i64 off, .int .i64 fr, .int .i64 n, .string nm, .string da], 80)] ((w.alloc (.cells #[ptg g] 97)).alloc (.cells #[.int .i64 8, .int .i64 ino, .int .i64 src, .int .i64 off, .int .i64 fr, .int .i64 n, .string nm, .string da] 80)) from Bxs.two w _ _ _ _)
 have hf : l.length <= 900 := Nat.le_trans hc.most (by decide)
 have hgW := (HB.out.below.block _ (lt_of_obj hg)).trans hg
 have hSW := h.below HB.out.below
 have hFW := hF.below HB.out.below
 have hsb := HB.out.obj 0 rfl
 have hcb := HB.out.obj 1 rfl
 have HA := hid (alterBytes_any 128 #[.pointer (some ⟨w.heap.size + 1, 0, none⟩)] (λ_ _ => by kernel_rfl) (λs => env.put s off da) g p m l ino ((w.alloc (.cells #[ptg g] 97)).alloc (.cells #[.int .i64 8, .int .i64 ino, .int .i64 src, .int .i64 off, .int .i64 fr, .int .i64 n, .string nm, .string da] 80)) hgW hSW hf hq.ino0 hq.ino1 (λs hs W hb => cPut_any (w.heap.size + 1) (⟨8, ino, src, off, fr, n, nm, da⟩ : Fs.Cmd) hq s hs W ((hb.block _ (lt_of_obj hcb)).trans hcb)) (λs hs h0 => env_ok.put _ _ _ hs h0))
 clear hgW hSW hFW hsb hcb hg h hF _hp hc hf hq
 show Calls prog 53 _ w (StD (Fs.alter l ino (Fs.bytesR λs => env.put s off da)) g p w)
 obtain ⟨R, hR⟩ : ∃ R, Fs.alter l ino (Fs.bytesR λs => env.put s off da) = R := ⟨_, rfl⟩
 rw [hR] at HA |-
 clear hR
 go_enter func53, ntmps53
 go_wp2_with fail
 refine HA.out.mono ?_
 rintro e w2 ⟨rfl, hP⟩
 have HPx := hid (hP.from HB.out.below)
 clear hP
 dsimp only
 go_wp2_with fail
 go_ret
 exact ⟨rfl, HPx.out⟩
theorem sDo9_any (ino src off fr n : Int) (nm da : ByteArray) (hq : CmdOk (⟨9, ino, src, off, fr, n, nm, da⟩ : Fs.Cmd)) (hg : w.heap[g]? = some (.cells #[ptg p, pv m] 192 (0, 0))) (h : Sv w m l) (hF : Fo w p f) (hp : Okc f.l) (hc : Okc l) :
  Calls prog 53 #[ptg g, .agg #[.int .i64 9, .int .i64 ino, .int .i64 src, .int .i64 off, .int .i64 fr, .int .i64 n, .string nm, .string da]] w (StD (Fs.doC env f.l l (⟨9, ino, src, off, fr, n, nm, da⟩ : Fs.Cmd)) g p w) := by
 have HB := hid (show Bxs w [(w.heap.size, #[ptg g], 97), (w.heap.size + 1, #[.int .i64 9, .int .i64 ino, .int .i64 src, .int .i64 off, .int .i64 fr, .int .i64 n, .string nm, .string da], 80)] ((w.alloc (.cells #[ptg g] 97)).alloc (.cells #[.int .i64 9, .int .i64 ino, .int .i64 src, .int .i64 off, .int .i64 fr, .int .i64 n, .string nm, .string da] 80)) from Bxs.two w _ _ _ _)
 have hf : l.length <= 900 := Nat.le_trans hc.most (by decide)
 have hgW := (HB.out.below.block _ (lt_of_obj hg)).trans hg
 have hSW := h.below HB.out.below
 have hFW := hF.below HB.out.below
 have hsb := HB.out.obj 0 rfl
 have hcb := HB.out.obj 1 rfl
 have HA := hid (alterBytes_any 129 #[.pointer (some ⟨w.heap.size, 0, none⟩), .pointer (some ⟨w.heap.size + 1, 0, none⟩)] (λ_ _ => by kernel_rfl) (Fs.cloneR env f.l (⟨9, ino, src, off, fr, n, nm, da⟩ : Fs.Cmd)) g p m l ino ((w.alloc (.cells #[ptg g] 97)).alloc (.cells #[.int .i64 9, .int .i64 ino, .int .i64 src, .int .i64 off, .int .i64 fr, .int .i64 n, .string nm, .string da] 80)) hgW hSW hf hq.ino0 hq.ino1 (λs hs W hb => cClone_any w.heap.size (w.heap.size + 1) g p (pv m) f (⟨9, ino, src, off, fr, n, nm, da⟩ : Fs.Cmd) hq s hs W ((hb.block _ (lt_of_obj hsb)).trans hsb) ((hb.block _ (lt_of_obj hcb)).trans hcb) ((hb.block _ (lt_of_obj hgW)).trans hgW) (hFW.below hb) hp) (λs hs h0 => clone_few s hs h0))
 clear hgW hSW hFW hsb hcb hg h hF hp hc hf hq
 show Calls prog 53 _ w (StD (Fs.alter l ino (Fs.bytesR (Fs.cloneR env f.l (⟨9, ino, src, off, fr, n, nm, da⟩ : Fs.Cmd)))) g p w)
 obtain ⟨R, hR⟩ : ∃ R, Fs.alter l ino (Fs.bytesR (Fs.cloneR env f.l (⟨9, ino, src, off, fr, n, nm, da⟩ : Fs.Cmd))) = R := ⟨_, rfl⟩
 rw [hR] at HA |-
 clear hR
 go_enter func53, ntmps53
 go_wp2_with fail
 refine HA.out.mono ?_
 rintro e w2 ⟨rfl, hP⟩
 have HPx := hid (hP.from HB.out.below)
 clear hP
 dsimp only
 go_wp2_with fail
 go_ret
 exact ⟨rfl, HPx.out⟩
theorem sDo10_any (ino src off fr n : Int) (nm da : ByteArray) (hq : CmdOk (⟨10, ino, src, off, fr, n, nm, da⟩ : Fs.Cmd)) (hg : w.heap[g]? = some (.cells #[ptg p, pv m] 192 (0, 0))) (h : Sv w m l) (hF : Fo w p f) (_hp : Okc f.l) (hc : Okc l) :
  Calls prog 53 #[ptg g, .agg #[.int .i64 10, .int .i64 ino, .int .i64 src, .int .i64 off, .int .i64 fr, .int .i64 n, .string nm, .string da]] w (StD (Fs.doC env f.l l (⟨10, ino, src, off, fr, n, nm, da⟩ : Fs.Cmd)) g p w) := by
 have HB := hid (show Bxs w [(w.heap.size, #[ptg g], 97), (w.heap.size + 1, #[.int .i64 10, .int .i64 ino, .int .i64 src, .int .i64 off, .int .i64 fr, .int .i64 n, .string nm, .string da], 80)] ((w.alloc (.cells #[ptg g] 97)).alloc (.cells #[.int .i64 10, .int .i64 ino, .int .i64 src, .int .i64 off, .int .i64 fr, .int .i64 n, .string nm, .string da] 80)) from Bxs.two w _ _ _ _)
 have hf : l.length <= 900 := Nat.le_trans hc.most (by decide)
 have hgW := (HB.out.below.block _ (lt_of_obj hg)).trans hg
 have hSW := h.below HB.out.below
 have hFW := hF.below HB.out.below
 have hsb := HB.out.obj 0 rfl
 have hcb := HB.out.obj 1 rfl
 have HA := hid (sRemove_any g p m l ino ((w.alloc (.cells #[ptg g] 97)).alloc (.cells #[.int .i64 10, .int .i64 ino, .int .i64 src, .int .i64 off, .int .i64 fr, .int .i64 n, .string nm, .string da] 80)) hgW hSW hf hq.ino0 hq.ino1)
 clear hgW hSW hFW hsb hcb hg h hF _hp hc hf hq
 show Calls prog 53 _ w (StD (Fs.removeC l ino) g p w)
 obtain ⟨R, hR⟩ : ∃ R, Fs.removeC l ino = R := ⟨_, rfl⟩
 rw [hR] at HA |-
 clear hR
 go_enter func53, ntmps53
 go_wp2_with fail
 refine HA.out.mono ?_
 rintro e w2 ⟨rfl, hP⟩
 have HPx := hid (hP.from HB.out.below)
 clear hP
 dsimp only
 go_wp2_with fail
 go_ret
 exact ⟨rfl, HPx.out⟩
theorem sDoX_any (q : Fs.Cmd) (hg : w.heap[g]? = some (.cells #[ptg p, pv m] 192 (0, 0))) (h : Sv w m l) (h1 : ¬ q.kind = 1) (h2 : ¬ q.kind = 2) (h3 : ¬ q.kind = 3) (h4 : ¬ q.kind = 4) (h5 : ¬ q.kind = 5) (h6 : ¬ q.kind = 6) (h7 : ¬ q.kind = 7) (h8 : ¬ q.kind = 8) (h9 : ¬ q.kind = 9) (h10 : ¬ q.kind = 10) :
  Calls prog 53 #[ptg g, .agg (ccs q)] w (StD (l, 16) g p w) := by
 have HB := hid (show Bxs w [(w.heap.size, #[ptg g], 97), (w.heap.size + 1, ccs q, 80)] ((w.alloc (.cells #[ptg g] 97)).alloc (.cells (ccs q) 80)) from Bxs.two w _ _ _ _)
 have HPx := hid (put1_same hg h HB.out.below)
 clear hg h
 go_enter func53, ntmps53
 go_wp2_with fail
 go_ret
 exact ⟨rfl, HPx.out⟩
theorem sDo_any (q : Fs.Cmd) (hq : CmdOk q) (hg : w.heap[g]? = some (.cells #[ptg p, pv m] 192 (0, 0))) (h : Sv w m l) (hF : Fo w p f) (hp : Okc f.l) (hc : Okc l) :
  Calls prog 53 #[ptg g, .agg (ccs q)] w (StD (Fs.doC env f.l l q) g p w) := by
 by_cases h1 : q.kind = 1
 ·obtain ⟨kd, ino, src, off, fr, n, nm, da⟩ := q; obtain rfl : kd = 1 := h1; exact sDo1_any ino src off fr n nm da hq hg h hF hp hc
 by_cases h2 : q.kind = 2
 ·obtain ⟨kd, ino, src, off, fr, n, nm, da⟩ := q; obtain rfl : kd = 2 := h2; exact sDo2_any ino src off fr n nm da hq hg h hF hp hc
 by_cases h3 : q.kind = 3
 ·obtain ⟨kd, ino, src, off, fr, n, nm, da⟩ := q; obtain rfl : kd = 3 := h3; exact sDo3_any ino src off fr n nm da hq hg h hF hp hc
 by_cases h4 : q.kind = 4
 ·obtain ⟨kd, ino, src, off, fr, n, nm, da⟩ := q; obtain rfl : kd = 4 := h4; exact sDo4_any ino src off fr n nm da hq hg h hF hp hc
 by_cases h5 : q.kind = 5
 ·obtain ⟨kd, ino, src, off, fr, n, nm, da⟩ := q; obtain rfl : kd = 5 := h5; exact sDo5_any ino src off fr n nm da hq hg h hF hp hc
 by_cases h6 : q.kind = 6
 ·obtain ⟨kd, ino, src, off, fr, n, nm, da⟩ := q; obtain rfl : kd = 6 := h6; exact sDo6_any ino src off fr n nm da hq hg h hF hp hc
 by_cases h7 : q.kind = 7
 ·obtain ⟨kd, ino, src, off, fr, n, nm, da⟩ := q; obtain rfl : kd = 7 := h7; exact sDo7_any ino src off fr n nm da hq hg h hF hp hc
 by_cases h8 : q.kind = 8
 ·obtain ⟨kd, ino, src, off, fr, n, nm, da⟩ := q; obtain rfl : kd = 8 := h8; exact sDo8_any ino src off fr n nm da hq hg h hF hp hc
 by_cases h9 : q.kind = 9
 ·obtain ⟨kd, ino, src, off, fr, n, nm, da⟩ := q; obtain rfl : kd = 9 := h9; exact sDo9_any ino src off fr n nm da hq hg h hF hp hc
 by_cases h10 : q.kind = 10
 ·obtain ⟨kd, ino, src, off, fr, n, nm, da⟩ := q; obtain rfl : kd = 10 := h10; exact sDo10_any ino src off fr n nm da hq hg h hF hp hc
 have hR : Fs.doC env f.l l q = (l, 16) := by
  unfold Fs.doC
  rw [if_neg (by omega), if_neg h4, if_neg h5, if_neg h6, if_neg h7, if_neg h8, if_neg h9, if_neg h10]
 rw [hR]
 exact sDoX_any q hg h h1 h2 h3 h4 h5 h6 h7 h8 h9 h10
end
theorem cDo_any {g p : Nat} {f : Fs.FS} {l : List Fs.Item} {w : World} (h : Stg w g p f l) (q : Fs.Cmd) (hq : CmdOk q) : Calls prog 53 #[ptg g, .agg (ccs q)] w λe w' => e = .returned (.int .i64 (Fs.doC env f.l l q).2) /\ Stg w' g p f (Fs.doC env f.l l q).1 /\ Turn g w w' := by
 have h0 := h
 obtain ⟨⟨m, hg, hS⟩, hF, hc, hp⟩ := h
 refine (sDo_any q hq hg hS hF hp hc).mono ?_
 rintro e w' ⟨e1, m', e2, e3, e4⟩
 exact ⟨e1, ⟨⟨m', e2, e3⟩, h0.fo e4 hF, hc.doC q, hp⟩, e4⟩
def Newst (f : Fs.FS) (l : List Fs.Item) (w : World) (e : Ending) (w' : World) : Prop := ∃ g p, e = .returned (ptg g) /\ Stg w' g p f l /\ w.heap.size <= g /\ w.heap.size <= p /\ Below w.heap.size w w'
theorem cResume_any {q : Nat} {f : Fs.FS} {m : Option Nat} {l : List Fs.Item} {w : World} (hF : Fo w q f) (hS : Sv w m l) (hp : Okc f.l) (hc : Okc l) : Calls prog 50 #[ptg q, pv m] w (Newst f l w) := by
 have HC := hid (qCopy_any hF)
 have HS := hid (λW (hb : Below w.heap.size w W) => hS.below hb)
 clear hF hS
 go_enter func50, ntmps50
 go_wp2_with fail
 refine HC.out.mono ?_
 rintro e w1 ⟨p, rfl, hF, hge, hb⟩
 have HX := hid (And.intro hF (And.intro hge hb))
 clear hF hge hb
 dsimp only
 go_wp2_with fail
 go_ret
 have hb1 := below_one w1 (.cells #[ptg p, pv m] 192)
 exact ⟨w1.heap.size, p, rfl, ⟨⟨m, heap_alloc_new _ _, (HS.out _ HX.out.2.2).below hb1⟩, HX.out.1.below hb1, hc, hp⟩, HX.out.2.2.size, HX.out.2.1, HX.out.2.2.trans (hb1.mono HX.out.2.2.size)⟩
theorem cNew_any {q : Nat} {f : Fs.FS} {w : World} (hF : Fo w q f) (hp : Okc f.l) : Calls prog 49 #[ptg q] w (Newst f f.l w) := by
 have HM := hid (qMap_any hF)
 have HR := hid (λm (hS : Sv w m f.l) => cResume_any hF hS hp hp)
 clear hF
 go_enter func49, ntmps49
 go_wp2_with fail
 refine HM.out.mono ?_
 rintro e w1 ⟨m, rfl, hS, rfl⟩
 have HR := hid (HR.out m hS)
 clear hS
 dsimp only
 go_wp2_with fail
 refine HR.out.mono ?_
 rintro e w2 ⟨g, p, rfl, hx⟩
 have HX := hid hx
 clear hx
 dsimp only
 go_wp2_with fail
 go_ret
 exact ⟨g, p, rfl, HX.out⟩
theorem cMap_any {g p : Nat} {f : Fs.FS} {l : List Fs.Item} {w : World} (h : Stg w g p f l) : Calls prog 51 #[ptg g] w (Mapp l w) := by
 obtain ⟨⟨m, hg, hS⟩, _⟩ := h
 have g1 : w.cell? ⟨g, 1, none⟩ = some (pv m) := cell_obj hg 1
 have HS := hid hS
 clear hg hS
 go_enter func51, ntmps51
 go_wp2_with fail
 go_ret
 exact ⟨m, rfl, HS.out, rfl⟩
end Go.Proofs.YtgcgnolmdkkocaaGreatDoor
namespace Go.Proofs.YtgcgnolmdkkocaaGreatDoor
open Go.RowKit Go.Less
attribute [local go_sem 9000] sem_eql sem_neq
def sameC (x y : Fs.Cmd) : Bool := (x.kind == y.kind) && (x.ino == y.ino) && (x.src == y.src) && (x.off == y.off) && (x.from_ == y.from_) && (x.n == y.n) && alike x.name y.name && alike x.data y.data
theorem sameC_iff {x y : Fs.Cmd} : sameC x y = true ↔ x = y := by
 obtain ⟨a, b, c, d, e, f, g, h⟩ := x
 obtain ⟨a', b', c', d', e', f', g', h'⟩ := y
 unfold sameC
 simp [alike_eq, and_assoc]
def czf : List (Nat × Nat × Bool) := [(3, 0, true), (3, 1, true), (3, 2, true), (3, 3, true), (3, 4, true), (3, 5, true), (9, 6, true), (9, 7, true)]
theorem fields80 : (prog.fieldsOf 80).toList.map (λf => (f.type, f.offset, decide (f.name ≠ "_"))) = czf := by kernel_rfl
theorem partC0 (W : World) (x : Fs.Cmd) : (part 3 (ccs x) 0).run prog W = .ok (.int .i64 x.kind) W := by
 simp [part, Tryz.isAgg3, Tryz.sizeOf3]
theorem partC1 (W : World) (x : Fs.Cmd) : (part 3 (ccs x) 1).run prog W = .ok (.int .i64 x.ino) W := by
 simp [part, Tryz.isAgg3, Tryz.sizeOf3]
theorem partC2 (W : World) (x : Fs.Cmd) : (part 3 (ccs x) 2).run prog W = .ok (.int .i64 x.src) W := by
 simp [part, Tryz.isAgg3, Tryz.sizeOf3]
theorem partC3 (W : World) (x : Fs.Cmd) : (part 3 (ccs x) 3).run prog W = .ok (.int .i64 x.off) W := by
 simp [part, Tryz.isAgg3, Tryz.sizeOf3]
theorem partC4 (W : World) (x : Fs.Cmd) : (part 3 (ccs x) 4).run prog W = .ok (.int .i64 x.from_) W := by
 simp [part, Tryz.isAgg3, Tryz.sizeOf3]
theorem partC5 (W : World) (x : Fs.Cmd) : (part 3 (ccs x) 5).run prog W = .ok (.int .i64 x.n) W := by
 simp [part, Tryz.isAgg3, Tryz.sizeOf3]
theorem partC6 (W : World) (x : Fs.Cmd) : (part 9 (ccs x) 6).run prog W = .ok (.string x.name) W := by
 simp [part, Tryz.isAgg9, Tryz.sizeOf9]
theorem partC7 (W : World) (x : Fs.Cmd) : (part 9 (ccs x) 7).run prog W = .ok (.string x.data) W := by
 simp [part, Tryz.isAgg9, Tryz.sizeOf9]
theorem eq_fieldsC (W : World) (fs : List Field) (h : fs.map (λf => (f.type, f.offset, decide (f.name ≠ "_"))) = czf) (x y : Fs.Cmd) : (Op.eqFields 9999 (ccs x) (ccs y) fs).run prog W = .ok (sameC x y) W := by
 unfold czf at h
 obtain ⟨f0, fs, rfl, h0, h⟩ := List.map_eq_cons_iff.1 h
 obtain ⟨f1, fs, rfl, h1, h⟩ := List.map_eq_cons_iff.1 h
 obtain ⟨f2, fs, rfl, h2, h⟩ := List.map_eq_cons_iff.1 h
 obtain ⟨f3, fs, rfl, h3, h⟩ := List.map_eq_cons_iff.1 h
 obtain ⟨f4, fs, rfl, h4, h⟩ := List.map_eq_cons_iff.1 h
 obtain ⟨f5, fs, rfl, h5, h⟩ := List.map_eq_cons_iff.1 h
 obtain ⟨f6, fs, rfl, h6, h⟩ := List.map_eq_cons_iff.1 h
 obtain ⟨f7, fs, rfl, h7, h⟩ := List.map_eq_cons_iff.1 h
 obtain rfl := List.map_eq_nil_iff.1 h
 simp only [Prod.mk.injEq, decide_eq_true_eq] at h0 h1 h2 h3 h4 h5 h6 h7
 obtain ⟨t0, o0, n0⟩ := h0
 obtain ⟨t1, o1, n1⟩ := h1
 obtain ⟨t2, o2, n2⟩ := h2
 obtain ⟨t3, o3, n3⟩ := h3
 obtain ⟨t4, o4, n4⟩ := h4
 obtain ⟨t5, o5, n5⟩ := h5
 obtain ⟨t6, o6, n6⟩ := h6
 obtain ⟨t7, o7, n7⟩ := h7
 rw [fld _ _ _ _ _ n0 W (by rw [t0, o0]; exact partC0 W x) (by rw [t0, o0]; exact partC0 W y) (by rw [t0]; exact run_equalIn_int W 9998 3 .i64 .i64 _ _ underlying3)]
 rw [fld _ _ _ _ _ n1 W (by rw [t1, o1]; exact partC1 W x) (by rw [t1, o1]; exact partC1 W y) (by rw [t1]; exact run_equalIn_int W 9998 3 .i64 .i64 _ _ underlying3)]
 rw [fld _ _ _ _ _ n2 W (by rw [t2, o2]; exact partC2 W x) (by rw [t2, o2]; exact partC2 W y) (by rw [t2]; exact run_equalIn_int W 9998 3 .i64 .i64 _ _ underlying3)]
 rw [fld _ _ _ _ _ n3 W (by rw [t3, o3]; exact partC3 W x) (by rw [t3, o3]; exact partC3 W y) (by rw [t3]; exact run_equalIn_int W 9998 3 .i64 .i64 _ _ underlying3)]
 rw [fld _ _ _ _ _ n4 W (by rw [t4, o4]; exact partC4 W x) (by rw [t4, o4]; exact partC4 W y) (by rw [t4]; exact run_equalIn_int W 9998 3 .i64 .i64 _ _ underlying3)]
 rw [fld _ _ _ _ _ n5 W (by rw [t5, o5]; exact partC5 W x) (by rw [t5, o5]; exact partC5 W y) (by rw [t5]; exact run_equalIn_int W 9998 3 .i64 .i64 _ _ underlying3)]
 rw [fld _ _ _ _ _ n6 W (by rw [t6, o6]; exact partC6 W x) (by rw [t6, o6]; exact partC6 W y) (by rw [t6]; exact run_equalIn_string W 9998 9 _ _ underlying9), alike_is]
 rw [fld _ _ _ _ _ n7 W (by rw [t7, o7]; exact partC7 W x) (by rw [t7, o7]; exact partC7 W y) (by rw [t7]; exact run_equalIn_string W 9998 9 _ _ underlying9), alike_is]
 unfold sameC
 cases (x.kind == y.kind) <;> cases (x.ino == y.ino) <;> cases (x.src == y.src) <;> cases (x.off == y.off) <;> cases (x.from_ == y.from_) <;> cases (x.n == y.n) <;> cases alike x.name y.name <;> cases alike x.data y.data <;> simp [Op.eqFields]
theorem eq80 (W : World) (x y : Fs.Cmd) : (Op.equalIn 10000 80 (.agg (ccs x)) (.agg (ccs y))).run prog W = .ok (sameC x y) W := by
 rw [show (10000 : Nat) = 9999 + 1 from rfl, run_equalIn_struct W 9999 80 _ _ (by kernel_rfl) (by kernel_rfl)]
 exact eq_fieldsC W _ fields80 x y
theorem eql_cmd80 (W : World) (a1 b1 c1 d1 e1 f1 : Int) (g1 h1 : ByteArray) (a2 b2 c2 d2 e2 f2 : Int) (g2 h2 : ByteArray) : (binOp .eql 80 (.agg #[.int .i64 a1, .int .i64 b1, .int .i64 c1, .int .i64 d1, .int .i64 e1, .int .i64 f1, .string g1, .string h1]) (.agg #[.int .i64 a2, .int .i64 b2, .int .i64 c2, .int .i64 d2, .int .i64 e2, .int .i64 f2, .string g2, .string h2])).run prog W = .ok (.bool (sameC ⟨a1, b1, c1, d1, e1, f1, g1, h1⟩ ⟨a2, b2, c2, d2, e2, f2, g2, h2⟩)) W := by
 rw [run_eql_struct, eq80 W ⟨a1, b1, c1, d1, e1, f1, g1, h1⟩ ⟨a2, b2, c2, d2, e2, f2, g2, h2⟩]; rfl
theorem namesName_any (k : Int) (w : World) : Calls prog 178 #[.int .i64 k] w λe w' => e = .returned (.bool (k == 4 || k == 5)) /\ w' = w := by
 by_cases h4 : k = 4
 ·subst h4
  go_enter func178, ntmps178
  go_wp2_with fail
  go_ret
  exact ⟨rfl, rfl⟩
 ·go_enter func178, ntmps178
  go_wp2_with fail
  go_ret
  exact ⟨rfl, rfl⟩
theorem namesData_any (k : Int) (w : World) : Calls prog 179 #[.int .i64 k] w λe w' => e = .returned (.bool (k == 3 || k == 8)) /\ w' = w := by
 by_cases h4 : k = 3
 ·subst h4
  go_enter func179, ntmps179
  go_wp2_with fail
  go_ret
  exact ⟨rfl, rfl⟩
 ·go_enter func179, ntmps179
  go_wp2_with fail
  go_ret
  exact ⟨rfl, rfl⟩
theorem size180 : (prog.info? 180).map (·.size) = some 5 := by kernel_rfl
theorem size80 : (prog.info? 80).map (·.size) = some 8 := by kernel_rfl
theorem results_nums {fn : Func} {p : Tmp} (h : fn.results = #[.cell p 180]) (tmps : Array Value) (w : World) (g : Nat) (a b c d e : Value)
  (hp : tmps.getD p undef = .pointer (some ⟨g, 0, none⟩)) (hg : w.heap[g]? = some (.cells #[a, b, c, d, e] 180 (0, 0))) :
  (results fn tmps).run prog w = .ok (.agg #[a, b, c, d, e]) w :=
 results_cell_row (P := prog) h _ _ g 180 #[a, b, c, d, e] (0, 0) _ hp hg underlying180 rfl size180
theorem results_cmd {fn : Func} {p : Tmp} (h : fn.results = #[.cell p 80]) (tmps : Array Value) (w : World) (g : Nat) (a b c d e f x y : Value)
  (hp : tmps.getD p undef = .pointer (some ⟨g, 0, none⟩)) (hg : w.heap[g]? = some (.cells #[a, b, c, d, e, f, x, y] 80 (0, 0))) :
  (results fn tmps).run prog w = .ok (.agg #[a, b, c, d, e, f, x, y]) w :=
 results_cell_row (P := prog) h _ _ g 80 #[a, b, c, d, e, f, x, y] (0, 0) _ hp hg underlying80 rfl size80
theorem results_cmd2 {fn : Func} {p u : Tmp} (h : fn.results = #[.cell p 80, .tmp u]) (tmps : Array Value) (w : World) (g : Nat) (a b c d e f x y : Value)
  (hp : tmps.getD p undef = .pointer (some ⟨g, 0, none⟩)) (hg : w.heap[g]? = some (.cells #[a, b, c, d, e, f, x, y] 80 (0, 0))) :
  (results fn tmps).run prog w = .ok (.tuple #[.agg #[a, b, c, d, e, f, x, y], tmps.getD u undef]) w := by
 rw [results_cell_tmp h, hp]
 simp [asAddr, Result.andThen, run_loadVar_row (P := prog) w g 80 80 #[a, b, c, d, e, f, x, y] (0, 0) _ hg underlying80 rfl size80]
abbrev zns : Array Value := #[.int .i64 0, .int .i64 0, .int .i64 0, .int .i64 0, .int .i64 0]
abbrev zcc : Array Value := #[.int .i64 0, .int .i64 0, .int .i64 0, .int .i64 0, .int .i64 0, .int .i64 0, .string ⟨#[]⟩, .string ⟨#[]⟩]
abbrev nms (a b c d e : Int) : Array Value := #[.int .i64 a, .int .i64 b, .int .i64 c, .int .i64 d, .int .i64 e]
section
variable {w : World} {L : List Bo} {W : World}
theorem Bxs.c8 (h : Bxs w L W) (i : Nat) {p : Nat} {a b c d e f g x : Value} {t : TypeId} (hi : L[i]? = some (p, #[a, b, c, d, e, f, g, x], t)) : W.cell? ⟨p, 0, none⟩ = some a /\ W.cell? ⟨p, 1, none⟩ = some b /\ W.cell? ⟨p, 2, none⟩ = some c /\ W.cell? ⟨p, 3, none⟩ = some d /\ W.cell? ⟨p, 4, none⟩ = some e /\ W.cell? ⟨p, 5, none⟩ = some f /\ W.cell? ⟨p, 6, none⟩ = some g /\ W.cell? ⟨p, 7, none⟩ = some x :=
 ⟨h.cell i hi 0, h.cell i hi 1, h.cell i hi 2, h.cell i hi 3, h.cell i hi 4, h.cell i hi 5, h.cell i hi 6, h.cell i hi 7⟩
end
theorem numbersOf_any (q : Fs.Cmd) (w : World) : Calls prog 101 #[.agg (ccs q)] w λe w' => e = .returned (.agg (nms q.ino q.src q.off q.from_ q.n)) /\ Below w.heap.size w w' := by
 have HB := hid (show Bxs w [(w.heap.size, ccs q, 80), (w.heap.size + 1, zns, 180)] ((w.alloc (.cells (ccs q) 80)).alloc (.cells zns 180)) from Bxs.two w _ _ _ _)
 go_enter func101, ntmps101
 go_wp2_with (first | (refine store_bx HB.out 1 rfl 180 _ _ rfl rfl #[.int .i64 q.ino, .int .i64 q.src, .int .i64 q.off, .int .i64 q.from_, .int .i64 q.n] rfl rfl (by kernel_rfl) rfl rfl (by decide) (by decide) ?_; intro w9 hS hK9 hbS hsS; have HBS := hid hS; clear hS hK9 hbS hsS) | fail)
 refine bodyPost_ret_by (results_nums rfl _ _ (w.heap.size + 1) _ _ _ _ _ rfl (HBS.out.obj 1 rfl)) rfl ?_
 exact ⟨rfl, HBS.out.below⟩
theorem ofNumbers_any (k a b c d e : Int) (w : World) : Calls prog 177 #[.int .i64 k, .agg (nms a b c d e)] w λr w' => r = .returned (.agg (ccs ⟨k, a, b, c, d, e, ⟨#[]⟩, ⟨#[]⟩⟩)) /\ Below w.heap.size w w' := by
 have HB := hid (show Bxs w [(w.heap.size, nms a b c d e, 180), (w.heap.size + 1, zcc, 80)] ((w.alloc (.cells (nms a b c d e) 180)).alloc (.cells zcc 80)) from Bxs.two w _ _ _ _)
 go_enter func177, ntmps177
 go_wp2_with (first | (refine store_bx HB.out 1 rfl 80 _ _ rfl rfl #[.int .i64 k, .int .i64 a, .int .i64 b, .int .i64 c, .int .i64 d, .int .i64 e, .string ⟨#[]⟩, .string ⟨#[]⟩] rfl rfl (by kernel_rfl) rfl rfl (by decide) (by decide) ?_; intro w9 hS hK9 hbS hsS; have HBS := hid hS; clear hS hK9 hbS hsS) | fail)
 refine bodyPost_ret_by (results_cmd rfl _ _ (w.heap.size + 1) _ _ _ _ _ _ _ _ rfl (HBS.out.obj 1 rfl)) rfl ?_
 exact ⟨rfl, HBS.out.below⟩
end Go.Proofs.YtgcgnolmdkkocaaGreatDoor
