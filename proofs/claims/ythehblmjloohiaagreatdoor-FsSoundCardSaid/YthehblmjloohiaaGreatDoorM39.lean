/- Layer 11, a part of the proofs: no statement of its own. -/
import Derived.Test.YthehblmjloohiaaGreatDoorM38
namespace Go.Proofs.YthehblmjloohiaaGreatDoor
set_option maxRecDepth 100000
open Go.RowKit Go.Less Go.Maps
open T8 (pv Dg)
attribute [local go_sem 9000] sem_eql sem_neq
theorem doE_step {f : Fs.FS} (G : Fs.Good env f) (hb : f.next ≤ 2147483646) (o : Fs.Op) : Fs.Good env (Fs.doE env f o).1 ∧ (Fs.doE env f o).1.next ≤ f.next + 1 := by
 unfold Fs.doE
 cases ha : Fs.act env f o with
 | error e => exact ⟨G, by show f.next ≤ f.next + 1; omega⟩
 | ok g =>
  obtain ⟨h1, h2⟩ := Fs.act_good env_ok G (by omega) ha
  refine ⟨h1, ?_⟩
  show g.next ≤ f.next + 1
  omega
theorem turn_below {g : Nat} {w0 w w' : World} (h : Below w0.heap.size w0 w) (ht : Turn g w w') (hg : w0.heap.size ≤ g) : Below w0.heap.size w0 w' :=
 ⟨ht.os.trans h.os, ht.tape.trans h.tape, ht.output.trans h.output, Nat.le_trans h.size ht.size, fun k hk => (ht.block k (Nat.lt_of_lt_of_le hk h.size) (by omega)).trans (h.block k hk)⟩
theorem Turn.of_below {g : Nat} {w w' : World} (h : Below w.heap.size w w') : Turn g w w' := (Turn.refl g w).below h
def Didf (f : Fs.FS) (o : Fs.Op) (g : Nat) (w : World) (e : Ending) (w' : World) : Prop := e = .returned (.int .i64 (Fs.doE env f o).2) ∧ Fo w' g (Fs.doE env f o).1 ∧ Turn g w w' ∧ ∀ c, Fs.act env f o = .error c → c ≠ 0
theorem qDo_any {g : Nat} {f : Fs.FS} {w : World} (h : Fo w g f) (G : Fs.Good env f) (hb : f.next ≤ 2147483646) {o : Fs.Op} (hO : OpOk o) : Calls Tryz.prog 15 #[ptg g, ovp o] w (Didf f o g w) := by
 have hF := h
 obtain ⟨m, hg, hS⟩ := h
 refine (pDo_any g m f.next f.l o w hS hg G.toHalf hb hO).mono ?_
 intro e w' hd
 unfold Didf Fs.doE
 unfold DoneP at hd
 cases ha : Fs.act env ⟨f.l, f.next⟩ o with
 | error c =>
  rw [ha] at hd
  obtain ⟨h0, h1, h2⟩ := hd
  exact ⟨h1, hF.below h2, Turn.of_below h2, fun c2 h3 => by injection h3 with h3; rw [← h3]; exact h0⟩
 | ok g2 =>
  rw [ha] at hd
  obtain ⟨h1, m2, h2, h3, h4⟩ := hd
  exact ⟨h1, ⟨m2, h2, h3⟩, h4, fun c2 h5 => by cases h5⟩
def doneF (f : Fs.FS) (l : List Fs.Op) : Fs.FS := l.foldl (fun f o => (Fs.doE env f o).1) f
theorem doneF_more {f : Fs.FS} {l : List Fs.Op} {k : Nat} (h : k < l.length) : doneF f (l.take (k + 1)) = (Fs.doE env (doneF f (l.take k)) (l.getD k op0)).1 := by
 unfold doneF
 rw [List.take_succ_eq_append_getElem h, List.foldl_append, List.getD, List.getElem?_eq_getElem h]
 rfl
theorem doneF_good {f : Fs.FS} (G : Fs.Good env f) : ∀ (l : List Fs.Op), f.next + l.length ≤ 2147483646 → Fs.Good env (doneF f l) ∧ (doneF f l).next ≤ f.next + l.length := by
 intro l
 induction l generalizing f with
 | nil => intro _; exact ⟨G, by show f.next ≤ f.next + ((0 : Nat) : Int); omega⟩
 | cons o l ih =>
  intro h
  rw [List.length_cons] at h ⊢
  have h1 := doE_step G (by omega) o
  have h2 := ih h1.1 (by omega)
  exact ⟨h2.1, by have := h2.2; show (doneF (Fs.doE env f o).1 l).next ≤ _; omega⟩
theorem done_take {l : List Fs.Op} (h : l.length ≤ 1000) (k : Nat) : Fs.Good env (doneF Fs.new (l.take k)) ∧ (doneF Fs.new (l.take k)).next ≤ 1002 := by
 have hl : (l.take k).length ≤ 1000 := by rw [List.length_take]; omega
 have := doneF_good (Fs.new_good (E := env)) (l.take k) (by show (2 : Int) + _ ≤ _; omega)
 exact ⟨this.1, by have h2 := this.2; have h3 : Fs.new.next = 2 := rfl; omega⟩
theorem done_all {l : List Fs.Op} (h : l.length ≤ 1000) : Fs.Good env (doneF Fs.new l) ∧ (doneF Fs.new l).next ≤ 1002 := by
 have := done_take h l.length
 rwa [List.take_length] at this
theorem op_cells {o : Fs.Op} {w : World} {b p : Nat} (h : ∀ j v, (ocs o)[j]? = some v → w.cell? ⟨b, p + j, none⟩ = some v) : w.cell? ⟨b, p, none⟩ = some (.int .i64 o.kind) ∧ w.cell? ⟨b, p + 1, none⟩ = some (.string o.a) ∧ w.cell? ⟨b, p + 2, none⟩ = some (.string o.b) ∧ w.cell? ⟨b, p + 3, none⟩ = some (.int .i64 o.off) ∧ w.cell? ⟨b, p + 4, none⟩ = some (.int .i64 o.from_) ∧ w.cell? ⟨b, p + 5, none⟩ = some (.int .i64 o.n) ∧ w.cell? ⟨b, p + 6, none⟩ = some (.string o.data) :=
 ⟨h 0 _ rfl, h 1 _ rfl, h 2 _ rfl, h 3 _ rfl, h 4 _ rfl, h 5 _ rfl, h 6 _ rfl⟩
set_option maxHeartbeats 8000000 in
theorem done_any (a : Option Addr) (n cap : Nat) (l : List Fs.Op) (w : World) (hS : Opr a n l w) (hn : n ≤ 1000) (hD : Dg w) : Calls Tryz.prog 28 #[.slice a n cap] w (Newf (doneF Fs.new l) w) := by
 have hni : (n : Int) ≤ 1000 := by omega
 have HS := Lib.hid (fun W (hb : Below w.heap.size w W) => hS.below hb)
 have HN := Lib.hid hS.count
 have HOk := Lib.hid hS.ok
 have HNew := Lib.hid (qNew_any w hD)
 have hln : l.length ≤ 1000 := by rw [← hS.count]; exact hn
 have HG := Lib.hid (fun k => done_take hln k)
 clear hS hD
 go_enter Tryz.func28, Tryz.ntmps28
 go_wp2_with fail
 refine HNew.out.mono ?_
 rintro e w1 ⟨g, rfl, hF, hg, hb⟩
 have HF := Lib.hid hF
 have HGe := Lib.hid hg
 have HB := Lib.hid hb
 clear hF hg hb HNew
 dsimp only
 go_wp2_with fail
 go_loopw [4] (fun x4 wr => ∃ k : Nat, k ≤ n ∧ x4 = .int .i64 k ∧ Fo wr g (doneF Fs.new (l.take k)) ∧ Below w.heap.size w wr) (fun x4 _ => n - (intOf x4).toNat)
 case atStart => exact ⟨0, Nat.zero_le _, rfl, HF.out, HB.out⟩
 case round =>
  clear HF HB
  obtain ⟨k, hk, rfl, hF, hB⟩ := hrel
  have HF := Lib.hid hF
  have HB := Lib.hid hB
  clear hF hB
  by_cases hlt : k < n
  ·have k0 : (k : Int) < (n : Int) := by omega
   have hk0 : (0 : Int) ≤ (k : Int) := by omega
   have hkl : k < l.length := by rw [← HN.out]; exact hlt
   obtain ⟨b, off, rfl, hc⟩ := (HS.out wr HB.out).cell k hlt
   have HM := Lib.hid (doneF_more (f := Fs.new) hkl)
   have hok := HOk.out (l.getD k op0) (by rw [List.getD, List.getElem?_eq_getElem hkl]; exact List.getElem_mem hkl)
   have hGk := HG.out k
   have HDo := Lib.hid (qDo_any HF.out hGk.1 (by omega) hok)
   obtain ⟨c0, c1, c2, c3, c4, c5, c6⟩ := op_cells hc
   clear hc hok hGk
   unfold Didf at HDo
   generalize l.getD k op0 = o at *
   obtain ⟨okd, oa, ob, oo, og, on, od⟩ := o
   dsimp only at c0 c1 c2 c3 c4 c5 c6 HDo
   go_wp2_with fail
   refine HDo.out.mono ?_
   rintro e w2 ⟨rfl, hF2, hT2, -⟩
   have HX := Lib.hid (And.intro hF2 (turn_below HB.out hT2 HGe.out))
   clear hF2 hT2 c0 c1 c2 c3 c4 c5 c6
   dsimp only
   go_wp2_with fail
   go_roundw
   case rel => exact ⟨k + 1, by omega, by go_num, by rw [HM.out]; exact HX.out.1, HX.out.2⟩
   case measure => simp [intOf]; omega
  ·obtain rfl : k = n := by omega
   have hge : ¬ ((k : Int) < (k : Int)) := by omega
   go_wp2_with fail
   go_ret
   exact ⟨g, rfl, by have := HF.out; rwa [HN.out, List.take_length] at this, HGe.out, HB.out⟩
end Go.Proofs.YthehblmjloohiaaGreatDoor

namespace Go.Proofs.YthehblmjloohiaaGreatDoor
set_option maxRecDepth 100000
open Go.RowKit Go.Less Go.Maps
open T8 (pv Dg)
attribute [local go_sem 9000] sem_eql sem_neq
def tA : ByteArray := ⟨#[47, 97]⟩
def tB : ByteArray := ⟨#[47, 98]⟩
def awO1 : Fs.Op := ⟨1, tA, ⟨#[]⟩, 0, 0, 420, ⟨#[]⟩⟩
def awO2 : Fs.Op := ⟨8, tA, ⟨#[]⟩, 1, 0, 0, ⟨#[120]⟩⟩
def awO3 : Fs.Op := ⟨4, tA, tB, 0, 0, 0, ⟨#[]⟩⟩
def awO4 : Fs.Op := ⟨5, tA, ⟨#[]⟩, 0, 0, 0, ⟨#[]⟩⟩
def awO5 : Fs.Op := ⟨0, ⟨#[]⟩, ⟨#[]⟩, 0, 0, 0, ⟨#[]⟩⟩
def awN (s : ByteArray) : Nd.Node := ⟨1, 420, s, ⟨#[]⟩, []⟩
def awD (es : List En) : Nd.Node := ⟨2, 493, ⟨#[]⟩, ⟨#[]⟩, es⟩
def nA : ByteArray := ⟨#[97]⟩
def nB : ByteArray := ⟨#[98]⟩
def aw1 : Fs.FS := ⟨[(1, awD [(nA, 2)]), (2, awN ⟨#[]⟩)], 3⟩
def aw2 : Fs.FS := ⟨[(1, awD [(nA, 2)]), (2, awN ⟨#[0, 120]⟩)], 3⟩
def aw3 : Fs.FS := ⟨[(1, awD [(nA, 2), (nB, 2)]), (2, awN ⟨#[0, 120]⟩)], 3⟩
def aw4 : Fs.FS := ⟨[(1, awD [(nB, 2)]), (2, awN ⟨#[0, 120]⟩)], 3⟩
theorem fs_eq {f g : Fs.FS} {c d : Int} (h1 : f.l = g.l) (h2 : f.next = g.next) (h3 : c = d) : (f, c) = (g, d) := by
 obtain ⟨fl, fn⟩ := f
 obtain ⟨gl, gn⟩ := g
 dsimp only at h1 h2
 rw [h1, h2, h3]
theorem is1 : Fs.doE env Fs.new awO1 = (aw1, 0) := fs_eq (by decide +kernel) (by decide +kernel) (by decide +kernel)
theorem is2 : Fs.doE env aw1 awO2 = (aw2, 0) := fs_eq (by decide +kernel) (by decide +kernel) (by decide +kernel)
theorem is3 : Fs.doE env aw2 awO3 = (aw3, 0) := fs_eq (by decide +kernel) (by decide +kernel) (by decide +kernel)
theorem is4 : Fs.doE env aw3 awO4 = (aw4, 0) := fs_eq (by decide +kernel) (by decide +kernel) (by decide +kernel)
theorem is5 : Fs.doE env aw4 awO5 = (aw4, 16) := fs_eq (by decide +kernel) (by decide +kernel) (by decide +kernel)
theorem isB : findR aw4.l tB = (2, awN ⟨#[0, 120]⟩, 0) := by decide +kernel
theorem isA : findR aw4.l tA = (0, Nd.none0, 4) := by decide +kernel
theorem isR : readR aw4.l tB 0 9 = ([0, 120], 0) := by decide +kernel
theorem did {g : Nat} {f f2 : Fs.FS} {c : Int} {w : World} (h : Fo w g f) (G : Fs.Good env f) (hb : f.next ≤ 2147483646) {o : Fs.Op} (hO : OpOk o) (he : Fs.doE env f o = (f2, c)) : Calls Tryz.prog 15 #[ptg g, ovp o] w fun e w' => e = .returned (.int .i64 c) ∧ Fo w' g f2 ∧ Turn g w w' := by
 have := qDo_any h G hb hO
 unfold Didf at this
 rw [he] at this
 exact this.mono fun e w' h => ⟨h.1, h.2.1, h.2.2.1⟩
theorem good_step {f f2 : Fs.FS} {c : Int} {o : Fs.Op} (G : Fs.Good env f) (hb : f.next ≤ 2147483646) (he : Fs.doE env f o = (f2, c)) : Fs.Good env f2 := by
 have := (doE_step G hb o).1
 rw [he] at this
 exact this
theorem g1 : Fs.Good env aw1 := good_step Fs.new_good (by decide) is1
theorem g2 : Fs.Good env aw2 := good_step g1 (by decide) is2
theorem g3 : Fs.Good env aw3 := good_step g2 (by decide) is3
theorem g4 : Fs.Good env aw4 := good_step g3 (by decide) is4
theorem ok_small {o : Fs.Op} (hk : 0 ≤ o.kind ∧ o.kind ≤ 100) (ha : o.a.size ≤ 100) (hb : o.b.size ≤ 100) (hd : o.data.size ≤ 100) (h1 : o.off ≤ 100) (h2 : o.from_ ≤ 100) (h3 : o.n ≤ 1000) : OpOk o :=
 ⟨WalkArith.wf_i64 (by omega), by omega, by omega, by omega, by omega, by omega, by omega⟩
set_option maxHeartbeats 8000000 in
theorem awake_any (w : World) (hD : Dg w) : Calls Tryz.prog 10 #[] w fun e w' => e = .returned (.bool true) ∧ Below w.heap.size w w' := by
 have HNew := Lib.hid (qNew_any w hD)
 have D1 := Lib.hid (fun g W (h : Fo W g Fs.new) => did h Fs.new_good (by decide) (ok_small (o := awO1) (by decide) (by decide) (by decide) (by decide) (by decide) (by decide) (by decide)) is1)
 have D2 := Lib.hid (fun g W (h : Fo W g aw1) => did h g1 (by decide) (ok_small (o := awO2) (by decide) (by decide) (by decide) (by decide) (by decide) (by decide) (by decide)) is2)
 have D3 := Lib.hid (fun g W (h : Fo W g aw2) => did h g2 (by decide) (ok_small (o := awO3) (by decide) (by decide) (by decide) (by decide) (by decide) (by decide) (by decide)) is3)
 have D4 := Lib.hid (fun g W (h : Fo W g aw3) => did h g3 (by decide) (ok_small (o := awO4) (by decide) (by decide) (by decide) (by decide) (by decide) (by decide) (by decide)) is4)
 have D5 := Lib.hid (fun g W (h : Fo W g aw4) => did h g4 (by decide) (ok_small (o := awO5) (by decide) (by decide) (by decide) (by decide) (by decide) (by decide) (by decide)) is5)
 have FB := Lib.hid (fun g W (h : Fo W g aw4) => (show Calls Tryz.prog 19 #[ptg g, .string tB] W (Foundy (2, awN ⟨#[0, 120]⟩, 0) W) from isB ▸ qFind_any h tB (by decide)))
 have FA := Lib.hid (fun g W (h : Fo W g aw4) => (show Calls Tryz.prog 19 #[ptg g, .string tA] W (Foundy (0, (⟨0, 0, ⟨#[]⟩, ⟨#[]⟩, []⟩ : Nd.Node), 4) W) from (show Calls Tryz.prog 19 #[ptg g, .string tA] W (Foundy (0, Nd.none0, 4) W) from isA ▸ qFind_any h tA (by decide))))
 have FR := Lib.hid (fun g W (h : Fo W g aw4) => (show Calls Tryz.prog 21 #[ptg g, .string tB, .int .i64 0, .int .i64 9] W (fun e w' => e = .returned (.tuple #[.string ⟨#[0, 120]⟩, .int .i64 0]) ∧ Below W.heap.size W w') from (show Calls Tryz.prog 21 #[ptg g, .string tB, .int .i64 0, .int .i64 9] W (T6.Both ([0, 120], 0) W) from isR ▸ qRead_any h g4.toHalf tB 0 9 (by decide) (by decide) (by decide))))
 have FI := Lib.hid (fun g W (h : Fo W g aw4) => qInos_any h)
 have FN := Lib.hid (fun g W (h : Fo W g aw4) => qNext_any h)
 have FM := Lib.hid (fun g W (h : Fo W g aw4) => qMap_any h)
 have FS := Lib.hid (fun m W (h : Sv W m aw4.l) => (show Calls Tryz.prog 29 #[pv m] W (SoundR true W) from sound_good g4 ▸ pSound_any m aw4.l W h))
 clear hD
 unfold awO1 at D1
 unfold awO2 at D2
 unfold awO3 at D3
 unfold awO4 at D4
 unfold awO5 at D5
 go_enter Tryz.func10, Tryz.ntmps10
 go_wp2_with fail
 refine HNew.out.mono ?_
 rintro e w1 ⟨g, rfl, hF, hg, hb⟩
 have HGe := Lib.hid hg
 have HF := Lib.hid hF
 have HB := Lib.hid hb
 clear hF hg hb HNew
 dsimp only
 go_wp2_with fail
 refine (D1.out g w1 HF.out).mono ?_
 rintro e w2 ⟨rfl, hF, hT⟩
 have HB := Lib.hid (turn_below HB.out hT HGe.out)
 have HF := Lib.hid hF
 clear hF hT D1
 dsimp only
 go_wp2_with fail
 refine (D2.out g w2 HF.out).mono ?_
 rintro e w3 ⟨rfl, hF, hT⟩
 have HB := Lib.hid (turn_below HB.out hT HGe.out)
 have HF := Lib.hid hF
 clear hF hT D2
 dsimp only
 go_wp2_with fail
 refine (D3.out g w3 HF.out).mono ?_
 rintro e w4 ⟨rfl, hF, hT⟩
 have HB := Lib.hid (turn_below HB.out hT HGe.out)
 have HF := Lib.hid hF
 clear hF hT D3
 dsimp only
 go_wp2_with fail
 refine (D4.out g w4 HF.out).mono ?_
 rintro e w5 ⟨rfl, hF, hT⟩
 have HB := Lib.hid (turn_below HB.out hT HGe.out)
 have HF := Lib.hid hF
 clear hF hT D4
 dsimp only
 go_wp2_with fail
 refine (FB.out g w5 HF.out).mono ?_
 rintro e w6 ⟨ea, ec, rfl, -, hb⟩
 unfold awN at *
 have hbx := below_one w6 (.cells #[.int .i64 1, .int .i64 420, .string ⟨#[0, 120]⟩, .string ⟨#[]⟩, .slice ea 0 ec] 43)
 have HB := Lib.hid ((HB.out.trans (hb.mono HB.out.size)).trans (hbx.mono (HB.out.trans (hb.mono HB.out.size)).size))
 have HF := Lib.hid ((HF.out.below hb).below hbx)
 have HC := Lib.hid (show (w6.alloc (.cells #[.int .i64 1, .int .i64 420, .string ⟨#[0, 120]⟩, .string ⟨#[]⟩, .slice ea 0 ec] 43)).cell? ⟨w6.heap.size, 2, none⟩ = some (.string ⟨#[0, 120]⟩) from World.cell?_alloc_new _ _ _ _)
 clear hb hbx FB
 dsimp only
 go_wp2_with fail
 refine (FR.out g _ HF.out).mono ?_
 rintro e w7 ⟨rfl, hb⟩
 have HB := Lib.hid (HB.out.trans (hb.mono HB.out.size))
 have HF := Lib.hid (HF.out.below hb)
 have HC := Lib.hid ((hb.cell (p := ⟨w6.heap.size, 2, none⟩) (block_lt_of_cell HC.out)).trans HC.out)
 clear hb FR
 dsimp only
 go_wp2_with fail
 refine (FA.out g _ HF.out).mono ?_
 rintro e w8 ⟨ea2, ec2, rfl, -, hb⟩
 have hbx := below_one w8 (.cells #[.int .i64 0, .int .i64 0, .string ⟨#[]⟩, .string ⟨#[]⟩, .slice ea2 0 ec2] 43)
 have HB := Lib.hid ((HB.out.trans (hb.mono HB.out.size)).trans (hbx.mono (HB.out.trans (hb.mono HB.out.size)).size))
 have HF := Lib.hid ((HF.out.below hb).below hbx)
 have hc := (hb.cell (p := ⟨w6.heap.size, 2, none⟩) (block_lt_of_cell HC.out)).trans HC.out
 have cc := (hbx.cell (p := ⟨w6.heap.size, 2, none⟩) (block_lt_of_cell hc)).trans hc
 clear hb hbx hc HC FA
 dsimp only
 go_wp2_with fail
 refine (FI.out g _ HF.out).mono ?_
 rintro e w9 ⟨ao, cap, rfl, -, hb⟩
 have HB := Lib.hid (HB.out.trans (hb.mono HB.out.size))
 have HF := Lib.hid (HF.out.below hb)
 clear hb FI cc
 dsimp only
 go_wp2_with fail
 refine (FN.out g _ HF.out).mono ?_
 rintro e w10 ⟨rfl, rfl⟩
 clear FN
 dsimp only
 go_wp2_with fail
 refine (FM.out g _ HF.out).mono ?_
 rintro e w11 ⟨m, rfl, hS, rfl⟩
 have HS := Lib.hid hS
 clear FM hS
 dsimp only
 go_wp2_with fail
 refine (FS.out m _ HS.out).mono ?_
 rintro e w12 ⟨rfl, hb⟩
 have HB := Lib.hid (HB.out.trans (hb.mono HB.out.size))
 have HF := Lib.hid (HF.out.below hb)
 clear hb FS
 dsimp only
 go_wp2_with fail
 refine (D5.out g _ HF.out).mono ?_
 rintro e w13 ⟨rfl, hF, hT⟩
 have HB := Lib.hid (turn_below HB.out hT HGe.out)
 clear hF hT D5
 dsimp only
 go_wp2_with fail
 go_ret
 exact ⟨rfl, HB.out⟩
end Go.Proofs.YthehblmjloohiaaGreatDoor

namespace Go.Proofs.YthehblmjloohiaaGreatDoor
set_option maxRecDepth 100000
open Go.RowKit Go.Less Go.Maps
open T8 (pv Dg)
attribute [local go_sem 9000] sem_eql sem_neq
theorem Turn.ents {g : Nat} {w w' : World} (ht : Turn g w w') {f : Fs.FS} (hF : Fo w g f) {a : Option Addr} {n : Nat} {l : List En} (h : Ents a n l w) : Ents a n l w' := by
 obtain ⟨m, hg, _⟩ := hF
 refine ⟨h.count, fun i hi => ?_⟩
 obtain ⟨b, off, rfl, h0, h1⟩ := h.cell i hi
 have hb : b ≠ g := by
  rintro rfl
  rw [cell_obj hg] at h0 h1
  exact noEnt88 m f.next _ _ _ h0 h1
 exact ⟨b, off, rfl, turn_cell ht h0 hb, turn_cell ht h1 hb⟩
theorem Turn.obj {g : Nat} {w w' : World} (ht : Turn g w w') {p : Nat} {o : Obj} (h : w.heap[p]? = some o) (hp : p ≠ g) : w'.heap[p]? = some o := by
 have hl : p < w.heap.size := (Array.getElem?_eq_some_iff.1 h).1
 exact (ht.block p hl hp).trans h
theorem act7 {f : Fs.FS} {a b : ByteArray} {d : ByteArray} {x y z : Int} {g : Fs.FS} (h : Fs.act env f ⟨7, a, b, x, y, z, d⟩ = .ok g) : ∃ na nb, spl a = some na ∧ spl b = some nb ∧ Fs.rename env f na nb = .ok g := by
 unfold Fs.act at h
 rw [if_neg (by show ¬ ((7 : Int) < 1 ∨ 11 < (7 : Int)); decide)] at h
 cases ha : spl a with
 | none => rw [show env.sp a = none from ha] at h; cases h
 | some na =>
  rw [show env.sp a = some na from ha] at h
  cases hb : spl b with
  | none => rw [show env.sp b = none from hb] at h; cases h
  | some nb => rw [show env.sp b = some nb from hb] at h; exact ⟨na, nb, rfl, rfl, h⟩
theorem act7_of {f : Fs.FS} {a b : ByteArray} {d : ByteArray} {x y z : Int} {na nb : List ByteArray} (ha : spl a = some na) (hb : spl b = some nb) : Fs.act env f ⟨7, a, b, x, y, z, d⟩ = Fs.rename env f na nb := by
 unfold Fs.act
 rw [if_neg (by show ¬ ((7 : Int) < 1 ∨ 11 < (7 : Int)); decide), show env.sp a = some na from ha, show env.sp b = some nb from hb]
 rfl
theorem findR_ok {l : List Fs.Item} {a : ByteArray} {na : List ByteArray} {i : Int} (ha : spl a = some na) (hw : Fs.walk l 1 na = .ok i) : findR l a = (i, Fs.nodeD l i, 0) := by
 unfold findR; rw [ha]; simp only; rw [hw]
theorem findR_code {l : List Fs.Item} {a : ByteArray} (h : (findR l a).2.2 = 0) : ∃ na i, spl a = some na ∧ Fs.walk l 1 na = .ok i := by
 rcases find_cases2 l a with ⟨e, hne, hf⟩ | ⟨ns, i, hs, hw, hf⟩
 ·rw [hf] at h; exact absurd h hne
 ·exact ⟨ns, i, hs, hw⟩
def mvO (a b : ByteArray) : Fs.Op := ⟨7, a, b, 0, 0, 0, ⟨#[]⟩⟩
theorem moves_plain {f g : Fs.FS} (G : Fs.Good env f) (hb : f.next ≤ 2147483646) {a b : ByteArray} (h : Fs.doE env f (mvO a b) = (g, 0)) (hne : Fs.act env f (mvO a b) = .ok g) : ∃ i x, findR f.l a = (i, x, 0) ∧ findR g.l b = (i, x, 0) ∧ (findR g.l a).2.2 ≠ 0 ∧ Fs.doE env g (mvO b a) = (f, 0) := by
 obtain ⟨na, nb, ha, hbb, hr⟩ := act7 hne
 obtain ⟨i, c, d, ps, qs, m, n, M, hw, e⟩ := Fs.rename_met G.toHalf hr
 obtain ⟨h1, h2, h3, h4⟩ := M.back env_ok G (by omega) (spl_right ha) (spl_right hbb)
 subst e
 refine ⟨i, Fs.nodeD f.l i, findR_ok ha hw, ?_, ?_, ?_⟩
 ·rw [findR_ok hbb h1]
  show (i, Fs.nodeD _ i, 0) = _
  have : Fs.nodeD (Fs.enter env (Fs.leave f.l c m) d n i) i = Fs.nodeD f.l i := by unfold Fs.nodeD; rw [h2]
  rw [this]
 ·intro h0
  obtain ⟨na', j, ha', hj⟩ := findR_code h0
  rw [ha] at ha'
  injection ha' with ha'
  subst ha'
  exact h3 j hj
 ·unfold Fs.doE
  rw [show Fs.act env ⟨Fs.enter env (Fs.leave f.l c m) d n i, f.next⟩ (mvO b a) = .ok f from (act7_of hbb ha).trans h4]
theorem doE_cases (f : Fs.FS) (o : Fs.Op) : (∃ c, Fs.act env f o = .error c ∧ Fs.doE env f o = (f, c)) ∨ ∃ g, Fs.act env f o = .ok g ∧ Fs.doE env f o = (g, 0) := by
 unfold Fs.doE
 cases h : Fs.act env f o with
 | error c => exact .inl ⟨c, rfl, rfl⟩
 | ok g => exact .inr ⟨g, rfl, rfl⟩
structure Lw (w : World) (g : Nat) (f : Fs.FS) (W : World) : Prop where
 below : Below w.heap.size w W
 fo : Fo W g f
 ge : w.heap.size ≤ g
theorem Lw.kept {w W W' : World} {g : Nat} {f : Fs.FS} (h : Lw w g f W) (hb : Below W.heap.size W W') : Lw w g f W' := ⟨h.below.trans (hb.mono h.below.size), h.fo.below hb, h.ge⟩
theorem Lw.did {w W W' : World} {g : Nat} {f f2 : Fs.FS} (h : Lw w g f W) (hF : Fo W' g f2) (ht : Turn g W W') : Lw w g f2 W' := ⟨turn_below h.below ht h.ge, hF, h.ge⟩
theorem opok_mv {a b : ByteArray} (ha : a.size ≤ 140737488355328) (hb : b.size ≤ 140737488355328) : OpOk (mvO a b) := ⟨by show (ik 7).wf = true; decide, ha, hb, by show (0 : Nat) ≤ _; omega, by show (0 : Int) ≤ _; decide, by show (0 : Int) ≤ _; decide, by show (0 : Int) ≤ _; decide⟩
end Go.Proofs.YthehblmjloohiaaGreatDoor

namespace Go.Proofs.YthehblmjloohiaaGreatDoor
set_option maxRecDepth 100000
open Go.RowKit Go.Less Go.Maps
open T6
theorem nodeD_data {l : List Fs.Item} {i : Int} {x x' : Nd.Node} (hx : Fs.node l i = some x) (hk : x'.kind = x.kind) (he : x'.ents = x.ents) (j : Int) : (Fs.nodeD (Fs.setL l i x') j).kind = (Fs.nodeD l j).kind ∧ (Fs.nodeD (Fs.setL l i x') j).ents = (Fs.nodeD l j).ents := by
 unfold Fs.nodeD
 rw [Fs.node_set]
 by_cases h : j = i
 ·rw [if_pos h, h, hx]; exact ⟨hk, he⟩
 ·rw [if_neg h]; exact ⟨rfl, rfl⟩
theorem walk_data {l : List Fs.Item} {i : Int} {x x' : Nd.Node} (hx : Fs.node l i = some x) (hk : x'.kind = x.kind) (he : x'.ents = x.ents) : ∀ (ns : List ByteArray) (j : Int), Fs.walk (Fs.setL l i x') j ns = Fs.walk l j ns
 | [], _ => rfl
 | n :: ns, j => by
  obtain ⟨h1, h2⟩ := nodeD_data hx hk he j
  unfold Fs.walk
  rw [h1, h2]
  split
  ·rfl
  ·cases Nd.find (Fs.nodeD l j).ents n with
   | none => rfl
   | some c => exact walk_data hx hk he ns c
theorem findR_data {l : List Fs.Item} {i k : Int} {x x' y : Nd.Node} (hx : Fs.node l i = some x) (hk : x'.kind = x.kind) (he : x'.ents = x.ents) {q : ByteArray} (hf : findR l q = (k, y, 0)) : findR (Fs.setL l i x') q = (k, if k = i then x' else y, 0) := by
 obtain ⟨ns, j, hs, hw⟩ := findR_code (show (findR l q).2.2 = 0 by rw [hf])
 have h1 := findR_ok hs hw
 rw [h1] at hf
 injection hf with e1 e2
 injection e2 with e2 _
 subst e1 e2
 rw [findR_ok hs (by rw [walk_data hx hk he]; exact hw)]
 have : Fs.nodeD (Fs.setL l i x') j = if j = i then x' else Fs.nodeD l j := by
  unfold Fs.nodeD
  rw [Fs.node_set]
  split <;> rfl
 rw [this]
theorem readR_of {l : List Fs.Item} {p : ByteArray} {i : Int} {x : Nd.Node} (hf : findR l p = (i, x, 0)) (h2 : x.kind ≠ 2) (h3 : x.kind ≠ 3) (off n : Int) : readR l p off n = getR x.data.data.toList off n := by
 have hfr : fileR l p = (i, x, 0) := by unfold fileR; rw [hf, if_neg (by simp), if_neg h2, if_neg h3]
 unfold readR
 rw [hfr, if_neg (by simp)]
theorem act9 {f g : Fs.FS} {a : ByteArray} {n : Int} {b d : ByteArray} {x y : Int} (h : Fs.act env f ⟨9, a, b, x, y, n, d⟩ = .ok g) : ∃ na, spl a = some na ∧ Fs.edit f na (fun x => Fs.asked (env.trunc x.data n)) = .ok g := by
 unfold Fs.act at h
 rw [if_neg (by show ¬ ((9 : Int) < 1 ∨ 11 < (9 : Int)); decide)] at h
 cases ha : spl a with
 | none => rw [show env.sp a = none from ha] at h; cases h
 | some na => rw [show env.sp a = some na from ha] at h; exact ⟨na, rfl, h⟩
def trO (a : ByteArray) : Fs.Op := ⟨9, a, ⟨#[]⟩, 0, 0, 5, ⟨#[]⟩⟩
theorem trunc_plain {f g : Fs.FS} (G : Fs.Good env f) {p q : ByteArray} {i k : Int} {x y : Nd.Node} (hp : findR f.l p = (i, x, 0)) (hq : findR f.l q = (k, y, 0)) (hk : x.kind = 1) (h : Fs.act env f (trO p) = .ok g) :
  ∃ s : ByteArray, s.size = 5 ∧ readR g.l p 0 99 = (s.data.toList, 0) ∧ findR g.l q = (k, if k = i then { x with data := s } else y, 0) := by
 obtain ⟨na, ha, he⟩ := act9 h
 obtain ⟨ns, j, hs, hw⟩ := findR_code (show (findR f.l p).2.2 = 0 by rw [hp])
 have h1 := findR_ok hs hw
 rw [h1] at hp
 injection hp with e1 e2
 injection e2 with e2 _
 subst e1
 rw [ha] at hs
 injection hs with hs
 subst hs
 obtain ⟨z, hz, hzD⟩ := G.walk_node hw
 have hzx : z = x := hzD.symm.trans e2
 subst hzx
 unfold Fs.edit at he
 have hfile : Fs.file f.l na = .ok (j, z) := by
  unfold Fs.file
  rw [hw]
  simp only
  rw [hzD, if_neg (by omega), if_neg (by omega)]
 rw [hfile] at he
 simp only at he
 have htr : env.trunc z.data 5 = (lstr (Chk.trunc z.data.data.toList 5), 0) := rfl
 rw [htr] at he
 unfold Fs.asked at he
 rw [if_neg (by simp)] at he
 simp only at he
 injection he with he
 subst he
 have hsz : (lstr (Chk.trunc z.data.data.toList 5)).size = 5 := by rw [lstr_size]; exact Chk.trunc_length _ _
 refine ⟨lstr (Chk.trunc z.data.data.toList 5), hsz, ?_, findR_data (x' := { z with data := lstr (Chk.trunc z.data.data.toList 5) }) hz rfl rfl hq⟩
 have hfp := findR_data (x' := { z with data := lstr (Chk.trunc z.data.data.toList 5) }) hz rfl rfl (h1.trans (by rw [e2]))
 rw [if_pos rfl] at hfp
 rw [readR_of hfp (by show z.kind ≠ 2; omega) (by show z.kind ≠ 3; omega)]
 show getR (Chk.trunc z.data.data.toList 5) 0 99 = (Chk.trunc z.data.data.toList 5, 0)
 unfold getR
 rw [if_neg (by decide)]
 have hl : (Chk.trunc z.data.data.toList 5).length = 5 := Chk.trunc_length _ _
 rw [show (0 : Int).toNat = 0 from rfl, show (99 : Int).toNat = 99 from rfl, Chk.get_take, List.drop_zero, List.take_of_length_le (by omega)]
theorem Turn.trees {g : Nat} {w w' : World} (ht : Turn g w w') {cs : Array Value} {fr : Nat × Nat} (hg : w.heap[g]? = some (.cells cs 91 fr)) : ∀ {t : T8.Tt} {q : Option Nat}, T8.Tree w q t → T8.Tree w' q t
 | .leaf, _, hq => hq
 | .node _ _ _ _, _, ⟨b, pl, pr, e, hc, hk, hv, hl, hr⟩ => ⟨b, pl, pr, e, ht.obj hc (by rintro rfl; rw [hg] at hc; injection hc with hc; injection hc with _ hc _; exact absurd hc (by decide)), hk, hv, ht.trees hg hl, ht.trees hg hr⟩
theorem Turn.maps {g : Nat} {w w' : World} (ht : Turn g w w') {cs : Array Value} {fr : Nat × Nat} (hg : w.heap[g]? = some (.cells cs 91 fr)) {m : Option Nat} {t : T8.Tt} (hm : T8.IsMap w m t) : T8.IsMap w' m t := by
 cases m with
 | none => exact hm
 | some b =>
  obtain ⟨q, h1, h2⟩ := hm
  exact ⟨q, ht.obj h1 (by rintro rfl; rw [hg] at h1; injection h1 with h1; injection h1 with _ h1 _; exact absurd h1 (by decide)), ht.trees hg h2⟩
theorem Turn.dg {g : Nat} {w w' : World} (ht : Turn g w w') {x y : Value} {t : TypeId} (hg : w.heap[g]? = some (.cells #[x, y] t (0, 0))) (h : T8.Dg w) : T8.Dg w' := by
 have n2 : (2 : Nat) ≠ g := by
  rintro rfl
  have h1 := h.k 7 (by decide)
  rw [cell_obj hg 7] at h1
  cases h1
 have n0 : (0 : Nat) ≠ g := by
  rintro rfl
  have h1 := h.i 7 (by decide)
  rw [cell_obj hg 7] at h1
  cases h1
 exact ⟨fun j hj => turn_cell ht (h.k j hj) n2, fun j hj => turn_cell ht (h.i j hj) n0⟩
theorem Sv.turn {g : Nat} {w w' : World} (ht : Turn g w w') {f : Fs.FS} (hF : Fo w g f) {m : Option Nat} {l : List Fs.Item} (h : Sv w m l) : Sv w' m l := by
 obtain ⟨m', hg, _⟩ := hF
 exact ⟨⟨h.rp.sorted, ht.maps hg h.rp.map⟩, h.ok, ht.dg hg h.dg⟩
theorem Fo.turn {g g2 : Nat} {w w' : World} (ht : Turn g w w') {f f2 : Fs.FS} (hF : Fo w g f) (h : Fo w g2 f2) (hne : g2 ≠ g) : Fo w' g2 f2 := by
 obtain ⟨m, h1, h2⟩ := h
 exact ⟨m, ht.obj h1 hne, h2.turn ht hF⟩
theorem ops_at {o : Fs.Op} {w W : World} {b p : Nat} (h : ∀ j v, (ocs o)[j]? = some v → w.cell? ⟨b, p + j, none⟩ = some v) (hb : Below w.heap.size w W) (j : Nat) (v : Value) (hv : (ocs o)[j]? = some v) : W.cell? ⟨b, p + j, none⟩ = some v := (hb.cell (p := ⟨b, p + j, none⟩) (block_lt_of_cell (h j v hv))).trans (h j v hv)
theorem ents_few {f : Fs.FS} (G : Fs.Good env f) (q : ByteArray) : (findR f.l q).2.1.ents.length ≤ 64 := by
 rcases find_cases2 f.l q with ⟨e, hne, hf⟩ | ⟨ns, j, hs, hw, hf⟩
 ·rw [hf]; exact Nat.zero_le _
 ·rw [hf]
  obtain ⟨y, hy, hyD⟩ := G.walk_node hw
  show (Fs.nodeD f.l j).ents.length ≤ 64
  rw [hyD]
  exact (G.right hy).len
theorem alike_self (a : ByteArray) : alike a a = true := alike_eq.2 rfl
end Go.Proofs.YthehblmjloohiaaGreatDoor
