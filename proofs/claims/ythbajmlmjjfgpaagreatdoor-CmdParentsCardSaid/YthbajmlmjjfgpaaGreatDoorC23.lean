/- A part of the proofs. -/
import Derived.Test.YthbajmlmjjfgpaaGreatDoorC22
set_option maxRecDepth 1000000
set_option maxHeartbeats 16000000
open Go.Lib (hid)
open Go.Proofs.Tryz
namespace Go.Proofs.YthbajmlmjjfgpaaGreatDoor
open Go.RowKit Go.Less Go.Maps
open T8 (pv Dg)
attribute [local go_sem 9000] sem_eql sem_neq
structure Turn (g : Nat) (w w' : World) : Prop where
 os : w'.os = w.os
 tape : w'.tape = w.tape
 output : w'.output = w.output
 size : w.heap.size <= w'.heap.size
 block : ∀ k, k < w.heap.size -> k ≠ g -> w'.heap[k]? = w.heap[k]?
def DoneP (r : Except Int Fs.FS) (g : Nat) (w : World) (e : Ending) (w' : World) : Prop := match r with
 | .error c => c ≠ 0 /\ e = .returned (.int .i64 c) /\ Below w.heap.size w w'
 | .ok f => e = .returned (.int .i64 0) /\ ∃ m, w'.heap[g]? = some (.cells #[pv m, .int .i64 f.next] 110 (0, 0)) /\ Sv w' m f.l /\ Turn g w w'
theorem Dg.turn {g : Nat} {w w' : World} {x y : Value} {t : TypeId} (h : Dg w) (hg : w.heap[g]? = some (.cells #[x, y] t (0, 0))) (ho : ∀ k, k ≠ g -> w'.heap[k]? = w.heap[k]?) : Dg w' := by
 have n2 : (3 : Nat) ≠ g := by
  rintro rfl
  have h1 := h.k 7 (by decide)
  rw [cell_obj hg 7] at h1
  cases h1
 have n0 : (2 : Nat) ≠ g := by
  rintro rfl
  have h1 := h.i 7 (by decide)
  rw [cell_obj hg 7] at h1
  cases h1
 exact ⟨λj hj => (World.cell?_of_block (ho 3 n2)).trans (h.k j hj), λj hj => (World.cell?_of_block (ho 2 n0)).trans (h.i j hj)⟩
def Fin9 (Wb W9 : World) (p9 : Nat) (m2 : Option Nat) (n2 : Int) (l2 : List Fs.Item) : Prop := Below Wb.heap.size Wb W9 /\ W9.heap[p9]? = some (.cells #[pv m2, .int .i64 n2] 108 (0, 0)) /\ Sv W9 m2 l2
theorem done_ok {g : Nat} {w W9 W : World} {m m2 : Option Nat} {nx n2 : Int} {l2 : List Fs.Item} (hb : Below w.heap.size w W9) (hg : W9.heap[g]? = some (.cells #[pv m, .int .i64 nx] 110 (0, 0))) (hS : Sv W9 m2 l2) (hW : W = W9.setRow g #[pv m2, .int .i64 n2]) : DoneP (.ok ⟨l2, n2⟩) g w (.returned (.int .i64 0)) W := by
 subst hW
 have ho : ∀ k, k ≠ g -> (W9.setRow g #[pv m2, .int .i64 n2]).heap[k]? = W9.heap[k]? := λk hk => setRow_other _ _ _ _ hk
 refine ⟨rfl, m2, setRow_heap _ _ _ _ _ _ hg, hS.kept (p := g) (T := 110) ⟨⟨_, _, hg⟩, by decide, by decide, ho⟩ (Dg.turn hS.dg hg ho), hb.os, hb.tape, hb.output, by rw [setRow_size]; exact hb.size, λk hk hne => (ho k hne).trans (hb.block k hk)⟩
theorem b_alloc {Wb W : World} (h : Below Wb.heap.size Wb W) (o : Obj) : Below Wb.heap.size Wb (W.alloc o) := h.alloc h.size o
theorem b_set2 {Wb W : World} (h : Below Wb.heap.size Wb W) {p : Nat} (hp : Wb.heap.size <= p) (u v : Value) : Below Wb.heap.size Wb ((W.setCell ⟨p, 0, none⟩ u).setCell ⟨p, 1, none⟩ v) := (h.setCell hp u).setCell hp v
theorem set2_obj {W : World} {p : Nat} {x y : Value} {t : TypeId} (h : W.heap[p]? = some (.cells #[x, y] t (0, 0))) (u v : Value) : ((W.setCell ⟨p, 0, none⟩ u).setCell ⟨p, 1, none⟩ v).heap[p]? = some (.cells #[u, v] t (0, 0)) := by
 have h1 := heap_setCell_same W p 0 #[x, y] t u h
 have h2 := heap_setCell_same (W.setCell ⟨p, 0, none⟩ u) p 1 #[u, y] t v h1
 exact h2
theorem Sv.set2 {W : World} {m : Option Nat} {l : List Fs.Item} {p : Nat} {x y : Value} (h : Sv W m l) (hp : W.heap[p]? = some (.cells #[x, y] 108 (0, 0))) (u v : Value) (h1 : Dg (W.setCell ⟨p, 0, none⟩ u)) (h2 : Dg ((W.setCell ⟨p, 0, none⟩ u).setCell ⟨p, 1, none⟩ v)) : Sv ((W.setCell ⟨p, 0, none⟩ u).setCell ⟨p, 1, none⟩ v) m l :=
 (h.kept (Kept.cell hp (by decide) (by decide) 0 u) h1).kept (Kept.cell (heap_setCell_same W p 0 #[x, y] 108 u hp) (by decide) (by decide) 1 v) h2
def FormR (R : Except Int Fs.FS) (w' : World) (m2 : Option Nat) (n2 z : Int) : Prop := match R with
 | .error c => z = c /\ c ≠ 0
 | .ok f => z = 0 /\ n2 = f.next /\ Sv w' m2 f.l
theorem stated_form {R : Except Int Fs.FS} {w w' : World} {e : Ending} (h : Stated R w e w') : ∃ m2 n2 z, e = .returned (.tuple #[stv m2 n2, .int .i64 z]) /\ Below w.heap.size w w' /\ FormR R w' m2 n2 z := by
 cases R with
 | error c => obtain ⟨h1, h2, h3⟩ := h; exact ⟨none, 0, c, h3, h1, rfl, h2⟩
 | ok f => obtain ⟨h1, m2, h2, h3⟩ := h; exact ⟨m2, f.next, 0, h2, h1, rfl, rfl, h3⟩
def Doing (m : Option Nat) (nx kd : Int) (oa ob : ByteArray) (oo og on : Int) (od : ByteArray) (w : World) (R : Except Int Fs.FS) (gk : Nat) : Prop := ∀ W, Below w.heap.size w W -> Calls prog gk #[stv m nx, .agg #[.int .i64 kd, .string oa, .string ob, .int .i64 oo, .int .i64 og, .int .i64 on, .string od]] W (Stated R W)
def Kinded (m : Option Nat) (nx kd : Int) (oa ob : ByteArray) (oo og on : Int) (od : ByteArray) (w : World) (R : Except Int Fs.FS) : Prop :=
 (fdo kd = none /\ R = .error 16) \/ ∃ gk, fdo kd = some (fnv gk) /\ (∀ args w, (callFunc gk args).run prog w = .ok (.enter gk args) w) /\ (((spl oa).isSome = false /\ R = .error 14) \/ ((spl oa).isSome = true /\
  ((twoB kd = true /\ (spl ob).isSome = false /\ R = .error 14) \/ (twoB kd = true -> (spl ob).isSome = true) /\ Doing m nx kd oa ob oo og on od w R gk)))
theorem pDo_core (g : Nat) (m : Option Nat) (nx : Int) (l : List Fs.Item) (kd : Int) (oa ob : ByteArray) (oo og on : Int) (od : ByteArray) (w : World) (h : Sv w m l) (hg : w.heap[g]? = some (.cells #[pv m, .int .i64 nx] 110 (0, 0))) (hkw : (ik kd).wf = true) (pa : oa.size <= 140737488355328) (pb : ob.size <= 140737488355328) {R : Except Int Fs.FS} (H : Kinded m nx kd oa ob oo og on od w R) :
  Calls prog 31 #[.pointer (some ⟨g, 0, none⟩), .agg #[.int .i64 kd, .string oa, .string ob, .int .i64 oo, .int .i64 og, .int .i64 on, .string od]] w (DoneP R g w) := by
 have HDo := hid doings_any
 have HPa := hid (λW => isPath_any oa W pa)
 have HPb := hid (λW => isPath_any ob W pb)
 have HTw := hid (λW => two_any kd W)
 have HG := hid hg
 have HSv := hid h
 clear hg h pa pb
 have HB := hid (show Bxs w [(w.heap.size, #[.int .i64 kd, .string oa, .string ob, .int .i64 oo, .int .i64 og, .int .i64 on, .string od], 74)] (w.alloc (.cells #[.int .i64 kd, .string oa, .string ob, .int .i64 oo, .int .i64 og, .int .i64 on, .string od] 74)) from Bxs.one w _ _)
 go_enter func31, ntmps31
 go_wp2_with fail
 generalize w.alloc (.cells #[.int .i64 kd, .string oa, .string ob, .int .i64 oo, .int .i64 og, .int .i64 on, .string od] 74) = W0 at HB |-
 have HSx := hid (show ∀ W, Below W0.heap.size W0 W -> W.cell? ⟨w.heap.size, 0, none⟩ = some (.int .i64 kd) /\ Below W0.heap.size W0 W from λW hb => ⟨(HB.out.kept hb).cell 0 rfl 0, hb⟩)
 have hBd := (Below.refl W0.heap.size W0).drew
 rcases H with ⟨hk, hR⟩ | ⟨gk, hk, eg, H⟩
 all_goals
  try unfold fnv at hk
  go_wp2_with fail
  go_region_held3 (λW => W.cell? ⟨w.heap.size, 0, none⟩ = some (.int .i64 kd) /\ Below W0.heap.size W0 W)
   (first | exact HSx.out _ (by assumption))
   (first | (go_at_call 82; (with_reducible refine (HDo.out _).mono ?_); rintro e w1 ⟨mb, rfl, hM, hw1⟩; have hb1 := T8.btrans hw1 (by assumption); have hl := hM.look_ok underlying150 (z := .nilFunc) rfl hkw; rw [hk] at hl; dsimp only [Option.getD, Option.isSome] at hl))
  all_goals
   have HB := hid (HB.out.kept hb1)
   clear hb1 hw1 hBd HSx hM hl
 ·go_wp2_with fail
  go_ret
  rw [hR]
  exact ⟨by decide, rfl, HB.out.below⟩
 rcases H with ⟨ha, hR⟩ | ⟨ha, H⟩
 all_goals
  rw [ha] at HPa
  obtain ⟨b0_0, b0_1, b0_2, b0_3, b0_4, b0_5, b0_6⟩ := HB.out.c7 0 rfl
  go_wp2_with fail
  refine (HPa.out w1).mono ?_
  rintro e w2 ⟨rfl, hb⟩
  have HB := hid (HB.out.kept hb)
  clear b0_0 b0_1 b0_2 b0_3 b0_4 b0_5 b0_6 hb
  obtain ⟨b0_0, b0_1, b0_2, b0_3, b0_4, b0_5, b0_6⟩ := HB.out.c7 0 rfl
  dsimp only
  go_wp2_with fail
 ·go_ret
  rw [hR]
  exact ⟨by decide, rfl, HB.out.below⟩
 have H3 : (twoB kd = true /\ (spl ob).isSome = false /\ R = .error 14) \/ (twoB kd = true /\ (spl ob).isSome = true /\ Doing m nx kd oa ob oo og on od w R gk) \/ (twoB kd = false /\ Doing m nx kd oa ob oo og on od w R gk) := by
  rcases H with h | ⟨h1, h2⟩
  ·exact .inl h
  ·cases ht : twoB kd with
   | true => exact .inr (.inl ⟨rfl, h1 ht, h2⟩)
   | false => exact .inr (.inr ⟨rfl, h2⟩)
 clear H
 rcases H3 with ⟨ht, hb0, hR⟩ | ⟨ht, hb0, hC⟩ | ⟨ht, hC⟩
 all_goals
  rw [ht] at HTw
  try rw [hb0] at HPb
  refine (HTw.out w2).mono ?_
  rintro e w3 ⟨rfl, hb⟩
  have HB := hid (HB.out.kept hb)
  clear b0_0 b0_1 b0_2 b0_3 b0_4 b0_5 b0_6 hb
  obtain ⟨b0_0, b0_1, b0_2, b0_3, b0_4, b0_5, b0_6⟩ := HB.out.c7 0 rfl
  dsimp only
  go_wp2_with fail
  try
   refine (HPb.out w3).mono ?_
   rintro e w3 ⟨rfl, hb⟩
   have HB := hid (HB.out.kept hb)
   clear b0_0 b0_1 b0_2 b0_3 b0_4 b0_5 b0_6 hb
   obtain ⟨b0_0, b0_1, b0_2, b0_3, b0_4, b0_5, b0_6⟩ := HB.out.c7 0 rfl
   dsimp only
   go_wp2_with fail
 ·go_ret
  rw [hR]
  exact ⟨by decide, rfl, HB.out.below⟩
 all_goals
  clear b0_0 b0_1 b0_2 b0_3 b0_4 b0_5 b0_6
  unfold Doing at hC
  have HC := hid hC
  clear hC
  have hgB := (HB.out.below.block _ (lt_of_obj HG.out)).trans HG.out
  have HSx := hid (show ∀ W, Below w3.heap.size w3 W -> W.cell? ⟨g, 0, none⟩ = some (pv m) /\ W.cell? ⟨g, 1, none⟩ = some (.int .i64 nx) /\ W.cell? ⟨w.heap.size, 0, none⟩ = some (.int .i64 kd) /\ W.cell? ⟨w.heap.size, 1, none⟩ = some (.string oa) /\ W.cell? ⟨w.heap.size, 2, none⟩ = some (.string ob) /\ W.cell? ⟨w.heap.size, 3, none⟩ = some (.int .i64 oo) /\ W.cell? ⟨w.heap.size, 4, none⟩ = some (.int .i64 og) /\ W.cell? ⟨w.heap.size, 5, none⟩ = some (.int .i64 on) /\ W.cell? ⟨w.heap.size, 6, none⟩ = some (.string od) /\ Below w3.heap.size w3 W from λW hb => ⟨cell_obj ((hb.block _ (lt_of_obj hgB)).trans hgB) 0, cell_obj ((hb.block _ (lt_of_obj hgB)).trans hgB) 1, (HB.out.kept hb).cell 0 rfl 0, (HB.out.kept hb).cell 0 rfl 1, (HB.out.kept hb).cell 0 rfl 2, (HB.out.kept hb).cell 0 rfl 3, (HB.out.kept hb).cell 0 rfl 4, (HB.out.kept hb).cell 0 rfl 5, (HB.out.kept hb).cell 0 rfl 6, hb⟩)
  clear hgB
  have HWt := hid (show ∀ W, Below w3.heap.size w3 W -> Below w.heap.size w W from λW hb => HB.out.below.trans (hb.mono HB.out.below.size))
  have hBd := (Below.refl w3.heap.size w3).drew
  have hBe := (b_alloc (Below.refl w3.heap.size w3) (.cells #[.pointer none, .int .i64 0] 108)).drew
  have HZe := hid (show (w3.alloc (.cells #[.pointer none, .int .i64 0] 108)).drew.heap[w3.heap.size]? = some (.cells #[.pointer none, .int .i64 0] 108 (0, 0)) from heap_alloc_new _ _)
  have HZd := hid (show (w3.drew.alloc (.cells #[.pointer none, .int .i64 0] 108)).heap[w3.drew.heap.size]? = some (.cells #[.pointer none, .int .i64 0] 108 (0, 0)) from heap_alloc_new _ _)
  go_wp2_with fail
  go_region_held3 (λW => W.cell? ⟨g, 0, none⟩ = some (pv m) /\ W.cell? ⟨g, 1, none⟩ = some (.int .i64 nx) /\ W.cell? ⟨w.heap.size, 0, none⟩ = some (.int .i64 kd) /\ W.cell? ⟨w.heap.size, 1, none⟩ = some (.string oa) /\ W.cell? ⟨w.heap.size, 2, none⟩ = some (.string ob) /\ W.cell? ⟨w.heap.size, 3, none⟩ = some (.int .i64 oo) /\ W.cell? ⟨w.heap.size, 4, none⟩ = some (.int .i64 og) /\ W.cell? ⟨w.heap.size, 5, none⟩ = some (.int .i64 on) /\ W.cell? ⟨w.heap.size, 6, none⟩ = some (.string od) /\ Below w3.heap.size w3 W)
   (first | exact HSx.out _ (by assumption) | exact HSx.out _ (b_alloc (by assumption) _) | exact HSx.out _ (b_set2 (by assumption) (Nat.le_refl _) _ _))
   (first | ((with_reducible refine (HC.out _ (HWt.out _ (by assumption))).mono ?_); intro e w20 h20; obtain ⟨m2, n2, z, rfl, hw20, hR2⟩ := stated_form h20; have HR2 := hid hR2; clear h20 hR2; have hb20 := T8.btrans hw20 (by assumption); try (have HZ6 := hid ((hw20.block _ (lt_of_obj HZe.out)).trans HZe.out); have z0 := cell_obj HZ6.out 0; have z1 := cell_obj HZ6.out 1; have z2 := free_obj HZ6.out 0; have z3 := free_obj HZ6.out 1); try (have HZ6 := hid ((hw20.block _ (lt_of_obj HZd.out)).trans HZd.out); have z0 := cell_obj HZ6.out 0; have z1 := cell_obj HZ6.out 1; have z2 := free_obj HZ6.out 0; have z3 := free_obj HZ6.out 1)))
  all_goals
   cases R with
   | error c =>
    obtain ⟨rfl, hne⟩ := HR2.out
    clear HSx hBd hBe HZd HZe HR2
    have hz : (z == 0) = false := by simp [hne]
    go_wp2_with fail
    go_ret
    first
     |exact ⟨hne, rfl, HWt.out _ (b_set2 hb20 (Nat.le_refl _) _ _)⟩
     |exact ⟨hne, rfl, HWt.out _ (b_alloc hb20 _)⟩
   | ok f =>
    obtain ⟨l2, n9⟩ := f
    obtain ⟨rfl, rfl, hS2⟩ := HR2.out
    dsimp only at hS2
    have HS2 := hid hS2
    clear hS2 HR2
    try clear z0 z1 z2 z3
    first
     |have HF := hid (show Fin9 w3 _ w3.heap.size m2 n2 l2 from ⟨b_set2 hb20 (Nat.le_refl _) (pv m2) (.int .i64 n2), set2_obj HZ6.out _ _, HS2.out.set2 HZ6.out _ _ (HSv.out.dg.below (HWt.out _ (hb20.setCell (Nat.le_refl _) _))) (HSv.out.dg.below (HWt.out _ (b_set2 hb20 (Nat.le_refl _) _ _)))⟩)
      generalize (w20.setCell ⟨w3.heap.size, 0, none⟩ (pv m2)).setCell ⟨w3.heap.size, 1, none⟩ (.int .i64 n2) = W9 at HF |-
      generalize w3.heap.size = p9 at HF |-
     |have HF := hid (show Fin9 w3 _ w20.heap.size m2 n2 l2 from ⟨b_alloc hb20 (.cells #[pv m2, .int .i64 n2] 108), heap_alloc_new _ _, HS2.out.below (below_one _ _)⟩)
      generalize w20.alloc (.cells #[pv m2, .int .i64 n2] 108) = W9 at HF |-
      generalize w20.heap.size = p9 at HF |-
    have u0 : W9.cell? ⟨p9, 0, none⟩ = some (pv m2) := cell_obj HF.out.2.1 0
    have u1 : W9.cell? ⟨p9, 1, none⟩ = some (.int .i64 n2) := cell_obj HF.out.2.1 1
    have HB9 := hid (HWt.out _ HF.out.1)
    have HG9 := hid ((HB9.out.block _ (lt_of_obj HG.out)).trans HG.out)
    clear HSx hBd hBe HZd HZe HWt hb20 hw20
    go_wp2_with (first | (refine wpList_store_row rfl 108 _ _ rfl g #[pv m2, .int .i64 n2] rfl rfl 110 #[pv m, .int .i64 nx] HG9.out (by kernel_rfl) rfl (by rw [<- Array.all_toList]; rfl) ?_) | fail)
    go_ret
    exact done_ok HB9.out HG9.out HF.out.2.2 rfl
end Go.Proofs.YthbajmlmjjfgpaaGreatDoor
namespace Go.Proofs.YthbajmlmjjfgpaaGreatDoor
open Go.RowKit Go.Less
open T8 (pv Dg)
attribute [local go_sem 9000] sem_eql sem_neq
theorem pRename_any (m : Option Nat) (nx : Int) (l : List Fs.Item) (kd : Int) (oa ob : ByteArray) (oo og on : Int) (od : ByteArray) (w : World) (h : Sv w m l) (G : Fs.Half env ⟨l, nx⟩) (hf9 : l.length <= 900) (pa : oa.size <= 140737488355328) {na : List ByteArray} (ha : spl oa = some na) (pb : ob.size <= 140737488355328) {nb : List ByteArray} (hb : spl ob = some nb) : Calls prog 124 #[stv m nx, .agg #[.int .i64 kd, .string oa, .string ob, .int .i64 oo, .int .i64 og, .int .i64 on, .string od]] w (Stated (Fs.rename env ⟨l, nx⟩ na nb) w) := by
 have hlk := Fs.Half.rename_is G env_ok (aa := na) (bs := nb) (spl_right hb)
 dsimp only at hlk
 have HFi := hid (λW (hb : Below w.heap.size w W) => pFind_any m nx l oa W (h.below hb) pa)
 rcases find_cases (l := l) ha with ⟨ec, hne, hw, hf⟩ | ⟨i, hw, hf⟩
 ·have HR := hid (show Fs.rename env ⟨l, nx⟩ na nb = .error ec by rw [hlk, hw])
  have HF := hid (show ∀ W, Below w.heap.size w W -> Calls prog 134 #[stv m nx, .string oa] W (Foundy (0, Nd.none0, ec) W) from λW hb => hf ▸ HFi.out W hb)
  clear HFi hf hw h hlk
  go_enter func124, ntmps124
  go_wp2_with fail
  obtain ⟨W0, hW, HB⟩ := bx3 w m nx kd oa ob oo og on od; rw [hW]; clear hW
  go_wp2_with fail
  refine (HF.out W0 HB.out.below).mono ?_
  rintro e w1 ⟨ea, eb, rfl, hE, hb⟩
  have hbk := hb
  clear hE
  have HB := hid (HB.out.kept hbk)
  clear hbk
  have HB := hid (HB.out.more #[.int .i64 0, .int .i64 0, .string ⟨#[]⟩, .string ⟨#[]⟩, .slice ea 0 eb] 67 rfl)
  dsimp only
  go_wp2_with (first | (refine store_bx HB.out 2 rfl 108 _ _ rfl rfl #[.pointer none, .int .i64 0] rfl rfl (by kernel_rfl) rfl rfl (by decide) (by decide) ?_; intro w2 hS hK hbS hsS; have HBS := hid hS; clear hS hK hbS hsS; have HB := HBS; clear HBS) | fail)
  refine bodyPost_ret_by (results_st rfl _ _ (w.heap.size + 1 + 1) _ _ rfl (HB.out.obj 2 rfl)) rfl ?_
  exact stated_err HR.out hne HB.out.below
 ·rw [hw] at hlk
  simp only at hlk
  have hD9 := dp_nine G hw
  obtain ⟨x, hx, hxD⟩ := G.walk_node hw
  have hXi := (h.ok.node hx).2
  rw [hxD] at hf hlk
  obtain ⟨k, mo, d, t, es⟩ := x
  have hF := show ∀ W, Below w.heap.size w W -> Calls prog 134 #[stv m nx, .string oa] W (Foundy (i, (⟨k, mo, d, t, es⟩ : Nd.Node), 0) W) from λW hb => hf ▸ HFi.out W hb
  clear hf HFi
  dsimp only at hlk
  by_cases hi1 : i = 1
  ·subst hi1
   rw [if_pos rfl] at hlk
   have HR := hid hlk
   have HF := hid hF
   clear hF hlk hD9 hx hxD hXi hw h G
   go_enter func124, ntmps124
   go_wp2_with fail
   obtain ⟨W0, hW, HB⟩ := bx3 w m nx kd oa ob oo og on od; rw [hW]; clear hW
   go_wp2_with fail
   refine (HF.out W0 HB.out.below).mono ?_
   rintro e w1 ⟨a, c, rfl, hE, hb⟩
   have hbk := hb
   clear hE
   have HB := hid (HB.out.kept hbk)
   clear hbk
   have HB := hid (HB.out.more #[.int .i64 k, .int .i64 mo, .string d, .string t, .slice a es.length c] 67 rfl)
   dsimp only
   go_wp2_with (first | (refine store_bx HB.out 2 rfl 108 _ _ rfl rfl #[.pointer none, .int .i64 0] rfl rfl (by kernel_rfl) rfl rfl (by decide) (by decide) ?_; intro w2 hS hK hbS hsS; have HBS := hid hS; clear hS hK hbS hsS; have HB := HBS; clear HBS) | fail)
   refine bodyPost_ret_by (results_st rfl _ _ (w.heap.size + 1 + 1) _ _ rfl (HB.out.obj 2 rfl)) rfl ?_
   exact stated_err HR.out (by decide) HB.out.below
  ·rw [if_neg hi1] at hlk
   have hpl : ∃ dn2 y2, Fs.place l na = .ok (dn2, y2) := by
    rcases Gr.snoc_cases na with rfl | ⟨ps, y, rfl⟩
    ·have h2 := G.walk_iff.1 hw
     injection h2 with h2
     exact absurd h2.symm hi1
    ·obtain ⟨j, h2, h3⟩ := Gr.go_snoc.1 (G.walk_iff.1 hw)
     obtain ⟨z, hz, hk, _⟩ := G.step_dir h3
     exact ⟨j, y, G.place_iff.2 ⟨ps, rfl, h2, ⟨z, hz, hk⟩⟩⟩
   obtain ⟨dn2, y2, hpl⟩ := hpl
   have hlv := G.leaveP_is hw
   dsimp only at hlv
   rw [hpl] at hlk hlv
   simp only at hlk hlv
   rw [hlv] at hlk
   simp only at hlk
   by_cases hk2 : k = 2
   ·subst hk2
    by_cases hwi : nb.take na.length = na
    ·rw [if_pos ⟨rfl, hwi⟩] at hlk
     have HR := hid hlk
     have HWn := within_is ha hb
     rw [decide_eq_true hwi] at HWn
     have HWi := hid (λW => inside_any oa ob W pa pb)
     unfold WithinPost at HWi
     rw [HWn] at HWi
     have HF := hid hF
     clear hF hlk hlv hpl HWn hwi hD9 hx hxD hXi hw h G
     go_enter func124, ntmps124
     go_wp2_with fail
     obtain ⟨W0, hW, HB⟩ := bx3 w m nx kd oa ob oo og on od; rw [hW]; clear hW
     go_wp2_with fail
     refine (HF.out W0 HB.out.below).mono ?_
     rintro e w1 ⟨a, c, rfl, hE, hb⟩
     have hbk := hb
     clear hE
     have HB := hid (HB.out.kept hbk)
     clear hbk
     have HB := hid (HB.out.more #[.int .i64 2, .int .i64 mo, .string d, .string t, .slice a es.length c] 67 rfl)
     have b1 := HB.out.c7 1 rfl
     dsimp only
     go_wp2_with fail
     refine (HWi.out (w1.alloc (.cells #[.int .i64 2, .int .i64 mo, .string d, .string t, .slice a es.length c] 67))).mono ?_
     rintro e w2 ⟨rfl, hb⟩
     have hbk := hb
     have HB := hid (HB.out.kept hbk)
     clear b1
     clear hbk
     dsimp only
     go_wp2_with (first | (refine store_bx HB.out 2 rfl 108 _ _ rfl rfl #[.pointer none, .int .i64 0] rfl rfl (by kernel_rfl) rfl rfl (by decide) (by decide) ?_; intro w3 hS hK hbS hsS; have HBS := hid hS; clear hS hK hbS hsS; have HB := HBS; clear HBS) | fail)
     refine bodyPost_ret_by (results_st rfl _ _ (w.heap.size + 1 + 1) _ _ rfl (HB.out.obj 2 rfl)) rfl ?_
     exact stated_err HR.out (by decide) HB.out.below
    ·rw [if_neg (λe => hwi e.2)] at hlk
     have HWn := within_is ha hb
     rw [decide_eq_false hwi] at HWn
     exact pRenameD_any m nx l kd oa ob oo og on od w h hf9 pa ha pb hb i hi1 hXi mo d t es hxD hD9 HWn hF dn2 y2 hpl _ hlv hlk
   ·rw [if_neg (λe => hk2 e.1)] at hlk
    exact pRenameN_any m nx l kd oa ob oo og on od w h hf9 pa ha pb hb i hi1 hXi k mo d t es hxD hD9 hk2 hF dn2 y2 hpl _ hlv hlk
end Go.Proofs.YthbajmlmjjfgpaaGreatDoor
namespace Go.Proofs.YthbajmlmjjfgpaaGreatDoor
open Go.RowKit Go.Less Go.Maps
open T8 (pv Dg)
structure OpOk (o : Fs.Op) : Prop where
 kind : (ik o.kind).wf = true
 a : o.a.size <= 140737488355328
 b : o.b.size <= 140737488355328
 data : o.data.size <= 140737488355328
 off : o.off <= 9223372036854775807
 from_ : o.from_ <= 9223372036854775807
 n : o.n <= 9223372036854775807
abbrev ovp (o : Fs.Op) : Value := .agg #[.int .i64 o.kind, .string o.a, .string o.b, .int .i64 o.off, .int .i64 o.from_, .int .i64 o.n, .string o.data]
theorem twoB_iff {k : Int} : twoB k = true ↔ k = 4 \/ k = 7 \/ k = 10 := by
 unfold twoB
 simp only [Bool.or_eq_true, decide_eq_true_eq]
 constructor
 ·rintro ((h | h) | h)
  ·exact .inl h
  ·exact .inr (.inl h)
  ·exact .inr (.inr h)
 ·rintro (h | h | h)
  ·exact .inl (.inl h)
  ·exact .inl (.inr h)
  ·exact .inr h
theorem do_wrap (gk : Nat) (eg : ∀ args w, (callFunc gk args).run prog w = .ok (.enter gk args) w) (g : Nat) (m : Option Nat) (nx : Int) (l : List Fs.Item) (o : Fs.Op) (w : World) (h : Sv w m l) (hg : w.heap[g]? = some (.cells #[pv m, .int .i64 nx] 110 (0, 0))) (hO : OpOk o)
  (hk : fdo o.kind = some (fnv gk)) (h1 : 1 <= o.kind) (h11 : o.kind <= 11)
  (hC : ∀ na, spl o.a = some na -> (twoB o.kind = true -> ∃ nb, spl o.b = some nb) -> ∀ W, Below w.heap.size w W -> Calls prog gk #[stv m nx, ovp o] W (Stated (Fs.act env ⟨l, nx⟩ o) W)) :
  Calls prog 31 #[.pointer (some ⟨g, 0, none⟩), ovp o] w (DoneP (Fs.act env ⟨l, nx⟩ o) g w) := by
 have hin : ¬ (o.kind < 1 \/ 11 < o.kind) := by omega
 refine pDo_core g m nx l o.kind o.a o.b o.off o.from_ o.n o.data w h hg hO.kind hO.a hO.b (.inr ⟨gk, hk, eg, ?_⟩)
 cases ha : spl o.a with
 | none => exact .inl ⟨rfl, by unfold Fs.act; rw [if_neg hin, show env.sp o.a = none from ha]⟩
 | some na =>
  refine .inr ⟨rfl, ?_⟩
  by_cases hb : twoB o.kind = true /\ spl o.b = none
  ·exact .inl ⟨hb.1, by rw [hb.2]; rfl, by
    unfold Fs.act
    rw [if_neg hin, show env.sp o.a = some na from ha]
    simp only
    rw [if_pos ⟨twoB_iff.1 hb.1, hb.2⟩]⟩
  ·have hb2 : twoB o.kind = true -> ∃ nb, spl o.b = some nb := λh => by
    cases hs : spl o.b with
    | none => exact absurd ⟨h, hs⟩ hb
    | some nb => exact ⟨nb, rfl⟩
   exact .inr ⟨λh => by obtain ⟨nb, e⟩ := hb2 h; rw [e]; rfl, hC na ha hb2⟩
theorem pDo_any (g : Nat) (m : Option Nat) (nx : Int) (l : List Fs.Item) (o : Fs.Op) (w : World) (h : Sv w m l) (hg : w.heap[g]? = some (.cells #[pv m, .int .i64 nx] 110 (0, 0))) (G : Fs.Half env ⟨l, nx⟩) (hnx : nx <= 2147483646) (hO : OpOk o) :
  Calls prog 31 #[.pointer (some ⟨g, 0, none⟩), ovp o] w (DoneP (Fs.act env ⟨l, nx⟩ o) g w) := by
 by_cases hk : o.kind < 1 \/ 11 < o.kind
 ·exact pDo_core g m nx l o.kind o.a o.b o.off o.from_ o.n o.data w h hg hO.kind hO.a hO.b (.inl ⟨fdo_out hk, by unfold Fs.act; rw [if_pos hk]⟩)
 have hin := hk
 have hf9 : l.length <= 900 := Nat.le_trans G.few (by decide)
 have hnx1 : 1 <= nx /\ nx <= 2147483646 := by
  obtain ⟨x, hx, _⟩ := G.top
  have := G.pos _ (Fs.node_mem hx)
  simp only at this
  omega
 have hlt : ∀ y ∈ l, y.1 < nx := λy hy => (G.pos y hy).2
 obtain ⟨kind, oa, ob, oo, og, on, od⟩ := o
 dsimp only at hk hin
 have hkk : kind = 1 \/ kind = 2 \/ kind = 3 \/ kind = 4 \/ kind = 5 \/ kind = 6 \/ kind = 7 \/ kind = 8 \/ kind = 9 \/ kind = 10 \/ kind = 11 := by omega
 clear hk
 rcases hkk with rfl | rfl | rfl | rfl | rfl | rfl | rfl | rfl | rfl | rfl | rfl
 ·refine do_wrap 118 (enters_of func118 (by kernel_rfl) rfl) g m nx l _ w h hg hO rfl (show (1 : Int) <= 1 by decide) (show (1 : Int) <= 11 by decide) λna ha _ W hW => ?_
  have hact : Fs.act env ⟨l, nx⟩ ⟨1, oa, ob, oo, og, on, od⟩ = Fs.create env ⟨l, nx⟩ ⟨1, oa, ob, oo, og, on, od⟩ na := by
   unfold Fs.act; rw [if_neg hin, show env.sp oa = some na from ha]; rfl
  rw [hact]
  exact pMakeFile_any m nx 1 oa ob oo og on od W (λW2 hW2 => pCreate_any m nx l oa 1 on ⟨#[]⟩ ⟨#[]⟩ W2 (h.below (hW.trans (hW2.mono hW.size))) hf9 hO.a ha hnx1 hlt (Fs.Half.create_is G (spl_right ha))) (h.below hW).dg
 ·refine do_wrap 119 (enters_of func119 (by kernel_rfl) rfl) g m nx l _ w h hg hO rfl (show (1 : Int) <= 2 by decide) (show (2 : Int) <= 11 by decide) λna ha _ W hW => ?_
  have hact : Fs.act env ⟨l, nx⟩ ⟨2, oa, ob, oo, og, on, od⟩ = Fs.create env ⟨l, nx⟩ ⟨2, oa, ob, oo, og, on, od⟩ na := by
   unfold Fs.act; rw [if_neg hin, show env.sp oa = some na from ha]; rfl
  rw [hact]
  exact pMakeDir_any m nx 2 oa ob oo og on od W (λW2 hW2 => pCreate_any m nx l oa 2 on ⟨#[]⟩ ⟨#[]⟩ W2 (h.below (hW.trans (hW2.mono hW.size))) hf9 hO.a ha hnx1 hlt (Fs.Half.create_is G (spl_right ha))) (h.below hW).dg
 ·refine do_wrap 120 (enters_of func120 (by kernel_rfl) rfl) g m nx l _ w h hg hO rfl (show (1 : Int) <= 3 by decide) (show (3 : Int) <= 11 by decide) λna ha _ W hW => ?_
  have hact : Fs.act env ⟨l, nx⟩ ⟨3, oa, ob, oo, og, on, od⟩ = Fs.create env ⟨l, nx⟩ ⟨3, oa, ob, oo, og, on, od⟩ na := by
   unfold Fs.act; rw [if_neg hin, show env.sp oa = some na from ha]; rfl
  rw [hact]
  exact pMakeSym_any m nx 3 oa ob oo og on od W (λW2 hW2 => pCreate_any m nx l oa 3 511 ⟨#[]⟩ od W2 (h.below (hW.trans (hW2.mono hW.size))) hf9 hO.a ha hnx1 hlt (Fs.Half.create_is G (spl_right ha))) (h.below hW).dg
 ·refine do_wrap 121 (enters_of func121 (by kernel_rfl) rfl) g m nx l _ w h hg hO rfl (show (1 : Int) <= 4 by decide) (show (4 : Int) <= 11 by decide) λna ha hb W hW => ?_
  obtain ⟨nb, hb⟩ := hb rfl
  have hact : Fs.act env ⟨l, nx⟩ ⟨4, oa, ob, oo, og, on, od⟩ = Fs.link env ⟨l, nx⟩ na nb := by
   unfold Fs.act; rw [if_neg hin, show env.sp oa = some na from ha, show env.sp ob = some nb from hb]; rfl
  rw [hact]
  exact pLink_any m nx l 4 oa ob oo og on od W (h.below hW) G hf9 hO.a ha hO.b hb
 ·refine do_wrap 122 (enters_of func122 (by kernel_rfl) rfl) g m nx l _ w h hg hO rfl (show (1 : Int) <= 5 by decide) (show (5 : Int) <= 11 by decide) λna ha _ W hW => ?_
  have hact : Fs.act env ⟨l, nx⟩ ⟨5, oa, ob, oo, og, on, od⟩ = Fs.unlink ⟨l, nx⟩ na := by
   unfold Fs.act; rw [if_neg hin, show env.sp oa = some na from ha]; rfl
  rw [hact]
  exact pUnlink_any m nx l 5 oa ob oo og on od W (h.below hW) G hf9 hO.a ha
 ·refine do_wrap 123 (enters_of func123 (by kernel_rfl) rfl) g m nx l _ w h hg hO rfl (show (1 : Int) <= 6 by decide) (show (6 : Int) <= 11 by decide) λna ha _ W hW => ?_
  have hact : Fs.act env ⟨l, nx⟩ ⟨6, oa, ob, oo, og, on, od⟩ = Fs.rmdir ⟨l, nx⟩ na := by
   unfold Fs.act; rw [if_neg hin, show env.sp oa = some na from ha]; rfl
  rw [hact]
  exact pRmdir_any m nx l 6 oa ob oo og on od W (h.below hW) G hf9 hO.a ha
 ·refine do_wrap 124 (enters_of func124 (by kernel_rfl) rfl) g m nx l _ w h hg hO rfl (show (1 : Int) <= 7 by decide) (show (7 : Int) <= 11 by decide) λna ha hb W hW => ?_
  obtain ⟨nb, hb⟩ := hb rfl
  have hact : Fs.act env ⟨l, nx⟩ ⟨7, oa, ob, oo, og, on, od⟩ = Fs.rename env ⟨l, nx⟩ na nb := by
   unfold Fs.act; rw [if_neg hin, show env.sp oa = some na from ha, show env.sp ob = some nb from hb]; rfl
  rw [hact]
  exact pRename_any m nx l 7 oa ob oo og on od W (h.below hW) G hf9 hO.a ha hO.b hb
 ·refine do_wrap 125 (enters_of func125 (by kernel_rfl) rfl) g m nx l _ w h hg hO rfl (show (1 : Int) <= 8 by decide) (show (8 : Int) <= 11 by decide) λna ha _ W hW => ?_
  have hact : Fs.act env ⟨l, nx⟩ ⟨8, oa, ob, oo, og, on, od⟩ = Fs.bytes env ⟨l, nx⟩ ⟨8, oa, ob, oo, og, on, od⟩ na ((env.sp ob).getD []) := by
   unfold Fs.act; rw [if_neg hin, show env.sp oa = some na from ha]; rfl
  rw [hact]
  exact pWrite_any m nx 8 oa ob oo og on od W (λW2 hB => change_any 163 #[.pointer (some ⟨W.heap.size + 1, 0, none⟩)] (enters_of func163 (by kernel_rfl) rfl) (λs => env.put s oo od) m nx l oa W2 (h.below (hW.trans (hB.below.mono hW.size))) G hf9 hO.a ha
   (λs hs W3 hW3 => show Calls prog 163 #[.string s, .pointer (some ⟨W.heap.size + 1, 0, none⟩)] W3 _ from c131_any (W.heap.size + 1) s 8 oa ob oo og on od W3 hs hO.data hO.off ((hB.kept hW3).obj 1 rfl)) (λs hs h0 => env_ok.put s oo od hs h0) rfl) (h.below hW).dg
 ·refine do_wrap 126 (enters_of func126 (by kernel_rfl) rfl) g m nx l _ w h hg hO rfl (show (1 : Int) <= 9 by decide) (show (9 : Int) <= 11 by decide) λna ha _ W hW => ?_
  have hact : Fs.act env ⟨l, nx⟩ ⟨9, oa, ob, oo, og, on, od⟩ = Fs.bytes env ⟨l, nx⟩ ⟨9, oa, ob, oo, og, on, od⟩ na ((env.sp ob).getD []) := by
   unfold Fs.act; rw [if_neg hin, show env.sp oa = some na from ha]; rfl
  rw [hact]
  exact pTruncate_any m nx 9 oa ob oo og on od W (λW2 hB => change_any 164 #[.pointer (some ⟨W.heap.size + 1, 0, none⟩)] (enters_of func164 (by kernel_rfl) rfl) (λs => env.trunc s on) m nx l oa W2 (h.below (hW.trans (hB.below.mono hW.size))) G hf9 hO.a ha
   (λs hs W3 hW3 => show Calls prog 164 #[.string s, .pointer (some ⟨W.heap.size + 1, 0, none⟩)] W3 _ from c133_any (W.heap.size + 1) s 9 oa ob oo og on od W3 ((hB.kept hW3).obj 1 rfl)) (λs hs h0 => env_ok.trunc s on h0) rfl) (h.below hW).dg
 ·refine do_wrap 127 (enters_of func127 (by kernel_rfl) rfl) g m nx l _ w h hg hO rfl (show (1 : Int) <= 10 by decide) (show (10 : Int) <= 11 by decide) λna ha hb W hW => ?_
  obtain ⟨nb, hb⟩ := hb rfl
  have hact : Fs.act env ⟨l, nx⟩ ⟨10, oa, ob, oo, og, on, od⟩ = Fs.bytes env ⟨l, nx⟩ ⟨10, oa, ob, oo, og, on, od⟩ na nb := by
   unfold Fs.act; rw [if_neg hin, show env.sp oa = some na from ha, show env.sp ob = some nb from hb]; rfl
  rw [hact]
  refine pClone_any m nx 10 oa ob oo og on od W (λW2 hB => change_any 165 #[.pointer (some ⟨W.heap.size, 0, none⟩), .pointer (some ⟨W.heap.size + 1, 0, none⟩)] (enters_of func165 (by kernel_rfl) rfl) (cloneG l nb oo og on) m nx l oa W2 (h.below (hW.trans (hB.below.mono hW.size))) G hf9 hO.a ha
   (λs hs W3 hW3 => show Calls prog 165 #[.string s, .pointer (some ⟨W.heap.size, 0, none⟩), .pointer (some ⟨W.heap.size + 1, 0, none⟩)] W3 _ from c135_any W.heap.size (W.heap.size + 1) s m nx l 10 oa ob oo og on od W3 (h.below (hW.trans ((hB.below.trans (hW3.mono hB.below.size)).mono hW.size))) G hO.b hb hs hO.off hO.from_ hO.n ((hB.kept hW3).obj 0 rfl) ((hB.kept hW3).obj 1 rfl)) (λs hs h0 => ?_) ?_) (h.below hW).dg
  ·unfold cloneG at h0 |-
   split at h0
   ·exact Nat.zero_le _
   ·exact env_ok.copy s oo _ og on hs h0
  ·unfold Fs.bytes Fs.edit
   cases hfa : Fs.file l na with
   | error e => rfl
   | ok r =>
    obtain ⟨i, x⟩ := r
    simp only
    rw [if_neg (by decide), if_neg (by decide)]
    unfold cloneG
    cases hfb : Fs.file l nb with
    | error e =>
     have he : e ≠ 0 := by
      rcases file_cases (l := l) hb with ⟨ec, hne, h2, _⟩ | ⟨j, _, h2, _⟩
      ·rw [hfb] at h2; injection h2 with h2; rw [h2]; exact hne
      ·rw [hfb] at h2; cases h2
     simp only [Fs.asked]
     rw [if_pos he]
    | ok r2 => rfl
 ·refine do_wrap 128 (enters_of func128 (by kernel_rfl) rfl) g m nx l _ w h hg hO rfl (show (1 : Int) <= 11 by decide) (show (11 : Int) <= 11 by decide) λna ha _ W hW => ?_
  have hact : Fs.act env ⟨l, nx⟩ ⟨11, oa, ob, oo, og, on, od⟩ = Fs.chmod ⟨l, nx⟩ ⟨11, oa, ob, oo, og, on, od⟩ na := by
   unfold Fs.act; rw [if_neg hin, show env.sp oa = some na from ha]; rfl
  rw [hact]
  exact pChmod_any m nx l 11 oa ob oo og on od W (h.below hW) G hf9 hO.a ha
end Go.Proofs.YthbajmlmjjfgpaaGreatDoor
namespace Go.Proofs.YthbajmlmjjfgpaaGreatDoor
open Go.RowKit Go.Less Go.Maps
open T8 (pv Dg)
attribute [local go_sem 9000] sem_eql sem_neq
def op0 : Fs.Op := ⟨0, ByteArray.empty, ByteArray.empty, 0, 0, 0, ByteArray.empty⟩
structure Opr (a : Option Addr) (n : Nat) (l : List Fs.Op) (w : World) : Prop where
 count : n = l.length
 cell : ∀ i, i < n -> ∃ b off, a = some ⟨b, off, none⟩ /\ ∀ j v, (ocs (l.getD i op0))[j]? = some v -> w.cell? ⟨b, off + i * 7 + j, none⟩ = some v
 ok : ∀ o ∈ l, OpOk o
theorem Opr.below {a : Option Addr} {n : Nat} {l : List Fs.Op} {w w' : World} (h : Opr a n l w) (hb : Below w.heap.size w w') : Opr a n l w' :=
 ⟨h.count, λi hi => by
  obtain ⟨b, off, ha, hc⟩ := h.cell i hi
  exact ⟨b, off, ha, λj v hv => (hb.cell (p := ⟨b, off + i * 7 + j, none⟩) (block_lt_of_cell (hc j v hv))).trans (hc j v hv)⟩, h.ok⟩
def fwt (o : Fs.Op) : Nat := 1 + (min o.a.size 10000 + min o.b.size 10000 + min o.data.size 10000) / 100
def fsum (l : List Fs.Op) : Nat := (l.map fwt).sum
def few11 (l : List Fs.Op) : Bool := decide (fsum l <= 120)
theorem fsum_more {l : List Fs.Op} {k : Nat} (h : k < l.length) : fsum (l.take (k + 1)) = fsum (l.take k) + fwt (l.getD k op0) := by
 unfold fsum
 rw [List.take_succ_eq_append_getElem h, List.map_append, List.sum_append, List.getD, List.getElem?_eq_getElem h]
 simp
theorem fsum_le (l : List Fs.Op) (k : Nat) : fsum (l.take k) <= fsum l := by
 conv => rhs; rw [<- List.take_append_drop k l]
 unfold fsum
 rw [List.map_append, List.sum_append]
 omega
theorem fsum_len (l : List Fs.Op) : l.length <= fsum l := by
 unfold fsum
 induction l with
 | nil => exact Nat.zero_le _
 | cons o l ih => rw [List.map_cons, List.sum_cons, List.length_cons]; have h1 : 1 <= fwt o := Nat.le_add_right _ _; omega
theorem few_len {l : List Fs.Op} (h : few11 l = true) : l.length <= 120 := by
 unfold few11 at h
 have := fsum_len l
 have h : fsum l <= 120 := by simpa using h
 omega
theorem few_any (a : Option Addr) (n cap : Nat) (l : List Fs.Op) (w : World) (hS : Opr a n l w) (hn : n <= 140737488355328) :
  Calls prog 14 #[.slice a n cap] w λe w' => e = .returned (.bool (few11 l)) /\ Below w.heap.size w w' := by
 have hni : (n : Int) <= 140737488355328 := by omega
 have HS := hid (λW (hb : Below w.heap.size w W) => hS.below hb)
 have HN := hid hS.count
 clear hS
 go_enter func14, ntmps14
 go_wp2_with fail
 go_loopw [3, 4] (λx3 x4 wr => ∃ k : Nat, k <= n /\ x4 = .int .i64 k /\ x3 = .int .i64 (fsum (l.take k)) /\ fsum (l.take k) <= 120 /\ Below w.heap.size w wr) (λ_ x4 _ => n - (intOf x4).toNat)
 case atStart => exact ⟨0, Nat.zero_le _, rfl, rfl, Nat.zero_le _, Below.refl _ _⟩
 case round =>
  obtain ⟨k, hk, rfl, rfl, hf, hB⟩ := hrel
  by_cases hlt : k < n
  ·have k0 : (k : Int) < (n : Int) := by omega
   have hk0 : (0 : Int) <= (k : Int) := by omega
   have hkl : k < l.length := by rw [<- HN.out]; exact hlt
   obtain ⟨b, off, rfl, hc⟩ := (HS.out wr hB).cell k hlt
   have HM := hid (fsum_more hkl)
   have HBg := hid (λ(h : ¬ fsum (l.take (k + 1)) <= 120) => (show few11 l = false from by unfold few11; rw [decide_eq_false]; have := fsum_le l (k + 1); omega))
   have c1 : wr.cell? ⟨b, off + k * 7 + 1, none⟩ = some (.string (l.getD k op0).a) := hc 1 _ rfl
   have c2 : wr.cell? ⟨b, off + k * 7 + 2, none⟩ = some (.string (l.getD k op0).b) := hc 2 _ rfl
   have c6 : wr.cell? ⟨b, off + k * 7 + 6, none⟩ = some (.string (l.getD k op0).data) := hc 6 _ rfl
   have HB := hid hB
   clear hc hB
   unfold fwt at HM
   generalize l.getD k op0 = o at *
   obtain ⟨okd, oa, ob, oo, og, on, od⟩ := o
   dsimp only at c1 c2 c6 HM
   generalize fsum (l.take k) = N at *
   obtain ⟨T, hT⟩ : ∃ T, T = (min oa.size 10000 + min ob.size 10000 + min od.size 10000) / 100 := ⟨_, rfl⟩
   rw [<- hT] at HM
   have hT3 : T <= 300 := by omega
   have hq1 : IntKind.i64.wrap (min (oa.size : Int) 10000 + min (ob.size : Int) 10000) = min (oa.size : Int) 10000 + min (ob.size : Int) 10000 := IntWalk.i64_in _ (by omega)
   have hq2 : IntKind.i64.wrap (min (oa.size : Int) 10000 + min (ob.size : Int) 10000 + min (od.size : Int) 10000) = min (oa.size : Int) 10000 + min (ob.size : Int) 10000 + min (od.size : Int) 10000 := IntWalk.i64_in _ (by omega)
   have hq3 : (min (oa.size : Int) 10000 + min (ob.size : Int) 10000 + min (od.size : Int) 10000).tdiv 100 = (T : Int) := by
    rw [Int.tdiv_eq_ediv_of_nonneg (by omega)]
    omega
   have hq4 : IntKind.i64.wrap (T : Int) = (T : Int) := IntWalk.i64_in _ (by omega)
   have hq5 : IntKind.i64.wrap ((N : Int) + 1) = (N : Int) + 1 := IntWalk.i64_in _ (by omega)
   have hq6 : IntKind.i64.wrap ((N : Int) + 1 + (T : Int)) = (N : Int) + 1 + (T : Int) := IntWalk.i64_in _ (by omega)
   have HV := hid (show (Value.int .i64 ((N : Int) + 1 + (T : Int))) = .int .i64 (fsum (l.take (k + 1)) : Nat) by rw [HM.out, show ((N + (1 + T) : Nat) : Int) = (N : Int) + 1 + (T : Int) by omega])
   clear hT
   go_wp2_with fail
   go_region_held3 (λW => W.cell? ⟨b, off + k * 7 + 1, none⟩ = some (.string oa) /\ W.cell? ⟨b, off + k * 7 + 2, none⟩ = some (.string ob) /\ W.cell? ⟨b, off + k * 7 + 6, none⟩ = some (.string od))
    (first | exact ⟨c1, c2, c6⟩) (fail)
   all_goals
    by_cases h120 : N + (1 + T) <= 120
    ·have hi : ¬ (120 : Int) < (N : Int) + 1 + (T : Int) := by omega
     go_wp2_with fail
     go_roundw
     case rel => exact ⟨k + 1, by omega, by go_num, HV.out, by rw [HM.out]; exact h120, HB.out.drew⟩
     case measure => simp [intOf]; omega
    ·have hi : (120 : Int) < (N : Int) + 1 + (T : Int) := by omega
     have HR := hid (HBg.out (by rw [HM.out]; exact h120))
     go_wp2_with fail
     go_ret
     rw [HR.out]
     exact ⟨rfl, HB.out.drew⟩
  ·obtain rfl : k = n := by omega
   have HB := hid hB
   have HR := hid (show few11 l = true by unfold few11; have h := hf; rw [HN.out, List.take_length] at h; exact decide_eq_true h)
   clear hB
   go_wp2_with fail
   go_ret
   rw [HR.out]
   exact ⟨rfl, HB.out⟩
end Go.Proofs.YthbajmlmjjfgpaaGreatDoor
namespace Go.Proofs.YthbajmlmjjfgpaaGreatDoor
open Go.RowKit Go.Less Go.Maps
open T8 (pv Dg Rp Pr keysOf mkeys_any mget_there)
attribute [local go_sem 9000] sem_eql sem_neq
def Mz (w : World) (b n : Nat) (f : Int -> Option Value) : Prop :=
 ∃ D : DataW Value, w.ownsMap prog 3 held b n D /\ Maps.size D = n /\ ∀ a, (ik a).wf = true -> (∀ z, D.atKey (ik a) (.held z) = .held ((f a).getD z)) /\ Maps.has D (ik a) = (f a).isSome
theorem Mz.mp {w : World} {b n : Nat} {f : Int -> Option Value} (h : Mz w b n f) : Mp w b n f := by obtain ⟨D, h1, _, h2⟩ := h; exact ⟨D, h1, h2⟩
theorem Mz.kept {w w' : World} {b n : Nat} {f : Int -> Option Value} (h : Mz w b n f) (hb : w'.heap[b]? = w.heap[b]?) : Mz w' b n f := by
 obtain ⟨D, ⟨es, c, h1, h2⟩, h3⟩ := h; exact ⟨D, ⟨es, c, hb.trans h1, h2⟩, h3⟩
theorem Mz.lt {w : World} {b n : Nat} {f : Int -> Option Value} (h : Mz w b n f) : b < w.heap.size := h.mp.lt
theorem Mz.below {w w' : World} {b n : Nat} {f : Int -> Option Value} (h : Mz w b n f) (hb : Below w.heap.size w w') : Mz w' b n f := h.kept (hb.block _ h.lt)
theorem Mz.made (w : World) : Mz (w.alloc (.map #[] 0)) w.heap.size 0 (λ_ => none) :=
 ⟨.map [], World.ownsMap_made w _ _ _, rfl, λ_ _ => ⟨λ_ => rfl, rfl⟩⟩
theorem owns_tight {w : World} {b n : Nat} {D : DataW Value} (h : w.ownsMap prog 3 held b n D) : w.ownsMap prog 3 held b (Maps.size D) D := by
 obtain ⟨es, c, h1, h2, _, rfl⟩ := h
 exact ⟨es, c, h1, h2, by simp [Maps.size, length_sorted], rfl⟩
theorem Mz.store {w : World} {b n : Nat} {f : Int -> Option Value} (h : Mz w b n f) {t e : TypeId} (ht : prog.underlying t = some (.map 3 e)) (hn : n < maxLen) {a : Int} (ha : (ik a).wf = true) (v : Value) :
  ∃ w', (Instr.mapUpdate t (.map (some b)) (.int .i64 a) v).run prog w = .ok () w' /\ Mz w' b (if (f a).isSome = true then n else n + 1) (upd f a v) /\ w.mapTurned w' b := by
 obtain ⟨D, ho, hsz, h2⟩ := h
 have hm := ho.isMap
 have hti := ho.tidy law3
 obtain ⟨w', hr, h3, h4⟩ := ho.store law3 ht hn (keyOf_int_mk underlying3 ha) (val := v) (d := .held v) (ps := []) rfl
 have hs2 := size_put hti (k := ik a) (.held v)
 rw [(h2 a ha).2, hsz] at hs2
 refine ⟨w', hr, ⟨_, hs2 ▸ owns_tight h3, hs2, λx hx => ?_⟩, h4⟩
 unfold upd
 by_cases hxa : x = a
 ·subst hxa
  rw [if_pos rfl]
  exact ⟨λz => atKey_put_same hm (ik_key _) _ _, has_put_same hm (ik_key _) _⟩
 ·rw [if_neg hxa]
  have hne : ik x ≠ ik a := λe => hxa (by injection e)
  exact ⟨λz => (atKey_put_other hne _ _).trans ((h2 x hx).1 z), (has_put_other hne _).trans (h2 x hx).2⟩
theorem Mz.len {w : World} {b n : Nat} {f : Int -> Option Value} (h : Mz w b n f) {t e : TypeId} (ht : prog.underlying t = some (.map 3 e)) (ty : TypeId) : (Builtin.len_ #[t] ty #[.map (some b)]).run prog w = .ok (.int .i64 (n : Int)) w := by
 obtain ⟨D, ho, hsz, _⟩ := h
 have := ho.len ht ty
 rw [hsz] at this
 exact this
theorem Mp.look {w : World} {b n : Nat} {f : Int -> Option Value} (h : Mp w b n f) {t e : TypeId} (ht : prog.underlying t = some (.map 3 e)) {z : Value} (hz : (zeroValue e).run prog w = .ok z w) {a : Int} (ha : (ik a).wf = true) :
  (Instr.lookup t (.map (some b)) (.int .i64 a) false).run prog w = .ok ((f a).getD z) w := by
 obtain ⟨D, ho, h2⟩ := h
 obtain ⟨v, ps, hr, hv⟩ := ho.lookup law3 ht hz (zd := .held z) (zp := []) rfl (keyOf_int_mk underlying3 ha)
 rw [(h2 a ha).1 z] at hv
 rw [hr]
 unfold held at hv
 injection hv with hv
 injection hv with hv _
 injection hv with hv
 rw [hv]
def nvx (x : Nd.Node) (a : Option Addr) (c : Nat) : Value := nv x.kind x.mode x.data x.target a x.ents.length c
structure Nmap (w : World) (b : Nat) (l : List Fs.Item) : Prop where
 map : ∃ f, Mz w b l.length f /\ ∀ i, match Fs.node l i with
  | none => f i = none
  | some x => ∃ a c, f i = some (nvx x a c) /\ Ents a x.ents.length x.ents w
theorem Nmap.lt {w : World} {b : Nat} {l : List Fs.Item} (h : Nmap w b l) : b < w.heap.size := by obtain ⟨⟨f, h1, _⟩⟩ := h; exact h1.lt
theorem Nmap.below {w w' : World} {b : Nat} {l : List Fs.Item} (h : Nmap w b l) (hb : Below w.heap.size w w') : Nmap w' b l := by
 obtain ⟨⟨f, h1, h2⟩⟩ := h
 refine ⟨⟨f, h1.below hb, λi => ?_⟩⟩
 have h3 := h2 i
 cases hn : Fs.node l i with
 | none => rw [hn] at h3; exact h3
 | some x => rw [hn] at h3; obtain ⟨a, c, e, hE⟩ := h3; exact ⟨a, c, e, hE.below hb⟩
theorem Nmap.made (w : World) : Nmap (w.alloc (.map #[] 0)) w.heap.size [] := ⟨⟨_, Mz.made w, λ_ => rfl⟩⟩
theorem ents_turned {w w' : World} {b : Nat} (ht : w.mapTurned w' b) {a : Option Addr} {n : Nat} {l : List En} (h : Ents a n l w) : Ents a n l w' := by
 obtain ⟨es, c, es', c', hb, rfl⟩ := ht
 refine ⟨h.count, λi hi => ?_⟩
 obtain ⟨k, off, rfl, h0, h1⟩ := h.cell i hi
 have hk : k ≠ b := by
  rintro rfl
  unfold World.cell? at h0
  rw [hb] at h0
  cases h0
 refine ⟨k, off, rfl, ?_, ?_⟩
 ·rw [<- h0]; exact World.cell?_of_block (ChangeMaps.heap_setBlock_other hb _ hk)
 ·rw [<- h1]; exact World.cell?_of_block (ChangeMaps.heap_setBlock_other hb _ hk)
theorem node_snoc9 {l : List Fs.Item} {i : Int} {x : Nd.Node} (hn : Fs.node l i = none) (j : Int) : Fs.node (l ++ [(i, x)]) j = if j = i then some x else Fs.node l j := by
 induction l with
 | nil =>
  show (if i = j then some x else none) = _
  by_cases e : i = j
  ·rw [if_pos e, if_pos e.symm]
  ·rw [if_neg e, if_neg (Ne.symm e)]; rfl
 | cons y l ih =>
  have hy : Fs.node (y :: l) i = if y.1 = i then some y.2 else Fs.node l i := rfl
  rw [hy] at hn
  by_cases e : y.1 = i
  ·rw [if_pos e] at hn; cases hn
  rw [if_neg e] at hn
  show (if y.1 = j then some y.2 else Fs.node (l ++ [(i, x)]) j) = _
  have hj : Fs.node (y :: l) j = if y.1 = j then some y.2 else Fs.node l j := rfl
  rw [hj, ih hn]
  by_cases e1 : y.1 = j
  ·rw [if_pos e1, if_pos e1, if_neg (λe2 => e (e1.trans e2))]
  ·rw [if_neg e1, if_neg e1]
theorem Nmap.store {w : World} {b : Nat} {l : List Fs.Item} (h : Nmap w b l) (hl : l.length < 100000) {i : Int} (hi : (ik i).wf = true) (hn : Fs.node l i = none) (x : Nd.Node) {a : Option Addr} {c : Nat} (hE : Ents a x.ents.length x.ents w) :
  ∃ w', (Instr.mapUpdate 205 (.map (some b)) (.int .i64 i) (nvx x a c)).run prog w = .ok () w' /\ Nmap w' b (l ++ [(i, x)]) /\ w.mapTurned w' b := by
 obtain ⟨⟨f, h1, h2⟩⟩ := h
 obtain ⟨w', hr, hM, ht⟩ := h1.store underlying205 (by unfold maxLen; omega) hi (nvx x a c)
 have hfi := h2 i
 rw [hn] at hfi
 simp only at hfi
 rw [hfi] at hM
 refine ⟨w', hr, ⟨⟨_, by rw [List.length_append]; exact hM, λj => ?_⟩⟩, ht⟩
 rw [node_snoc9 hn]
 unfold upd
 by_cases e : j = i
 ·rw [if_pos e, if_pos e]; exact ⟨a, c, rfl, ents_turned ht hE⟩
 ·rw [if_neg e, if_neg e]
  have h3 := h2 j
  cases hj : Fs.node l j with
  | none => rw [hj] at h3; exact h3
  | some y => rw [hj] at h3; obtain ⟨a', c', e', hE'⟩ := h3; exact ⟨a', c', e', ents_turned ht hE'⟩
theorem zero43 (w : World) : (zeroValue 67).run prog w = .ok (nvx Nd.none0 none 0) w := by kernel_rfl
theorem Nmap.look {w : World} {b : Nat} {l : List Fs.Item} (h : Nmap w b l) {i : Int} (hi : (ik i).wf = true) : ∃ a c, (Instr.lookup 205 (.map (some b)) (.int .i64 i) false).run prog w = .ok (nvx (Fs.nodeD l i) a c) w /\ (Instr.lookup 205 (.map (some b)) (.int .i64 i) true).run prog w = .ok (.tuple #[nvx (Fs.nodeD l i) a c, .bool (Fs.node l i).isSome]) w /\ Ents a (Fs.nodeD l i).ents.length (Fs.nodeD l i).ents w := by
 obtain ⟨⟨f, h1, h2⟩⟩ := h
 have h3 := h2 i
 have e1 := h1.mp.look underlying205 (zero43 w) hi
 have e2 := h1.mp.look_ok underlying205 (zero43 w) hi
 unfold Fs.nodeD
 cases hn : Fs.node l i with
 | none =>
  rw [hn] at h3
  simp only at h3
  rw [h3] at e1 e2
  exact ⟨none, 0, e1, e2, ents_nil w⟩
 | some x =>
  rw [hn] at h3
  obtain ⟨a, c, e, hE⟩ := h3
  rw [e] at e1 e2
  exact ⟨a, c, e1, e2, hE⟩
end Go.Proofs.YthbajmlmjjfgpaaGreatDoor
