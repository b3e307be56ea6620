/- Layer 11, a part of the proofs: no statement of its own. -/
import Derived.Test.YthehblmjloohiaaGreatDoorM33
namespace Go.Proofs.YthehblmjloohiaaGreatDoor
set_option maxRecDepth 100000
open Go.RowKit Go.Less Go.Maps
open T8 (pv Dg)
attribute [local go_sem 9000] sem_eql sem_neq
structure Turn (g : Nat) (w w' : World) : Prop where
 os : w'.os = w.os
 tape : w'.tape = w.tape
 output : w'.output = w.output
 size : w.heap.size ≤ w'.heap.size
 block : ∀ k, k < w.heap.size → k ≠ g → w'.heap[k]? = w.heap[k]?
def DoneP (r : Except Int Fs.FS) (g : Nat) (w : World) (e : Ending) (w' : World) : Prop := match r with
 | .error c => c ≠ 0 ∧ e = .returned (.int .i64 c) ∧ Below w.heap.size w w'
 | .ok f => e = .returned (.int .i64 0) ∧ ∃ m, w'.heap[g]? = some (.cells #[pv m, .int .i64 f.next] 91 (0, 0)) ∧ Sv w' m f.l ∧ Turn g w w'
theorem Dg.turn {g : Nat} {w w' : World} {x y : Value} {t : TypeId} (h : Dg w) (hg : w.heap[g]? = some (.cells #[x, y] t (0, 0))) (ho : ∀ k, k ≠ g → w'.heap[k]? = w.heap[k]?) : Dg w' := by
 have n2 : (2 : Nat) ≠ g := by
  rintro rfl
  have h1 := h.k 7 (by decide)
  rw [cell_obj hg 7] at h1
  cases h1
 have n0 : (0 : Nat) ≠ g := by
  rintro rfl
  have h1 := h.i 7 (by decide)
  rw [cell_obj hg 7] at h1
  cases h1
 exact ⟨fun j hj => (World.cell?_of_block (ho 2 n2)).trans (h.k j hj), fun j hj => (World.cell?_of_block (ho 0 n0)).trans (h.i j hj)⟩
def Fin9 (Wb W9 : World) (p9 : Nat) (m2 : Option Nat) (n2 : Int) (l2 : List Fs.Item) : Prop := Below Wb.heap.size Wb W9 ∧ W9.heap[p9]? = some (.cells #[pv m2, .int .i64 n2] 88 (0, 0)) ∧ Sv W9 m2 l2
theorem done_ok {g : Nat} {w W9 W : World} {m m2 : Option Nat} {nx n2 : Int} {l2 : List Fs.Item} (hb : Below w.heap.size w W9) (hg : W9.heap[g]? = some (.cells #[pv m, .int .i64 nx] 91 (0, 0))) (hS : Sv W9 m2 l2) (hW : W = W9.setRow g #[pv m2, .int .i64 n2]) : DoneP (.ok ⟨l2, n2⟩) g w (.returned (.int .i64 0)) W := by
 subst hW
 have ho : ∀ k, k ≠ g → (W9.setRow g #[pv m2, .int .i64 n2]).heap[k]? = W9.heap[k]? := fun k hk => setRow_other _ _ _ _ hk
 refine ⟨rfl, m2, setRow_heap _ _ _ _ _ _ hg, hS.kept (p := g) (T := 91) ⟨⟨_, _, hg⟩, by decide, by decide, ho⟩ (Dg.turn hS.dg hg ho), hb.os, hb.tape, hb.output, by rw [setRow_size]; exact hb.size, fun k hk hne => (ho k hne).trans (hb.block k hk)⟩
theorem b_alloc {Wb W : World} (h : Below Wb.heap.size Wb W) (o : Obj) : Below Wb.heap.size Wb (W.alloc o) := h.alloc h.size o
theorem b_set2 {Wb W : World} (h : Below Wb.heap.size Wb W) {p : Nat} (hp : Wb.heap.size ≤ p) (u v : Value) : Below Wb.heap.size Wb ((W.setCell ⟨p, 0, none⟩ u).setCell ⟨p, 1, none⟩ v) := (h.setCell hp u).setCell hp v
theorem set2_obj {W : World} {p : Nat} {x y : Value} {t : TypeId} (h : W.heap[p]? = some (.cells #[x, y] t (0, 0))) (u v : Value) : ((W.setCell ⟨p, 0, none⟩ u).setCell ⟨p, 1, none⟩ v).heap[p]? = some (.cells #[u, v] t (0, 0)) := by
 have h1 := heap_setCell_same W p 0 #[x, y] t u h
 have h2 := heap_setCell_same (W.setCell ⟨p, 0, none⟩ u) p 1 #[u, y] t v h1
 exact h2
theorem Sv.set2 {W : World} {m : Option Nat} {l : List Fs.Item} {p : Nat} {x y : Value} (h : Sv W m l) (hp : W.heap[p]? = some (.cells #[x, y] 88 (0, 0))) (u v : Value) (h1 : Dg (W.setCell ⟨p, 0, none⟩ u)) (h2 : Dg ((W.setCell ⟨p, 0, none⟩ u).setCell ⟨p, 1, none⟩ v)) : Sv ((W.setCell ⟨p, 0, none⟩ u).setCell ⟨p, 1, none⟩ v) m l :=
 (h.kept (Kept.cell hp (by decide) (by decide) 0 u) h1).kept (Kept.cell (heap_setCell_same W p 0 #[x, y] 88 u hp) (by decide) (by decide) 1 v) h2
set_option maxHeartbeats 16000000 in
theorem pDo_kind (g : Nat) (m : Option Nat) (nx : Int) (l : List Fs.Item) (kd : Int) (oa ob : ByteArray) (oo og on : Int) (od : ByteArray) (w : World) (h : Sv w m l) (hg : w.heap[g]? = some (.cells #[pv m, .int .i64 nx] 91 (0, 0))) (hkw : (ik kd).wf = true) (pa : oa.size ≤ 140737488355328) (pb : ob.size ≤ 140737488355328) (hk : fdo kd = none) {R : Except Int Fs.FS} (hR : R = .error 16) : Calls Tryz.prog 15 #[.pointer (some ⟨g, 0, none⟩), .agg #[.int .i64 kd, .string oa, .string ob, .int .i64 oo, .int .i64 og, .int .i64 on, .string od]] w (DoneP R g w) := by
 have HDo := Lib.hid doings_any
 have HPa := Lib.hid (fun W => isPath_any oa W pa)
 have HPb := Lib.hid (fun W => isPath_any ob W pb)
 have HTw := Lib.hid (fun W => two_any kd W)
 have HG := Lib.hid hg
 have HSv := Lib.hid h
 clear hg h pa pb
 have HB := Lib.hid (show Bxs w [(w.heap.size, #[.int .i64 kd, .string oa, .string ob, .int .i64 oo, .int .i64 og, .int .i64 on, .string od], 35)] (w.alloc (.cells #[.int .i64 kd, .string oa, .string ob, .int .i64 oo, .int .i64 og, .int .i64 on, .string od] 35)) from Bxs.one w _ _)
 go_enter Tryz.func15, Tryz.ntmps15
 go_wp2_with fail
 generalize w.alloc (.cells #[.int .i64 kd, .string oa, .string ob, .int .i64 oo, .int .i64 og, .int .i64 on, .string od] 35) = W0 at HB ⊢
 have HSx := Lib.hid (show ∀ W, Below W0.heap.size W0 W → W.cell? ⟨w.heap.size, 0, none⟩ = some (.int .i64 kd) ∧ Below W0.heap.size W0 W from fun W hb => ⟨(HB.out.kept hb).cell 0 rfl 0, hb⟩)
 have hBd := (Below.refl W0.heap.size W0).drew
 have c0 : W0.cell? ⟨w.heap.size, 0, none⟩ = some (.int .i64 kd) := HB.out.cell 0 rfl 0
 go_wp2_with fail
 go_region_held3 (fun W => W.cell? ⟨w.heap.size, 0, none⟩ = some (.int .i64 kd) ∧ Below W0.heap.size W0 W)
  (first | exact HSx.out _ (by assumption))
  (first | (go_at_call 54; (with_reducible refine (HDo.out _).mono ?_); rintro e w1 ⟨mb, rfl, hM, hw1⟩; have hb1 := T8.btrans hw1 (by assumption); have hl := hM.look_ok Tryz.underlying107 (z := .nilFunc) rfl hkw; rw [hk] at hl; dsimp only [Option.getD, Option.isSome] at hl))
 all_goals
  have HB := Lib.hid (HB.out.kept hb1)
  clear c0 hb1 hw1 hBd HSx hM hl
  obtain ⟨b0_0, b0_1, b0_2, b0_3, b0_4, b0_5, b0_6⟩ := HB.out.c7 0 rfl
  go_wp2_with fail
  go_ret
  rw [hR]
  exact ⟨by decide, rfl, HB.out.below⟩
set_option maxHeartbeats 16000000 in
theorem pDo_a (g : Nat) (m : Option Nat) (nx : Int) (l : List Fs.Item) (kd : Int) (oa ob : ByteArray) (oo og on : Int) (od : ByteArray) (w : World) (h : Sv w m l) (hg : w.heap[g]? = some (.cells #[pv m, .int .i64 nx] 91 (0, 0))) (hkw : (ik kd).wf = true) (pa : oa.size ≤ 140737488355328) (pb : ob.size ≤ 140737488355328) (gk : Nat) (_eg : ∀ args w, (callFunc gk args).run Tryz.prog w = .ok (.enter gk args) w) (hk : fdo kd = some (fnv gk)) (ha : spl oa = none) {R : Except Int Fs.FS} (hR : R = .error 14) : Calls Tryz.prog 15 #[.pointer (some ⟨g, 0, none⟩), .agg #[.int .i64 kd, .string oa, .string ob, .int .i64 oo, .int .i64 og, .int .i64 on, .string od]] w (DoneP R g w) := by
 have HDo := Lib.hid doings_any
 have HPa := Lib.hid (fun W => isPath_any oa W pa)
 have HPb := Lib.hid (fun W => isPath_any ob W pb)
 have HTw := Lib.hid (fun W => two_any kd W)
 have HG := Lib.hid hg
 have HSv := Lib.hid h
 clear hg h pa pb
 rw [ha] at HPa
 dsimp only [Option.isSome] at HPa
 unfold fnv at hk
 have HB := Lib.hid (show Bxs w [(w.heap.size, #[.int .i64 kd, .string oa, .string ob, .int .i64 oo, .int .i64 og, .int .i64 on, .string od], 35)] (w.alloc (.cells #[.int .i64 kd, .string oa, .string ob, .int .i64 oo, .int .i64 og, .int .i64 on, .string od] 35)) from Bxs.one w _ _)
 go_enter Tryz.func15, Tryz.ntmps15
 go_wp2_with fail
 generalize w.alloc (.cells #[.int .i64 kd, .string oa, .string ob, .int .i64 oo, .int .i64 og, .int .i64 on, .string od] 35) = W0 at HB ⊢
 have HSx := Lib.hid (show ∀ W, Below W0.heap.size W0 W → W.cell? ⟨w.heap.size, 0, none⟩ = some (.int .i64 kd) ∧ Below W0.heap.size W0 W from fun W hb => ⟨(HB.out.kept hb).cell 0 rfl 0, hb⟩)
 have hBd := (Below.refl W0.heap.size W0).drew
 have c0 : W0.cell? ⟨w.heap.size, 0, none⟩ = some (.int .i64 kd) := HB.out.cell 0 rfl 0
 go_wp2_with fail
 go_region_held3 (fun W => W.cell? ⟨w.heap.size, 0, none⟩ = some (.int .i64 kd) ∧ Below W0.heap.size W0 W)
  (first | exact HSx.out _ (by assumption))
  (first | (go_at_call 54; (with_reducible refine (HDo.out _).mono ?_); rintro e w1 ⟨mb, rfl, hM, hw1⟩; have hb1 := T8.btrans hw1 (by assumption); have hl := hM.look_ok Tryz.underlying107 (z := .nilFunc) rfl hkw; rw [hk] at hl; dsimp only [Option.getD, Option.isSome] at hl))
 all_goals
  have HB := Lib.hid (HB.out.kept hb1)
  clear c0 hb1 hw1 hBd HSx hM hl
  obtain ⟨b0_0, b0_1, b0_2, b0_3, b0_4, b0_5, b0_6⟩ := HB.out.c7 0 rfl
  go_wp2_with fail
  refine (HPa.out w1).mono ?_
  rintro e w1 ⟨rfl, hb⟩
  have hbk := hb
  have HB := Lib.hid (HB.out.kept hbk)
  clear b0_0 b0_1 b0_2 b0_3 b0_4 b0_5 b0_6
  clear hbk
  obtain ⟨b0_0, b0_1, b0_2, b0_3, b0_4, b0_5, b0_6⟩ := HB.out.c7 0 rfl
  dsimp only
  go_wp2_with fail
  go_ret
  rw [hR]
  exact ⟨by decide, rfl, HB.out.below⟩
set_option maxHeartbeats 16000000 in
theorem pDo_b (g : Nat) (m : Option Nat) (nx : Int) (l : List Fs.Item) (kd : Int) (oa ob : ByteArray) (oo og on : Int) (od : ByteArray) (w : World) (h : Sv w m l) (hg : w.heap[g]? = some (.cells #[pv m, .int .i64 nx] 91 (0, 0))) (hkw : (ik kd).wf = true) (pa : oa.size ≤ 140737488355328) (pb : ob.size ≤ 140737488355328) (gk : Nat) (_eg : ∀ args w, (callFunc gk args).run Tryz.prog w = .ok (.enter gk args) w) (hk : fdo kd = some (fnv gk)) {na : List ByteArray} (ha : spl oa = some na) (ht : twoB kd = true) (hb0 : spl ob = none) {R : Except Int Fs.FS} (hR : R = .error 14) : Calls Tryz.prog 15 #[.pointer (some ⟨g, 0, none⟩), .agg #[.int .i64 kd, .string oa, .string ob, .int .i64 oo, .int .i64 og, .int .i64 on, .string od]] w (DoneP R g w) := by
 have HDo := Lib.hid doings_any
 have HPa := Lib.hid (fun W => isPath_any oa W pa)
 have HPb := Lib.hid (fun W => isPath_any ob W pb)
 have HTw := Lib.hid (fun W => two_any kd W)
 have HG := Lib.hid hg
 have HSv := Lib.hid h
 clear hg h pa pb
 rw [ha] at HPa
 rw [ht] at HTw
 rw [hb0] at HPb
 dsimp only [Option.isSome] at HPa HPb
 unfold fnv at hk
 have HB := Lib.hid (show Bxs w [(w.heap.size, #[.int .i64 kd, .string oa, .string ob, .int .i64 oo, .int .i64 og, .int .i64 on, .string od], 35)] (w.alloc (.cells #[.int .i64 kd, .string oa, .string ob, .int .i64 oo, .int .i64 og, .int .i64 on, .string od] 35)) from Bxs.one w _ _)
 go_enter Tryz.func15, Tryz.ntmps15
 go_wp2_with fail
 generalize w.alloc (.cells #[.int .i64 kd, .string oa, .string ob, .int .i64 oo, .int .i64 og, .int .i64 on, .string od] 35) = W0 at HB ⊢
 have HSx := Lib.hid (show ∀ W, Below W0.heap.size W0 W → W.cell? ⟨w.heap.size, 0, none⟩ = some (.int .i64 kd) ∧ Below W0.heap.size W0 W from fun W hb => ⟨(HB.out.kept hb).cell 0 rfl 0, hb⟩)
 have hBd := (Below.refl W0.heap.size W0).drew
 have c0 : W0.cell? ⟨w.heap.size, 0, none⟩ = some (.int .i64 kd) := HB.out.cell 0 rfl 0
 go_wp2_with fail
 go_region_held3 (fun W => W.cell? ⟨w.heap.size, 0, none⟩ = some (.int .i64 kd) ∧ Below W0.heap.size W0 W)
  (first | exact HSx.out _ (by assumption))
  (first | (go_at_call 54; (with_reducible refine (HDo.out _).mono ?_); rintro e w1 ⟨mb, rfl, hM, hw1⟩; have hb1 := T8.btrans hw1 (by assumption); have hl := hM.look_ok Tryz.underlying107 (z := .nilFunc) rfl hkw; rw [hk] at hl; dsimp only [Option.getD, Option.isSome] at hl))
 all_goals
  have HB := Lib.hid (HB.out.kept hb1)
  clear c0 hb1 hw1 hBd HSx hM hl
  obtain ⟨b0_0, b0_1, b0_2, b0_3, b0_4, b0_5, b0_6⟩ := HB.out.c7 0 rfl
  go_wp2_with fail
  refine (HPa.out w1).mono ?_
  rintro e w1 ⟨rfl, hb⟩
  have hbk := hb
  have HB := Lib.hid (HB.out.kept hbk)
  clear b0_0 b0_1 b0_2 b0_3 b0_4 b0_5 b0_6
  clear hbk
  obtain ⟨b0_0, b0_1, b0_2, b0_3, b0_4, b0_5, b0_6⟩ := HB.out.c7 0 rfl
  dsimp only
  go_wp2_with fail
  refine (HTw.out w1).mono ?_
  rintro e w2 ⟨rfl, hb⟩
  have hbk := hb
  have HB := Lib.hid (HB.out.kept hbk)
  clear b0_0 b0_1 b0_2 b0_3 b0_4 b0_5 b0_6
  clear hbk
  obtain ⟨b0_0, b0_1, b0_2, b0_3, b0_4, b0_5, b0_6⟩ := HB.out.c7 0 rfl
  dsimp only
  go_wp2_with fail
  refine (HPb.out w2).mono ?_
  rintro e w3 ⟨rfl, hb⟩
  have hbk := hb
  have HB := Lib.hid (HB.out.kept hbk)
  clear b0_0 b0_1 b0_2 b0_3 b0_4 b0_5 b0_6
  clear hbk
  obtain ⟨b0_0, b0_1, b0_2, b0_3, b0_4, b0_5, b0_6⟩ := HB.out.c7 0 rfl
  dsimp only
  go_wp2_with fail
  go_ret
  rw [hR]
  exact ⟨by decide, rfl, HB.out.below⟩
set_option maxHeartbeats 16000000 in
theorem pDo_err2 (g : Nat) (m : Option Nat) (nx : Int) (l : List Fs.Item) (kd : Int) (oa ob : ByteArray) (oo og on : Int) (od : ByteArray) (w : World) (h : Sv w m l) (hg : w.heap[g]? = some (.cells #[pv m, .int .i64 nx] 91 (0, 0))) (hkw : (ik kd).wf = true) (pa : oa.size ≤ 140737488355328) (pb : ob.size ≤ 140737488355328) (gk : Nat) (eg : ∀ args w, (callFunc gk args).run Tryz.prog w = .ok (.enter gk args) w) (hk : fdo kd = some (fnv gk)) {na : List ByteArray} (ha : spl oa = some na) (ht : twoB kd = true) {nb : List ByteArray} (hb0 : spl ob = some nb) (ec : Int) (hC : ∀ W, Below w.heap.size w W → Calls Tryz.prog gk #[stv m nx, .agg #[.int .i64 kd, .string oa, .string ob, .int .i64 oo, .int .i64 og, .int .i64 on, .string od]] W (Stated (.error ec) W)) : Calls Tryz.prog 15 #[.pointer (some ⟨g, 0, none⟩), .agg #[.int .i64 kd, .string oa, .string ob, .int .i64 oo, .int .i64 og, .int .i64 on, .string od]] w (DoneP (.error ec) g w) := by
 have HDo := Lib.hid doings_any
 have HPa := Lib.hid (fun W => isPath_any oa W pa)
 have HPb := Lib.hid (fun W => isPath_any ob W pb)
 have HTw := Lib.hid (fun W => two_any kd W)
 have HG := Lib.hid hg
 have HSv := Lib.hid h
 clear hg h pa pb
 rw [ha] at HPa
 rw [ht] at HTw
 rw [hb0] at HPb
 dsimp only [Option.isSome] at HPa HPb
 unfold fnv at hk
 have HC := Lib.hid hC
 clear hC
 have HB := Lib.hid (show Bxs w [(w.heap.size, #[.int .i64 kd, .string oa, .string ob, .int .i64 oo, .int .i64 og, .int .i64 on, .string od], 35)] (w.alloc (.cells #[.int .i64 kd, .string oa, .string ob, .int .i64 oo, .int .i64 og, .int .i64 on, .string od] 35)) from Bxs.one w _ _)
 go_enter Tryz.func15, Tryz.ntmps15
 go_wp2_with fail
 generalize w.alloc (.cells #[.int .i64 kd, .string oa, .string ob, .int .i64 oo, .int .i64 og, .int .i64 on, .string od] 35) = W0 at HB ⊢
 have HSx := Lib.hid (show ∀ W, Below W0.heap.size W0 W → W.cell? ⟨w.heap.size, 0, none⟩ = some (.int .i64 kd) ∧ Below W0.heap.size W0 W from fun W hb => ⟨(HB.out.kept hb).cell 0 rfl 0, hb⟩)
 have hBd := (Below.refl W0.heap.size W0).drew
 have c0 : W0.cell? ⟨w.heap.size, 0, none⟩ = some (.int .i64 kd) := HB.out.cell 0 rfl 0
 go_wp2_with fail
 go_region_held3 (fun W => W.cell? ⟨w.heap.size, 0, none⟩ = some (.int .i64 kd) ∧ Below W0.heap.size W0 W)
  (first | exact HSx.out _ (by assumption))
  (first | (go_at_call 54; (with_reducible refine (HDo.out _).mono ?_); rintro e w1 ⟨mb, rfl, hM, hw1⟩; have hb1 := T8.btrans hw1 (by assumption); have hl := hM.look_ok Tryz.underlying107 (z := .nilFunc) rfl hkw; rw [hk] at hl; dsimp only [Option.getD, Option.isSome] at hl))
 all_goals
  have HB := Lib.hid (HB.out.kept hb1)
  clear c0 hb1 hw1 hBd HSx hM hl
  obtain ⟨b0_0, b0_1, b0_2, b0_3, b0_4, b0_5, b0_6⟩ := HB.out.c7 0 rfl
  go_wp2_with fail
  refine (HPa.out w1).mono ?_
  rintro e w1 ⟨rfl, hb⟩
  have hbk := hb
  have HB := Lib.hid (HB.out.kept hbk)
  clear b0_0 b0_1 b0_2 b0_3 b0_4 b0_5 b0_6
  clear hbk
  obtain ⟨b0_0, b0_1, b0_2, b0_3, b0_4, b0_5, b0_6⟩ := HB.out.c7 0 rfl
  dsimp only
  go_wp2_with fail
  refine (HTw.out w1).mono ?_
  rintro e w2 ⟨rfl, hb⟩
  have hbk := hb
  have HB := Lib.hid (HB.out.kept hbk)
  clear b0_0 b0_1 b0_2 b0_3 b0_4 b0_5 b0_6
  clear hbk
  obtain ⟨b0_0, b0_1, b0_2, b0_3, b0_4, b0_5, b0_6⟩ := HB.out.c7 0 rfl
  dsimp only
  go_wp2_with fail
  refine (HPb.out w2).mono ?_
  rintro e w3 ⟨rfl, hb⟩
  have hbk := hb
  have HB := Lib.hid (HB.out.kept hbk)
  clear b0_0 b0_1 b0_2 b0_3 b0_4 b0_5 b0_6
  clear hbk
  obtain ⟨b0_0, b0_1, b0_2, b0_3, b0_4, b0_5, b0_6⟩ := HB.out.c7 0 rfl
  dsimp only
  go_wp2_with fail
  clear b0_0 b0_1 b0_2 b0_3 b0_4 b0_5 b0_6
  have hgB := (HB.out.below.block _ (lt_of_obj HG.out)).trans HG.out
  have HSx := Lib.hid (show ∀ W, Below w3.heap.size w3 W → W.cell? ⟨g, 0, none⟩ = some (pv m) ∧ W.cell? ⟨g, 1, none⟩ = some (.int .i64 nx) ∧ W.cell? ⟨w.heap.size, 0, none⟩ = some (.int .i64 kd) ∧ W.cell? ⟨w.heap.size, 1, none⟩ = some (.string oa) ∧ W.cell? ⟨w.heap.size, 2, none⟩ = some (.string ob) ∧ W.cell? ⟨w.heap.size, 3, none⟩ = some (.int .i64 oo) ∧ W.cell? ⟨w.heap.size, 4, none⟩ = some (.int .i64 og) ∧ W.cell? ⟨w.heap.size, 5, none⟩ = some (.int .i64 on) ∧ W.cell? ⟨w.heap.size, 6, none⟩ = some (.string od) ∧ Below w3.heap.size w3 W from fun W hb => ⟨cell_obj ((hb.block _ (lt_of_obj hgB)).trans hgB) 0, cell_obj ((hb.block _ (lt_of_obj hgB)).trans hgB) 1, (HB.out.kept hb).cell 0 rfl 0, (HB.out.kept hb).cell 0 rfl 1, (HB.out.kept hb).cell 0 rfl 2, (HB.out.kept hb).cell 0 rfl 3, (HB.out.kept hb).cell 0 rfl 4, (HB.out.kept hb).cell 0 rfl 5, (HB.out.kept hb).cell 0 rfl 6, hb⟩)
  clear hgB
  obtain ⟨s0, s1, b0_0, b0_1, b0_2, b0_3, b0_4, b0_5, b0_6, -⟩ := HSx.out w3 (Below.refl _ _)
  have HWt := Lib.hid (show ∀ W, Below w3.heap.size w3 W → Below w.heap.size w W from fun W hb => HB.out.below.trans (hb.mono HB.out.below.size))
  have hBd := (Below.refl w3.heap.size w3).drew
  have hBa := b_alloc hBd (.cells #[.pointer none, .int .i64 0] 88)
  have hBe := (b_alloc (Below.refl w3.heap.size w3) (.cells #[.pointer none, .int .i64 0] 88)).drew
  have HZe := Lib.hid (show (w3.alloc (.cells #[.pointer none, .int .i64 0] 88)).drew.heap[w3.heap.size]? = some (.cells #[.pointer none, .int .i64 0] 88 (0, 0)) from heap_alloc_new _ _)
  have HZd := Lib.hid (show (w3.drew.alloc (.cells #[.pointer none, .int .i64 0] 88)).heap[w3.drew.heap.size]? = some (.cells #[.pointer none, .int .i64 0] 88 (0, 0)) from heap_alloc_new _ _)
  go_wp2_with fail
  go_region_held3 (fun W => W.cell? ⟨g, 0, none⟩ = some (pv m) ∧ W.cell? ⟨g, 1, none⟩ = some (.int .i64 nx) ∧ W.cell? ⟨w.heap.size, 0, none⟩ = some (.int .i64 kd) ∧ W.cell? ⟨w.heap.size, 1, none⟩ = some (.string oa) ∧ W.cell? ⟨w.heap.size, 2, none⟩ = some (.string ob) ∧ W.cell? ⟨w.heap.size, 3, none⟩ = some (.int .i64 oo) ∧ W.cell? ⟨w.heap.size, 4, none⟩ = some (.int .i64 og) ∧ W.cell? ⟨w.heap.size, 5, none⟩ = some (.int .i64 on) ∧ W.cell? ⟨w.heap.size, 6, none⟩ = some (.string od) ∧ Below w3.heap.size w3 W)
   (first | exact HSx.out _ (by assumption) | exact HSx.out _ (b_alloc (by assumption) _) | exact HSx.out _ (b_set2 (by assumption) (Nat.le_refl _) _ _))
   (first | ((with_reducible refine (HC.out _ (HWt.out _ (by assumption))).mono ?_); rintro e w20 ⟨hw20, hne, rfl⟩; have hb20 := T8.btrans hw20 (by assumption); try (have HZ6 := Lib.hid ((hw20.block _ (lt_of_obj HZe.out)).trans HZe.out); have z0 := cell_obj HZ6.out 0; have z1 := cell_obj HZ6.out 1; have z2 := free_obj HZ6.out 0; have z3 := free_obj HZ6.out 1); try (have HZ6 := Lib.hid ((hw20.block _ (lt_of_obj HZd.out)).trans HZd.out); have z0 := cell_obj HZ6.out 0; have z1 := cell_obj HZ6.out 1; have z2 := free_obj HZ6.out 0; have z3 := free_obj HZ6.out 1)))
  all_goals
   clear HSx hBd hBa hBe HZd HZe s0 s1 b0_0 b0_1 b0_2 b0_3 b0_4 b0_5 b0_6
   go_wp2_with fail
   go_ret
   first
    |exact ⟨hne, rfl, HWt.out _ (b_set2 hb20 (Nat.le_refl _) _ _)⟩
    |exact ⟨hne, rfl, HWt.out _ (b_alloc hb20 _)⟩
set_option maxHeartbeats 16000000 in
theorem pDo_ok2 (g : Nat) (m : Option Nat) (nx : Int) (l : List Fs.Item) (kd : Int) (oa ob : ByteArray) (oo og on : Int) (od : ByteArray) (w : World) (h : Sv w m l) (hg : w.heap[g]? = some (.cells #[pv m, .int .i64 nx] 91 (0, 0))) (hkw : (ik kd).wf = true) (pa : oa.size ≤ 140737488355328) (pb : ob.size ≤ 140737488355328) (gk : Nat) (eg : ∀ args w, (callFunc gk args).run Tryz.prog w = .ok (.enter gk args) w) (hk : fdo kd = some (fnv gk)) {na : List ByteArray} (ha : spl oa = some na) (ht : twoB kd = true) {nb : List ByteArray} (hb0 : spl ob = some nb) (l2 : List Fs.Item) (n2 : Int) (hC : ∀ W, Below w.heap.size w W → Calls Tryz.prog gk #[stv m nx, .agg #[.int .i64 kd, .string oa, .string ob, .int .i64 oo, .int .i64 og, .int .i64 on, .string od]] W (Stated (.ok ⟨l2, n2⟩) W)) : Calls Tryz.prog 15 #[.pointer (some ⟨g, 0, none⟩), .agg #[.int .i64 kd, .string oa, .string ob, .int .i64 oo, .int .i64 og, .int .i64 on, .string od]] w (DoneP (.ok ⟨l2, n2⟩) g w) := by
 have HDo := Lib.hid doings_any
 have HPa := Lib.hid (fun W => isPath_any oa W pa)
 have HPb := Lib.hid (fun W => isPath_any ob W pb)
 have HTw := Lib.hid (fun W => two_any kd W)
 have HG := Lib.hid hg
 have HSv := Lib.hid h
 clear hg h pa pb
 rw [ha] at HPa
 rw [ht] at HTw
 rw [hb0] at HPb
 dsimp only [Option.isSome] at HPa HPb
 unfold fnv at hk
 have HC := Lib.hid hC
 clear hC
 have HB := Lib.hid (show Bxs w [(w.heap.size, #[.int .i64 kd, .string oa, .string ob, .int .i64 oo, .int .i64 og, .int .i64 on, .string od], 35)] (w.alloc (.cells #[.int .i64 kd, .string oa, .string ob, .int .i64 oo, .int .i64 og, .int .i64 on, .string od] 35)) from Bxs.one w _ _)
 go_enter Tryz.func15, Tryz.ntmps15
 go_wp2_with fail
 generalize w.alloc (.cells #[.int .i64 kd, .string oa, .string ob, .int .i64 oo, .int .i64 og, .int .i64 on, .string od] 35) = W0 at HB ⊢
 have HSx := Lib.hid (show ∀ W, Below W0.heap.size W0 W → W.cell? ⟨w.heap.size, 0, none⟩ = some (.int .i64 kd) ∧ Below W0.heap.size W0 W from fun W hb => ⟨(HB.out.kept hb).cell 0 rfl 0, hb⟩)
 have hBd := (Below.refl W0.heap.size W0).drew
 have c0 : W0.cell? ⟨w.heap.size, 0, none⟩ = some (.int .i64 kd) := HB.out.cell 0 rfl 0
 go_wp2_with fail
 go_region_held3 (fun W => W.cell? ⟨w.heap.size, 0, none⟩ = some (.int .i64 kd) ∧ Below W0.heap.size W0 W)
  (first | exact HSx.out _ (by assumption))
  (first | (go_at_call 54; (with_reducible refine (HDo.out _).mono ?_); rintro e w1 ⟨mb, rfl, hM, hw1⟩; have hb1 := T8.btrans hw1 (by assumption); have hl := hM.look_ok Tryz.underlying107 (z := .nilFunc) rfl hkw; rw [hk] at hl; dsimp only [Option.getD, Option.isSome] at hl))
 all_goals
  have HB := Lib.hid (HB.out.kept hb1)
  clear c0 hb1 hw1 hBd HSx hM hl
  obtain ⟨b0_0, b0_1, b0_2, b0_3, b0_4, b0_5, b0_6⟩ := HB.out.c7 0 rfl
  go_wp2_with fail
  refine (HPa.out w1).mono ?_
  rintro e w1 ⟨rfl, hb⟩
  have hbk := hb
  have HB := Lib.hid (HB.out.kept hbk)
  clear b0_0 b0_1 b0_2 b0_3 b0_4 b0_5 b0_6
  clear hbk
  obtain ⟨b0_0, b0_1, b0_2, b0_3, b0_4, b0_5, b0_6⟩ := HB.out.c7 0 rfl
  dsimp only
  go_wp2_with fail
  refine (HTw.out w1).mono ?_
  rintro e w2 ⟨rfl, hb⟩
  have hbk := hb
  have HB := Lib.hid (HB.out.kept hbk)
  clear b0_0 b0_1 b0_2 b0_3 b0_4 b0_5 b0_6
  clear hbk
  obtain ⟨b0_0, b0_1, b0_2, b0_3, b0_4, b0_5, b0_6⟩ := HB.out.c7 0 rfl
  dsimp only
  go_wp2_with fail
  refine (HPb.out w2).mono ?_
  rintro e w3 ⟨rfl, hb⟩
  have hbk := hb
  have HB := Lib.hid (HB.out.kept hbk)
  clear b0_0 b0_1 b0_2 b0_3 b0_4 b0_5 b0_6
  clear hbk
  obtain ⟨b0_0, b0_1, b0_2, b0_3, b0_4, b0_5, b0_6⟩ := HB.out.c7 0 rfl
  dsimp only
  go_wp2_with fail
  clear b0_0 b0_1 b0_2 b0_3 b0_4 b0_5 b0_6
  have hgB := (HB.out.below.block _ (lt_of_obj HG.out)).trans HG.out
  have HSx := Lib.hid (show ∀ W, Below w3.heap.size w3 W → W.cell? ⟨g, 0, none⟩ = some (pv m) ∧ W.cell? ⟨g, 1, none⟩ = some (.int .i64 nx) ∧ W.cell? ⟨w.heap.size, 0, none⟩ = some (.int .i64 kd) ∧ W.cell? ⟨w.heap.size, 1, none⟩ = some (.string oa) ∧ W.cell? ⟨w.heap.size, 2, none⟩ = some (.string ob) ∧ W.cell? ⟨w.heap.size, 3, none⟩ = some (.int .i64 oo) ∧ W.cell? ⟨w.heap.size, 4, none⟩ = some (.int .i64 og) ∧ W.cell? ⟨w.heap.size, 5, none⟩ = some (.int .i64 on) ∧ W.cell? ⟨w.heap.size, 6, none⟩ = some (.string od) ∧ Below w3.heap.size w3 W from fun W hb => ⟨cell_obj ((hb.block _ (lt_of_obj hgB)).trans hgB) 0, cell_obj ((hb.block _ (lt_of_obj hgB)).trans hgB) 1, (HB.out.kept hb).cell 0 rfl 0, (HB.out.kept hb).cell 0 rfl 1, (HB.out.kept hb).cell 0 rfl 2, (HB.out.kept hb).cell 0 rfl 3, (HB.out.kept hb).cell 0 rfl 4, (HB.out.kept hb).cell 0 rfl 5, (HB.out.kept hb).cell 0 rfl 6, hb⟩)
  clear hgB
  obtain ⟨s0, s1, b0_0, b0_1, b0_2, b0_3, b0_4, b0_5, b0_6, -⟩ := HSx.out w3 (Below.refl _ _)
  have HWt := Lib.hid (show ∀ W, Below w3.heap.size w3 W → Below w.heap.size w W from fun W hb => HB.out.below.trans (hb.mono HB.out.below.size))
  have hBd := (Below.refl w3.heap.size w3).drew
  have hBa := b_alloc hBd (.cells #[.pointer none, .int .i64 0] 88)
  have hBe := (b_alloc (Below.refl w3.heap.size w3) (.cells #[.pointer none, .int .i64 0] 88)).drew
  have HZe := Lib.hid (show (w3.alloc (.cells #[.pointer none, .int .i64 0] 88)).drew.heap[w3.heap.size]? = some (.cells #[.pointer none, .int .i64 0] 88 (0, 0)) from heap_alloc_new _ _)
  have HZd := Lib.hid (show (w3.drew.alloc (.cells #[.pointer none, .int .i64 0] 88)).heap[w3.drew.heap.size]? = some (.cells #[.pointer none, .int .i64 0] 88 (0, 0)) from heap_alloc_new _ _)
  go_wp2_with fail
  go_region_held3 (fun W => W.cell? ⟨g, 0, none⟩ = some (pv m) ∧ W.cell? ⟨g, 1, none⟩ = some (.int .i64 nx) ∧ W.cell? ⟨w.heap.size, 0, none⟩ = some (.int .i64 kd) ∧ W.cell? ⟨w.heap.size, 1, none⟩ = some (.string oa) ∧ W.cell? ⟨w.heap.size, 2, none⟩ = some (.string ob) ∧ W.cell? ⟨w.heap.size, 3, none⟩ = some (.int .i64 oo) ∧ W.cell? ⟨w.heap.size, 4, none⟩ = some (.int .i64 og) ∧ W.cell? ⟨w.heap.size, 5, none⟩ = some (.int .i64 on) ∧ W.cell? ⟨w.heap.size, 6, none⟩ = some (.string od) ∧ Below w3.heap.size w3 W)
   (first | exact HSx.out _ (by assumption) | exact HSx.out _ (b_alloc (by assumption) _) | exact HSx.out _ (b_set2 (by assumption) (Nat.le_refl _) _ _))
   (first | ((with_reducible refine (HC.out _ (HWt.out _ (by assumption))).mono ?_); rintro e w20 ⟨hw20, m2, rfl, hS2⟩; have HS2 := Lib.hid hS2; clear hS2; have hb20 := T8.btrans hw20 (by assumption); try (have HZ6 := Lib.hid ((hw20.block _ (lt_of_obj HZe.out)).trans HZe.out); have z0 := cell_obj HZ6.out 0; have z1 := cell_obj HZ6.out 1; have z2 := free_obj HZ6.out 0; have z3 := free_obj HZ6.out 1); try (have HZ6 := Lib.hid ((hw20.block _ (lt_of_obj HZd.out)).trans HZd.out); have z0 := cell_obj HZ6.out 0; have z1 := cell_obj HZ6.out 1; have z2 := free_obj HZ6.out 0; have z3 := free_obj HZ6.out 1)))
  all_goals
   first
    |have HF := Lib.hid (show Fin9 w3 _ w3.heap.size m2 n2 l2 from ⟨b_set2 hb20 (Nat.le_refl _) (pv m2) (.int .i64 n2), set2_obj HZ6.out _ _, HS2.out.set2 HZ6.out _ _ (HSv.out.dg.below (HWt.out _ (hb20.setCell (Nat.le_refl _) _))) (HSv.out.dg.below (HWt.out _ (b_set2 hb20 (Nat.le_refl _) _ _)))⟩)
     generalize (w20.setCell ⟨w3.heap.size, 0, none⟩ (pv m2)).setCell ⟨w3.heap.size, 1, none⟩ (.int .i64 n2) = W9 at HF ⊢
     generalize w3.heap.size = p9 at HF ⊢
    |have HF := Lib.hid (show Fin9 w3 _ w20.heap.size m2 n2 l2 from ⟨b_alloc hb20 (.cells #[pv m2, .int .i64 n2] 88), heap_alloc_new _ _, HS2.out.below (below_one _ _)⟩)
     generalize w20.alloc (.cells #[pv m2, .int .i64 n2] 88) = W9 at HF ⊢
     generalize w20.heap.size = p9 at HF ⊢
   have u0 : W9.cell? ⟨p9, 0, none⟩ = some (pv m2) := cell_obj HF.out.2.1 0
   have u1 : W9.cell? ⟨p9, 1, none⟩ = some (.int .i64 n2) := cell_obj HF.out.2.1 1
   have HB9 := Lib.hid (HWt.out _ HF.out.1)
   have HG9 := Lib.hid ((HB9.out.block _ (lt_of_obj HG.out)).trans HG.out)
   try clear z0 z1 z2 z3
   clear HSx hBd hBa hBe HZd HZe s0 s1 b0_0 b0_1 b0_2 b0_3 b0_4 b0_5 b0_6 HWt hb20 hw20
   go_wp2_with (first | (refine wpList_store_row rfl 88 _ _ rfl g #[pv m2, .int .i64 n2] rfl rfl 91 #[pv m, .int .i64 nx] HG9.out (by kernel_rfl) rfl (by rw [← Array.all_toList]; rfl) ?_) | fail)
   go_ret
   exact done_ok HB9.out HG9.out HF.out.2.2 rfl
set_option maxHeartbeats 16000000 in
theorem pDo_err1 (g : Nat) (m : Option Nat) (nx : Int) (l : List Fs.Item) (kd : Int) (oa ob : ByteArray) (oo og on : Int) (od : ByteArray) (w : World) (h : Sv w m l) (hg : w.heap[g]? = some (.cells #[pv m, .int .i64 nx] 91 (0, 0))) (hkw : (ik kd).wf = true) (pa : oa.size ≤ 140737488355328) (pb : ob.size ≤ 140737488355328) (gk : Nat) (eg : ∀ args w, (callFunc gk args).run Tryz.prog w = .ok (.enter gk args) w) (hk : fdo kd = some (fnv gk)) {na : List ByteArray} (ha : spl oa = some na) (ht : twoB kd = false)  (ec : Int) (hC : ∀ W, Below w.heap.size w W → Calls Tryz.prog gk #[stv m nx, .agg #[.int .i64 kd, .string oa, .string ob, .int .i64 oo, .int .i64 og, .int .i64 on, .string od]] W (Stated (.error ec) W)) : Calls Tryz.prog 15 #[.pointer (some ⟨g, 0, none⟩), .agg #[.int .i64 kd, .string oa, .string ob, .int .i64 oo, .int .i64 og, .int .i64 on, .string od]] w (DoneP (.error ec) g w) := by
 have HDo := Lib.hid doings_any
 have HPa := Lib.hid (fun W => isPath_any oa W pa)
 have HPb := Lib.hid (fun W => isPath_any ob W pb)
 have HTw := Lib.hid (fun W => two_any kd W)
 have HG := Lib.hid hg
 have HSv := Lib.hid h
 clear hg h pa pb
 rw [ha] at HPa
 rw [ht] at HTw
 dsimp only [Option.isSome] at HPa
 unfold fnv at hk
 have HC := Lib.hid hC
 clear hC
 have HB := Lib.hid (show Bxs w [(w.heap.size, #[.int .i64 kd, .string oa, .string ob, .int .i64 oo, .int .i64 og, .int .i64 on, .string od], 35)] (w.alloc (.cells #[.int .i64 kd, .string oa, .string ob, .int .i64 oo, .int .i64 og, .int .i64 on, .string od] 35)) from Bxs.one w _ _)
 go_enter Tryz.func15, Tryz.ntmps15
 go_wp2_with fail
 generalize w.alloc (.cells #[.int .i64 kd, .string oa, .string ob, .int .i64 oo, .int .i64 og, .int .i64 on, .string od] 35) = W0 at HB ⊢
 have HSx := Lib.hid (show ∀ W, Below W0.heap.size W0 W → W.cell? ⟨w.heap.size, 0, none⟩ = some (.int .i64 kd) ∧ Below W0.heap.size W0 W from fun W hb => ⟨(HB.out.kept hb).cell 0 rfl 0, hb⟩)
 have hBd := (Below.refl W0.heap.size W0).drew
 have c0 : W0.cell? ⟨w.heap.size, 0, none⟩ = some (.int .i64 kd) := HB.out.cell 0 rfl 0
 go_wp2_with fail
 go_region_held3 (fun W => W.cell? ⟨w.heap.size, 0, none⟩ = some (.int .i64 kd) ∧ Below W0.heap.size W0 W)
  (first | exact HSx.out _ (by assumption))
  (first | (go_at_call 54; (with_reducible refine (HDo.out _).mono ?_); rintro e w1 ⟨mb, rfl, hM, hw1⟩; have hb1 := T8.btrans hw1 (by assumption); have hl := hM.look_ok Tryz.underlying107 (z := .nilFunc) rfl hkw; rw [hk] at hl; dsimp only [Option.getD, Option.isSome] at hl))
 all_goals
  have HB := Lib.hid (HB.out.kept hb1)
  clear c0 hb1 hw1 hBd HSx hM hl
  obtain ⟨b0_0, b0_1, b0_2, b0_3, b0_4, b0_5, b0_6⟩ := HB.out.c7 0 rfl
  go_wp2_with fail
  refine (HPa.out w1).mono ?_
  rintro e w1 ⟨rfl, hb⟩
  have hbk := hb
  have HB := Lib.hid (HB.out.kept hbk)
  clear b0_0 b0_1 b0_2 b0_3 b0_4 b0_5 b0_6
  clear hbk
  obtain ⟨b0_0, b0_1, b0_2, b0_3, b0_4, b0_5, b0_6⟩ := HB.out.c7 0 rfl
  dsimp only
  go_wp2_with fail
  refine (HTw.out w1).mono ?_
  rintro e w2 ⟨rfl, hb⟩
  have hbk := hb
  have HB := Lib.hid (HB.out.kept hbk)
  clear b0_0 b0_1 b0_2 b0_3 b0_4 b0_5 b0_6
  clear hbk
  obtain ⟨b0_0, b0_1, b0_2, b0_3, b0_4, b0_5, b0_6⟩ := HB.out.c7 0 rfl
  dsimp only
  go_wp2_with fail
  clear b0_0 b0_1 b0_2 b0_3 b0_4 b0_5 b0_6
  have hgB := (HB.out.below.block _ (lt_of_obj HG.out)).trans HG.out
  have HSx := Lib.hid (show ∀ W, Below w2.heap.size w2 W → W.cell? ⟨g, 0, none⟩ = some (pv m) ∧ W.cell? ⟨g, 1, none⟩ = some (.int .i64 nx) ∧ W.cell? ⟨w.heap.size, 0, none⟩ = some (.int .i64 kd) ∧ W.cell? ⟨w.heap.size, 1, none⟩ = some (.string oa) ∧ W.cell? ⟨w.heap.size, 2, none⟩ = some (.string ob) ∧ W.cell? ⟨w.heap.size, 3, none⟩ = some (.int .i64 oo) ∧ W.cell? ⟨w.heap.size, 4, none⟩ = some (.int .i64 og) ∧ W.cell? ⟨w.heap.size, 5, none⟩ = some (.int .i64 on) ∧ W.cell? ⟨w.heap.size, 6, none⟩ = some (.string od) ∧ Below w2.heap.size w2 W from fun W hb => ⟨cell_obj ((hb.block _ (lt_of_obj hgB)).trans hgB) 0, cell_obj ((hb.block _ (lt_of_obj hgB)).trans hgB) 1, (HB.out.kept hb).cell 0 rfl 0, (HB.out.kept hb).cell 0 rfl 1, (HB.out.kept hb).cell 0 rfl 2, (HB.out.kept hb).cell 0 rfl 3, (HB.out.kept hb).cell 0 rfl 4, (HB.out.kept hb).cell 0 rfl 5, (HB.out.kept hb).cell 0 rfl 6, hb⟩)
  clear hgB
  obtain ⟨s0, s1, b0_0, b0_1, b0_2, b0_3, b0_4, b0_5, b0_6, -⟩ := HSx.out w2 (Below.refl _ _)
  have HWt := Lib.hid (show ∀ W, Below w2.heap.size w2 W → Below w.heap.size w W from fun W hb => HB.out.below.trans (hb.mono HB.out.below.size))
  have hBd := (Below.refl w2.heap.size w2).drew
  have hBa := b_alloc hBd (.cells #[.pointer none, .int .i64 0] 88)
  have hBe := (b_alloc (Below.refl w2.heap.size w2) (.cells #[.pointer none, .int .i64 0] 88)).drew
  have HZe := Lib.hid (show (w2.alloc (.cells #[.pointer none, .int .i64 0] 88)).drew.heap[w2.heap.size]? = some (.cells #[.pointer none, .int .i64 0] 88 (0, 0)) from heap_alloc_new _ _)
  have HZd := Lib.hid (show (w2.drew.alloc (.cells #[.pointer none, .int .i64 0] 88)).heap[w2.drew.heap.size]? = some (.cells #[.pointer none, .int .i64 0] 88 (0, 0)) from heap_alloc_new _ _)
  go_wp2_with fail
  go_region_held3 (fun W => W.cell? ⟨g, 0, none⟩ = some (pv m) ∧ W.cell? ⟨g, 1, none⟩ = some (.int .i64 nx) ∧ W.cell? ⟨w.heap.size, 0, none⟩ = some (.int .i64 kd) ∧ W.cell? ⟨w.heap.size, 1, none⟩ = some (.string oa) ∧ W.cell? ⟨w.heap.size, 2, none⟩ = some (.string ob) ∧ W.cell? ⟨w.heap.size, 3, none⟩ = some (.int .i64 oo) ∧ W.cell? ⟨w.heap.size, 4, none⟩ = some (.int .i64 og) ∧ W.cell? ⟨w.heap.size, 5, none⟩ = some (.int .i64 on) ∧ W.cell? ⟨w.heap.size, 6, none⟩ = some (.string od) ∧ Below w2.heap.size w2 W)
   (first | exact HSx.out _ (by assumption) | exact HSx.out _ (b_alloc (by assumption) _) | exact HSx.out _ (b_set2 (by assumption) (Nat.le_refl _) _ _))
   (first | ((with_reducible refine (HC.out _ (HWt.out _ (by assumption))).mono ?_); rintro e w20 ⟨hw20, hne, rfl⟩; have hb20 := T8.btrans hw20 (by assumption); try (have HZ6 := Lib.hid ((hw20.block _ (lt_of_obj HZe.out)).trans HZe.out); have z0 := cell_obj HZ6.out 0; have z1 := cell_obj HZ6.out 1; have z2 := free_obj HZ6.out 0; have z3 := free_obj HZ6.out 1); try (have HZ6 := Lib.hid ((hw20.block _ (lt_of_obj HZd.out)).trans HZd.out); have z0 := cell_obj HZ6.out 0; have z1 := cell_obj HZ6.out 1; have z2 := free_obj HZ6.out 0; have z3 := free_obj HZ6.out 1)))
  all_goals
   clear HSx hBd hBa hBe HZd HZe s0 s1 b0_0 b0_1 b0_2 b0_3 b0_4 b0_5 b0_6
   go_wp2_with fail
   go_ret
   first
    |exact ⟨hne, rfl, HWt.out _ (b_set2 hb20 (Nat.le_refl _) _ _)⟩
    |exact ⟨hne, rfl, HWt.out _ (b_alloc hb20 _)⟩
set_option maxHeartbeats 16000000 in
theorem pDo_ok1 (g : Nat) (m : Option Nat) (nx : Int) (l : List Fs.Item) (kd : Int) (oa ob : ByteArray) (oo og on : Int) (od : ByteArray) (w : World) (h : Sv w m l) (hg : w.heap[g]? = some (.cells #[pv m, .int .i64 nx] 91 (0, 0))) (hkw : (ik kd).wf = true) (pa : oa.size ≤ 140737488355328) (pb : ob.size ≤ 140737488355328) (gk : Nat) (eg : ∀ args w, (callFunc gk args).run Tryz.prog w = .ok (.enter gk args) w) (hk : fdo kd = some (fnv gk)) {na : List ByteArray} (ha : spl oa = some na) (ht : twoB kd = false)  (l2 : List Fs.Item) (n2 : Int) (hC : ∀ W, Below w.heap.size w W → Calls Tryz.prog gk #[stv m nx, .agg #[.int .i64 kd, .string oa, .string ob, .int .i64 oo, .int .i64 og, .int .i64 on, .string od]] W (Stated (.ok ⟨l2, n2⟩) W)) : Calls Tryz.prog 15 #[.pointer (some ⟨g, 0, none⟩), .agg #[.int .i64 kd, .string oa, .string ob, .int .i64 oo, .int .i64 og, .int .i64 on, .string od]] w (DoneP (.ok ⟨l2, n2⟩) g w) := by
 have HDo := Lib.hid doings_any
 have HPa := Lib.hid (fun W => isPath_any oa W pa)
 have HPb := Lib.hid (fun W => isPath_any ob W pb)
 have HTw := Lib.hid (fun W => two_any kd W)
 have HG := Lib.hid hg
 have HSv := Lib.hid h
 clear hg h pa pb
 rw [ha] at HPa
 rw [ht] at HTw
 dsimp only [Option.isSome] at HPa
 unfold fnv at hk
 have HC := Lib.hid hC
 clear hC
 have HB := Lib.hid (show Bxs w [(w.heap.size, #[.int .i64 kd, .string oa, .string ob, .int .i64 oo, .int .i64 og, .int .i64 on, .string od], 35)] (w.alloc (.cells #[.int .i64 kd, .string oa, .string ob, .int .i64 oo, .int .i64 og, .int .i64 on, .string od] 35)) from Bxs.one w _ _)
 go_enter Tryz.func15, Tryz.ntmps15
 go_wp2_with fail
 generalize w.alloc (.cells #[.int .i64 kd, .string oa, .string ob, .int .i64 oo, .int .i64 og, .int .i64 on, .string od] 35) = W0 at HB ⊢
 have HSx := Lib.hid (show ∀ W, Below W0.heap.size W0 W → W.cell? ⟨w.heap.size, 0, none⟩ = some (.int .i64 kd) ∧ Below W0.heap.size W0 W from fun W hb => ⟨(HB.out.kept hb).cell 0 rfl 0, hb⟩)
 have hBd := (Below.refl W0.heap.size W0).drew
 have c0 : W0.cell? ⟨w.heap.size, 0, none⟩ = some (.int .i64 kd) := HB.out.cell 0 rfl 0
 go_wp2_with fail
 go_region_held3 (fun W => W.cell? ⟨w.heap.size, 0, none⟩ = some (.int .i64 kd) ∧ Below W0.heap.size W0 W)
  (first | exact HSx.out _ (by assumption))
  (first | (go_at_call 54; (with_reducible refine (HDo.out _).mono ?_); rintro e w1 ⟨mb, rfl, hM, hw1⟩; have hb1 := T8.btrans hw1 (by assumption); have hl := hM.look_ok Tryz.underlying107 (z := .nilFunc) rfl hkw; rw [hk] at hl; dsimp only [Option.getD, Option.isSome] at hl))
 all_goals
  have HB := Lib.hid (HB.out.kept hb1)
  clear c0 hb1 hw1 hBd HSx hM hl
  obtain ⟨b0_0, b0_1, b0_2, b0_3, b0_4, b0_5, b0_6⟩ := HB.out.c7 0 rfl
  go_wp2_with fail
  refine (HPa.out w1).mono ?_
  rintro e w1 ⟨rfl, hb⟩
  have hbk := hb
  have HB := Lib.hid (HB.out.kept hbk)
  clear b0_0 b0_1 b0_2 b0_3 b0_4 b0_5 b0_6
  clear hbk
  obtain ⟨b0_0, b0_1, b0_2, b0_3, b0_4, b0_5, b0_6⟩ := HB.out.c7 0 rfl
  dsimp only
  go_wp2_with fail
  refine (HTw.out w1).mono ?_
  rintro e w2 ⟨rfl, hb⟩
  have hbk := hb
  have HB := Lib.hid (HB.out.kept hbk)
  clear b0_0 b0_1 b0_2 b0_3 b0_4 b0_5 b0_6
  clear hbk
  obtain ⟨b0_0, b0_1, b0_2, b0_3, b0_4, b0_5, b0_6⟩ := HB.out.c7 0 rfl
  dsimp only
  go_wp2_with fail
  clear b0_0 b0_1 b0_2 b0_3 b0_4 b0_5 b0_6
  have hgB := (HB.out.below.block _ (lt_of_obj HG.out)).trans HG.out
  have HSx := Lib.hid (show ∀ W, Below w2.heap.size w2 W → W.cell? ⟨g, 0, none⟩ = some (pv m) ∧ W.cell? ⟨g, 1, none⟩ = some (.int .i64 nx) ∧ W.cell? ⟨w.heap.size, 0, none⟩ = some (.int .i64 kd) ∧ W.cell? ⟨w.heap.size, 1, none⟩ = some (.string oa) ∧ W.cell? ⟨w.heap.size, 2, none⟩ = some (.string ob) ∧ W.cell? ⟨w.heap.size, 3, none⟩ = some (.int .i64 oo) ∧ W.cell? ⟨w.heap.size, 4, none⟩ = some (.int .i64 og) ∧ W.cell? ⟨w.heap.size, 5, none⟩ = some (.int .i64 on) ∧ W.cell? ⟨w.heap.size, 6, none⟩ = some (.string od) ∧ Below w2.heap.size w2 W from fun W hb => ⟨cell_obj ((hb.block _ (lt_of_obj hgB)).trans hgB) 0, cell_obj ((hb.block _ (lt_of_obj hgB)).trans hgB) 1, (HB.out.kept hb).cell 0 rfl 0, (HB.out.kept hb).cell 0 rfl 1, (HB.out.kept hb).cell 0 rfl 2, (HB.out.kept hb).cell 0 rfl 3, (HB.out.kept hb).cell 0 rfl 4, (HB.out.kept hb).cell 0 rfl 5, (HB.out.kept hb).cell 0 rfl 6, hb⟩)
  clear hgB
  obtain ⟨s0, s1, b0_0, b0_1, b0_2, b0_3, b0_4, b0_5, b0_6, -⟩ := HSx.out w2 (Below.refl _ _)
  have HWt := Lib.hid (show ∀ W, Below w2.heap.size w2 W → Below w.heap.size w W from fun W hb => HB.out.below.trans (hb.mono HB.out.below.size))
  have hBd := (Below.refl w2.heap.size w2).drew
  have hBa := b_alloc hBd (.cells #[.pointer none, .int .i64 0] 88)
  have hBe := (b_alloc (Below.refl w2.heap.size w2) (.cells #[.pointer none, .int .i64 0] 88)).drew
  have HZe := Lib.hid (show (w2.alloc (.cells #[.pointer none, .int .i64 0] 88)).drew.heap[w2.heap.size]? = some (.cells #[.pointer none, .int .i64 0] 88 (0, 0)) from heap_alloc_new _ _)
  have HZd := Lib.hid (show (w2.drew.alloc (.cells #[.pointer none, .int .i64 0] 88)).heap[w2.drew.heap.size]? = some (.cells #[.pointer none, .int .i64 0] 88 (0, 0)) from heap_alloc_new _ _)
  go_wp2_with fail
  go_region_held3 (fun W => W.cell? ⟨g, 0, none⟩ = some (pv m) ∧ W.cell? ⟨g, 1, none⟩ = some (.int .i64 nx) ∧ W.cell? ⟨w.heap.size, 0, none⟩ = some (.int .i64 kd) ∧ W.cell? ⟨w.heap.size, 1, none⟩ = some (.string oa) ∧ W.cell? ⟨w.heap.size, 2, none⟩ = some (.string ob) ∧ W.cell? ⟨w.heap.size, 3, none⟩ = some (.int .i64 oo) ∧ W.cell? ⟨w.heap.size, 4, none⟩ = some (.int .i64 og) ∧ W.cell? ⟨w.heap.size, 5, none⟩ = some (.int .i64 on) ∧ W.cell? ⟨w.heap.size, 6, none⟩ = some (.string od) ∧ Below w2.heap.size w2 W)
   (first | exact HSx.out _ (by assumption) | exact HSx.out _ (b_alloc (by assumption) _) | exact HSx.out _ (b_set2 (by assumption) (Nat.le_refl _) _ _))
   (first | ((with_reducible refine (HC.out _ (HWt.out _ (by assumption))).mono ?_); rintro e w20 ⟨hw20, m2, rfl, hS2⟩; have HS2 := Lib.hid hS2; clear hS2; have hb20 := T8.btrans hw20 (by assumption); try (have HZ6 := Lib.hid ((hw20.block _ (lt_of_obj HZe.out)).trans HZe.out); have z0 := cell_obj HZ6.out 0; have z1 := cell_obj HZ6.out 1; have z2 := free_obj HZ6.out 0; have z3 := free_obj HZ6.out 1); try (have HZ6 := Lib.hid ((hw20.block _ (lt_of_obj HZd.out)).trans HZd.out); have z0 := cell_obj HZ6.out 0; have z1 := cell_obj HZ6.out 1; have z2 := free_obj HZ6.out 0; have z3 := free_obj HZ6.out 1)))
  all_goals
   first
    |have HF := Lib.hid (show Fin9 w2 _ w2.heap.size m2 n2 l2 from ⟨b_set2 hb20 (Nat.le_refl _) (pv m2) (.int .i64 n2), set2_obj HZ6.out _ _, HS2.out.set2 HZ6.out _ _ (HSv.out.dg.below (HWt.out _ (hb20.setCell (Nat.le_refl _) _))) (HSv.out.dg.below (HWt.out _ (b_set2 hb20 (Nat.le_refl _) _ _)))⟩)
     generalize (w20.setCell ⟨w2.heap.size, 0, none⟩ (pv m2)).setCell ⟨w2.heap.size, 1, none⟩ (.int .i64 n2) = W9 at HF ⊢
     generalize w2.heap.size = p9 at HF ⊢
    |have HF := Lib.hid (show Fin9 w2 _ w20.heap.size m2 n2 l2 from ⟨b_alloc hb20 (.cells #[pv m2, .int .i64 n2] 88), heap_alloc_new _ _, HS2.out.below (below_one _ _)⟩)
     generalize w20.alloc (.cells #[pv m2, .int .i64 n2] 88) = W9 at HF ⊢
     generalize w20.heap.size = p9 at HF ⊢
   have u0 : W9.cell? ⟨p9, 0, none⟩ = some (pv m2) := cell_obj HF.out.2.1 0
   have u1 : W9.cell? ⟨p9, 1, none⟩ = some (.int .i64 n2) := cell_obj HF.out.2.1 1
   have HB9 := Lib.hid (HWt.out _ HF.out.1)
   have HG9 := Lib.hid ((HB9.out.block _ (lt_of_obj HG.out)).trans HG.out)
   try clear z0 z1 z2 z3
   clear HSx hBd hBa hBe HZd HZe s0 s1 b0_0 b0_1 b0_2 b0_3 b0_4 b0_5 b0_6 HWt hb20 hw20
   go_wp2_with (first | (refine wpList_store_row rfl 88 _ _ rfl g #[pv m2, .int .i64 n2] rfl rfl 91 #[pv m, .int .i64 nx] HG9.out (by kernel_rfl) rfl (by rw [← Array.all_toList]; rfl) ?_) | fail)
   go_ret
   exact done_ok HB9.out HG9.out HF.out.2.2 rfl
end Go.Proofs.YthehblmjloohiaaGreatDoor
