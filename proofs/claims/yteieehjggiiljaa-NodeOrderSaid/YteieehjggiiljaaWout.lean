/- The program's Without. -/
import Derived.Test.YteieehjggiiljaaDel
import Derived.Test.YteieehjggiiljaaFindP
namespace Go.Proofs.Yteieehjggiiljaa
set_option maxRecDepth 100000
open Go.RowKit Go.Less
attribute [local go_sem 9000] sem_eql sem_neq sem_lss sem_leq sem_gtr sem_geq
/-- The node's box and the result's, behind a world. -/
structure BR (w : World) (b r : Nat) (cs : Array Value) (W : World) : Prop where
  box : W.heap[b]? = some (.cells cs 24 (0, 0))
  res : W.heap[r]? = some (.cells zc 24 (0, 0))
  lo : w.heap.size ≤ b ∧ w.heap.size ≤ r ∧ b ≠ r
  below : Below w.heap.size w W
theorem BR.kept {w : World} {b r : Nat} {cs : Array Value} {W W' : World} (h : BR w b r cs W) (hb : Below W.heap.size W W') : BR w b r cs W' :=
  ⟨(hb.block _ (lt_of_obj h.box)).trans h.box, (hb.block _ (lt_of_obj h.res)).trans h.res, h.lo, h.below.trans (hb.mono h.below.size)⟩
theorem BR.grown {w : World} {b r : Nat} {cs : Array Value} {W W' : World} {row : Option Nat} (h : BR w b r cs W) (hg : W.grownBy W' row) (hrow : ∀ k, row = some k → w.heap.size ≤ k ∧ k ≠ b ∧ k ≠ r) : BR w b r cs W' :=
  ⟨grown_obj hg h.box (fun e => (hrow b e.symm).2.1 rfl), grown_obj hg h.res (fun e => (hrow r e.symm).2.2 rfl), h.lo, h.below.grown hg h.below.size (fun j hj => (hrow j hj).1)⟩
theorem BR.set4 {w : World} {b r : Nat} {v0 v1 v2 v3 v4 : Value} {W : World} (h : BR w b r #[v0, v1, v2, v3, v4] W) (v : Value) : BR w b r #[v0, v1, v2, v3, v] (W.setCell ⟨b, 4, none⟩ v) := by
  refine ⟨by simpa using heap_setCell_same W b 4 _ 24 v h.box, ?_, h.lo, h.below.setCell h.lo.1 _⟩
  rw [heap_setCell_other W ⟨b, 4, none⟩ r _ (fun e => h.lo.2.2 e.symm)]; exact h.res
theorem BR.set5 {w : World} {b r : Nat} {x0 x1 x2 x3 x4 : Value} {W : World} (h : BR w b r #[x0, x1, x2, x3, x4] W) (v0 v1 v2 v3 v4 : Value) :
    BR w b r #[v0, v1, v2, v3, v4] (((((W.setCell ⟨b, 0, none⟩ v0).setCell ⟨b, 1, none⟩ v1).setCell ⟨b, 2, none⟩ v2).setCell ⟨b, 3, none⟩ v3).setCell ⟨b, 4, none⟩ v4) := by
  have hne : r ≠ b := fun e => h.lo.2.2 e.symm
  refine ⟨Yteieehjggiiljaa.set5 _ _ _ _ _ h.box, ?_, h.lo, below5 h.below h.lo.1 _ _ _ _ _⟩
  rw [heap_setCell_other _ ⟨b, 4, none⟩ r _ hne, heap_setCell_other _ ⟨b, 3, none⟩ r _ hne, heap_setCell_other _ ⟨b, 2, none⟩ r _ hne, heap_setCell_other _ ⟨b, 1, none⟩ r _ hne, heap_setCell_other _ ⟨b, 0, none⟩ r _ hne]
  exact h.res
theorem withoutE_no {m : Int} {d t : ByteArray} {l : List En} {nm : ByteArray} (h : ¬ Nd.place (isNm nm) l < l.length) : Nd.withoutE ⟨2, m, d, t, l⟩ nm = (Nd.none0, 4) := by
  unfold Nd.withoutE
  rw [if_neg (by simp), if_pos (by rw [Nd.find_is]; exact decide_eq_false h)]
theorem withoutE_yes {m : Int} {d t : ByteArray} {l : List En} {nm : ByteArray} (h : Nd.place (isNm nm) l < l.length) : Nd.withoutE ⟨2, m, d, t, l⟩ nm = (⟨2, m, d, t, l.take (Nd.place (isNm nm) l) ++ l.drop (Nd.place (isNm nm) l + 1)⟩, 0) := by
  unfold Nd.withoutE
  rw [if_neg (by simp), if_neg (by rw [Nd.find_is]; show ¬ decide (Nd.place (isNm nm) l < l.length) = false; rw [decide_eq_true h]; simp)]
  show (Nd.Node.mk 2 m d t (Nd.cut l nm), (0 : Int)) = _
  rw [Nd.cut_place]; rfl
set_option maxHeartbeats 4000000 in
theorem without_any (k m : Int) (d t : ByteArray) (a : Option Addr) (n cap : Nat) (l : List En) (nm : ByteArray) (w : World) (hE : Ents a n l w) (hn : n ≤ 100000) (hs : ∀ j, j < n → (l.getD j z0).1.size ≤ 100000) (hd : d.size ≤ 100000) (ht : t.size ≤ 100000) :
    Calls Try.prog 17 #[nv k m d t a n cap, .string nm] w (Noded (Nd.withoutE ⟨k, m, d, t, l⟩ nm) w) := by
  have HNL := Lib.hid hE.count
  have hni : (n : Int) ≤ 100000 := by omega
  have HB0 := Lib.hid (show ∀ x y : Obj, Below w.heap.size w ((w.alloc x).alloc y) from fun x y => ((Below.refl _ w).alloc (Nat.le_refl _) _).alloc (by simp) _)
  by_cases e1 : ¬ k = 2
  · have HR := Lib.hid (show Nd.withoutE ⟨k, m, d, t, l⟩ nm = (Nd.none0, 10) by unfold Nd.withoutE; rw [if_pos e1])
    clear hE hs hd ht
    go_enter Try.func17, Try.ntmps17
    go_wp2_with fail
    refine bodyPost_ret_by (results_nd rfl _ _ (w.heap.size + 1) _ _ _ _ _ rfl (two1 _ _ _)) rfl ⟨none, 0, by rw [HR.out]; rfl, by rw [HR.out]; exact ents_nil _, HB0.out _ _⟩
  obtain rfl := Decidable.not_not.1 e1
  clear e1
  have HIx := Lib.hid (show ∀ W g g', g' = g → W.cell? ⟨g, 0, none⟩ = some (.string nm) → Below w.heap.size w W → Calls Try.prog 27 #[.slice a n cap, .func (.func 43) #[] #[.pointer (some ⟨g', 0, none⟩)]] W fun e w' => e = .returned (.int .i64 (ixz (isNm nm) l)) ∧ Below W.heap.size W w' from fun W g g' e hg hb => by subst e; exact ixf43_any a n cap l nm _ W (hE.below hb) (by omega) hg)
  have HOw := Lib.hid (fun W (hb : Below w.heap.size w W) => own_any 2 m d t a n cap l W (hE.below hb) hn hs hd ht)
  have HPd := Lib.hid (show PF w #[.int .i64 2, .int .i64 m, .string d, .string t, .slice a n cap] (((w.alloc (.cells #[.int .i64 2, .int .i64 m, .string d, .string t, .slice a n cap] 24)).alloc (.cells #[.int .i64 0, .int .i64 0, .string ⟨#[]⟩, .string ⟨#[]⟩, .slice none 0 0] 24)).drew) from ⟨two0 _ _ _, (HB0.out _ _).drew⟩)
  have HRs := Lib.hid (show ((((w.alloc (.cells #[.int .i64 2, .int .i64 m, .string d, .string t, .slice a n cap] 24)).alloc (.cells #[.int .i64 0, .int .i64 0, .string ⟨#[]⟩, .string ⟨#[]⟩, .slice none 0 0] 24)).drew).heap[w.heap.size + 1]? = some (.cells zc 24 (0, 0))) from two1 _ _ _)
  have HRn := Lib.hid (show (w.heap.size ≤ w.heap.size ∧ w.heap.size ≤ w.heap.size + 1 ∧ w.heap.size ≠ w.heap.size + 1) from ⟨Nat.le_refl _, Nat.le_succ _, by omega⟩)
  clear hE hs hd ht
  by_cases h : Nd.place (isNm nm) l < l.length
  · rw [show ixz (isNm nm) l = (Nd.place (isNm nm) l : Int) by unfold ixz; rw [if_pos h]] at HIx
    have HW := Lib.hid (withoutE_yes (m := m) (d := d) (t := t) h)
    have HH := Lib.hid h
    clear h
    generalize Nd.place (isNm nm) l = z at *
    have hz0 : (0 : Int) ≤ (z : Int) := by omega
    have hzn : z < n := by have := HNL.out; have := HH.out; omega
    have hw1 : IntKind.i64.wrap ((z : Int) + 1) = (z : Int) + 1 := IntWalk.i64_in _ (by omega)
    go_enter Try.func17, Try.ntmps17
    go_wp2_with fail
    go_region_held3 (fun W => W.cell? ⟨w.heap.size, 4, none⟩ = some (.slice a n cap) ∧ PF w #[.int .i64 2, .int .i64 m, .string d, .string t, .slice a n cap] W)
      (first | exact ⟨cell_obj HPd.out.box 4, HPd.out⟩ | exact ⟨cell_obj pB.out.box 4, pB.out⟩ | exact ⟨cell_obj pA.out.box 4, pA.out⟩ | assumption)
      (first
        | (go_at_call 28; (with_reducible refine (named_any nm _).mono ?_); rintro e wA ⟨rfl, hcA, hA⟩; have pA := Lib.hid (PF.kept (getPF (by assumption)) hA); have gA := Lib.hid hA; clear hA)
        | (go_at_call 27; (with_reducible refine (HIx.out _ _ _ (by simp) hcA (PF.below (getPF (by assumption)))).mono ?_); rintro e wB ⟨rfl, hB⟩; have pB := Lib.hid (PF.kept (getPF (by assumption)) hB); have gB := Lib.hid hB; clear hB))
    have HBR := Lib.hid (show BR w w.heap.size (w.heap.size + 1) #[.int .i64 2, .int .i64 m, .string d, .string t, .slice a n cap] wB from ⟨pB.out.box, ((gB.out.mono (Nat.le_refl _)).block _ (Nat.lt_of_lt_of_le (lt_of_obj HRs.out) gA.out.size)).trans ((gA.out.block _ (lt_of_obj HRs.out)).trans HRs.out), HRn.out, pB.out.below⟩)
    clear HIx HPd HRs
    have HOw1 := Lib.hid (HOw.out wB pB.out.below)
    have hRlt := lt_of_obj HBR.out.res
    have hx := HBR.out.box
    have x0 : wB.cell? ⟨w.heap.size, 0, none⟩ = some (.int .i64 2) := cell_obj hx 0
    have x1 : wB.cell? ⟨w.heap.size, 1, none⟩ = some (.int .i64 m) := cell_obj hx 1
    have x2 : wB.cell? ⟨w.heap.size, 2, none⟩ = some (.string d) := cell_obj hx 2
    have x3 : wB.cell? ⟨w.heap.size, 3, none⟩ = some (.string t) := cell_obj hx 3
    have x4 : wB.cell? ⟨w.heap.size, 4, none⟩ = some (.slice a n cap) := cell_obj hx 4
    have f0 := free_obj hx 0
    have f1 := free_obj hx 1
    have f2 := free_obj hx 2
    have f3 := free_obj hx 3
    have f4 := free_obj hx 4
    clear hx
    clear f0 f1 f2 f3 f4
    go_wp2_with fail
    refine HOw1.out.mono ?_
    rintro e w2 ⟨ao, cp, rfl, hown, hw2⟩
    have HBR2 := Lib.hid (HBR.out.kept hw2)
    have HO3 := Lib.hid (own_set5 hown (g := w.heap.size) (by omega) (.int .i64 2) (.int .i64 m) (.string d) (.string t) (.slice ao l.length cp))
    have HBR3 := Lib.hid (HBR2.out.set5 (.int .i64 2) (.int .i64 m) (.string d) (.string t) (.slice ao l.length cp))
    clear hown hw2 x0 x1 x2 x3 x4 HBR HOw1 HOw
    have hx := HBR2.out.box
    have x0 : w2.cell? ⟨w.heap.size, 0, none⟩ = some (.int .i64 2) := cell_obj hx 0
    have x1 : w2.cell? ⟨w.heap.size, 1, none⟩ = some (.int .i64 m) := cell_obj hx 1
    have x2 : w2.cell? ⟨w.heap.size, 2, none⟩ = some (.string d) := cell_obj hx 2
    have x3 : w2.cell? ⟨w.heap.size, 3, none⟩ = some (.string t) := cell_obj hx 3
    have x4 : w2.cell? ⟨w.heap.size, 4, none⟩ = some (.slice a n cap) := cell_obj hx 4
    have f0 := free_obj hx 0
    have f1 := free_obj hx 1
    have f2 := free_obj hx 2
    have f3 := free_obj hx 3
    have f4 := free_obj hx 4
    clear hx
    dsimp only
    go_wp2_with fail
    refine (delete_any wB.heap.size ao cp l z _ HO3.out HH.out (by have := HNL.out; omega)).mono ?_
    rintro e w5 ⟨ao5, cp5, rfl, hown5, hgr5⟩
    have HBR5 := Lib.hid (HBR3.out.grown hgr5 (fun k hk => by have h1 := owns_lt HO3.out k hk; have h2 := pB.out.below.size; exact ⟨by omega, by omega, by omega⟩))
    have HO5 := Lib.hid hown5
    clear hown5 hgr5 x0 x1 x2 x3 x4 f0 f1 f2 f3 f4 HBR2 HBR3
    have HBR6 := Lib.hid (HBR5.out.set4 (.slice ao5 (l.take z ++ l.drop (z + 1)).length cp5))
    generalize hLen : (l.take z ++ l.drop (z + 1)).length = len5 at *
    have hx := HBR5.out.box
    have x0 : w5.cell? ⟨w.heap.size, 0, none⟩ = some (.int .i64 2) := cell_obj hx 0
    have x1 : w5.cell? ⟨w.heap.size, 1, none⟩ = some (.int .i64 m) := cell_obj hx 1
    have x2 : w5.cell? ⟨w.heap.size, 2, none⟩ = some (.string d) := cell_obj hx 2
    have x3 : w5.cell? ⟨w.heap.size, 3, none⟩ = some (.string t) := cell_obj hx 3
    have x4 : w5.cell? ⟨w.heap.size, 4, none⟩ = some (.slice ao l.length cp) := cell_obj hx 4
    have f0 := free_obj hx 0
    have f1 := free_obj hx 1
    have f2 := free_obj hx 2
    have f3 := free_obj hx 3
    have f4 := free_obj hx 4
    clear hx
    have hr := HBR5.out.res
    have r0 : w5.cell? ⟨w.heap.size + 1, 0, none⟩ = some (.int .i64 0) := cell_obj hr 0
    have r1 : w5.cell? ⟨w.heap.size + 1, 1, none⟩ = some (.int .i64 0) := cell_obj hr 1
    have r2 : w5.cell? ⟨w.heap.size + 1, 2, none⟩ = some (.string ⟨#[]⟩) := cell_obj hr 2
    have r3 : w5.cell? ⟨w.heap.size + 1, 3, none⟩ = some (.string ⟨#[]⟩) := cell_obj hr 3
    have r4 : w5.cell? ⟨w.heap.size + 1, 4, none⟩ = some (.slice none 0 0) := cell_obj hr 4
    have q0 := free_obj hr 0
    have q1 := free_obj hr 1
    have q2 := free_obj hr 2
    have q3 := free_obj hr 3
    have q4 := free_obj hr 4
    clear hr
    have hne : w.heap.size ≠ w.heap.size + 1 := by omega
    have hne2 : w.heap.size + 1 ≠ w.heap.size := by omega
    dsimp only
    go_wp2_with fail
    refine bodyPost_ret_by (results_nd rfl _ _ (w.heap.size + 1) _ _ _ _ _ rfl (Yteieehjggiiljaa.set5 _ _ _ _ _ HBR6.out.res)) rfl ?_
    unfold Noded
    rw [HW.out]
    dsimp only
    rw [hLen]
    have ho5 := HO5.out
    refine ⟨ao5, cp5, rfl, ?_, below5 HBR6.out.below (Nat.le_succ _) _ _ _ _ _⟩
    rw [← hLen] at ho5 ⊢
    exact own_ents (own_set5 (own_set ho5 (by omega) 4 _) (by omega) _ _ _ _ _)
  · rw [show ixz (isNm nm) l = -1 by unfold ixz; rw [if_neg h]] at HIx
    have HW := Lib.hid (withoutE_no (m := m) (d := d) (t := t) h)
    clear h HOw
    go_enter Try.func17, Try.ntmps17
    go_wp2_with fail
    go_region_held3 (fun W => W.cell? ⟨w.heap.size, 4, none⟩ = some (.slice a n cap) ∧ PF w #[.int .i64 2, .int .i64 m, .string d, .string t, .slice a n cap] W)
      (first | exact ⟨cell_obj HPd.out.box 4, HPd.out⟩ | exact ⟨cell_obj pB.out.box 4, pB.out⟩ | exact ⟨cell_obj pA.out.box 4, pA.out⟩ | assumption)
      (first
        | (go_at_call 28; (with_reducible refine (named_any nm _).mono ?_); rintro e wA ⟨rfl, hcA, hA⟩; have pA := Lib.hid (PF.kept (getPF (by assumption)) hA); have gA := Lib.hid hA; clear hA)
        | (go_at_call 27; (with_reducible refine (HIx.out _ _ _ (by simp) hcA (PF.below (getPF (by assumption)))).mono ?_); rintro e wB ⟨rfl, hB⟩; have pB := Lib.hid (PF.kept (getPF (by assumption)) hB); have gB := Lib.hid hB; clear hB))
    have HBR := Lib.hid (show BR w w.heap.size (w.heap.size + 1) #[.int .i64 2, .int .i64 m, .string d, .string t, .slice a n cap] wB from ⟨pB.out.box, ((gB.out.mono (Nat.le_refl _)).block _ (Nat.lt_of_lt_of_le (lt_of_obj HRs.out) gA.out.size)).trans ((gA.out.block _ (lt_of_obj HRs.out)).trans HRs.out), HRn.out, pB.out.below⟩)
    clear HIx HPd HRs
    have hr := HBR.out.res
    have r0 : wB.cell? ⟨w.heap.size + 1, 0, none⟩ = some (.int .i64 0) := cell_obj hr 0
    have r1 : wB.cell? ⟨w.heap.size + 1, 1, none⟩ = some (.int .i64 0) := cell_obj hr 1
    have r2 : wB.cell? ⟨w.heap.size + 1, 2, none⟩ = some (.string ⟨#[]⟩) := cell_obj hr 2
    have r3 : wB.cell? ⟨w.heap.size + 1, 3, none⟩ = some (.string ⟨#[]⟩) := cell_obj hr 3
    have r4 : wB.cell? ⟨w.heap.size + 1, 4, none⟩ = some (.slice none 0 0) := cell_obj hr 4
    have q0 := free_obj hr 0
    have q1 := free_obj hr 1
    have q2 := free_obj hr 2
    have q3 := free_obj hr 3
    have q4 := free_obj hr 4
    clear hr
    go_wp2_with fail
    refine bodyPost_ret_by (results_nd rfl _ _ (w.heap.size + 1) _ _ _ _ _ rfl (Yteieehjggiiljaa.set5 _ _ _ _ _ HBR.out.res)) rfl ⟨none, 0, by rw [HW.out]; rfl, by rw [HW.out]; exact ents_nil _, below5 HBR.out.below (Nat.le_succ _) _ _ _ _ _⟩
end Go.Proofs.Yteieehjggiiljaa
