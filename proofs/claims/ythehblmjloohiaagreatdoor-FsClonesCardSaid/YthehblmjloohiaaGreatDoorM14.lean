/- Layer 11, a part of the proofs: no statement of its own. -/
import Derived.Laws.RangeAny
import Derived.Lib.Bytealg
import Derived.BigCall
import Derived.BigGuard
import Derived.Deep.LoopGhost
import Derived.ScopeJumps
import Derived.Laws.Runes
import Derived.Laws.Strings3
import Derived.BigQuiet
import Derived.Deep.QuietTactic
import Derived.Laws.Cover4
import Derived.Lib.OthersKept
import Derived.Test.YthehblmjloohiaaGreatDoorM13
namespace Go.Proofs.YthehblmjloohiaaGreatDoor
set_option maxRecDepth 100000
open Go.RowKit Go.Less
attribute [local go_sem 9000] sem_eql sem_neq sem_lss sem_leq sem_gtr sem_geq
structure BR (w : World) (b r : Nat) (cs : Array Value) (W : World) : Prop where
 box : W.heap[b]? = some (.cells cs 43 (0, 0))
 res : W.heap[r]? = some (.cells zc 43 (0, 0))
 lo : w.heap.size ≤ b ∧ w.heap.size ≤ r ∧ b ≠ r
 below : Below w.heap.size w W
theorem BR.kept {w : World} {b r : Nat} {cs : Array Value} {W W' : World} (h : BR w b r cs W) (hb : Below W.heap.size W W') : BR w b r cs W' :=
 ⟨(hb.block _ (lt_of_obj h.box)).trans h.box, (hb.block _ (lt_of_obj h.res)).trans h.res, h.lo, h.below.trans (hb.mono h.below.size)⟩
theorem BR.grown {w : World} {b r : Nat} {cs : Array Value} {W W' : World} {row : Option Nat} (h : BR w b r cs W) (hg : W.grownBy W' row) (hrow : ∀ k, row = some k → w.heap.size ≤ k ∧ k ≠ b ∧ k ≠ r) : BR w b r cs W' :=
 ⟨grown_obj hg h.box (fun e => (hrow b e.symm).2.1 rfl), grown_obj hg h.res (fun e => (hrow r e.symm).2.2 rfl), h.lo, h.below.grown hg h.below.size (fun j hj => (hrow j hj).1)⟩
theorem BR.set4 {w : World} {b r : Nat} {v0 v1 v2 v3 v4 : Value} {W : World} (h : BR w b r #[v0, v1, v2, v3, v4] W) (v : Value) : BR w b r #[v0, v1, v2, v3, v] (W.setCell ⟨b, 4, none⟩ v) := by
 refine ⟨by simpa using heap_setCell_same W b 4 _ 43 v h.box, ?_, h.lo, h.below.setCell h.lo.1 _⟩
 rw [heap_setCell_other W ⟨b, 4, none⟩ r _ (fun e => h.lo.2.2 e.symm)]; exact h.res
theorem BR.set5 {w : World} {b r : Nat} {x0 x1 x2 x3 x4 : Value} {W : World} (h : BR w b r #[x0, x1, x2, x3, x4] W) (v0 v1 v2 v3 v4 : Value) :
  BR w b r #[v0, v1, v2, v3, v4] (((((W.setCell ⟨b, 0, none⟩ v0).setCell ⟨b, 1, none⟩ v1).setCell ⟨b, 2, none⟩ v2).setCell ⟨b, 3, none⟩ v3).setCell ⟨b, 4, none⟩ v4) := by
 have hne : r ≠ b := fun e => h.lo.2.2 e.symm
 refine ⟨YthehblmjloohiaaGreatDoor.set5 _ _ _ _ _ h.box, ?_, h.lo, below5 h.below h.lo.1 _ _ _ _ _⟩
 rw [heap_setCell_other _ ⟨b, 4, none⟩ r _ hne, heap_setCell_other _ ⟨b, 3, none⟩ r _ hne, heap_setCell_other _ ⟨b, 2, none⟩ r _ hne, heap_setCell_other _ ⟨b, 1, none⟩ r _ hne, heap_setCell_other _ ⟨b, 0, none⟩ r _ hne]
 exact h.res
theorem withoutE_no {m : Int} {d t : ByteArray} {l : List En} {nm : ByteArray} (h : ¬ Nd.place (isNm nm) l < l.length) : Nd.withoutE ⟨2, m, d, t, l⟩ nm = (Nd.none0, 4) := by
 unfold Nd.withoutE
 rw [if_neg (by simp), if_pos (by rw [Nd.find_is]; exact decide_eq_false h)]
theorem withoutE_yes {m : Int} {d t : ByteArray} {l : List En} {nm : ByteArray} (h : Nd.place (isNm nm) l < l.length) : Nd.withoutE ⟨2, m, d, t, l⟩ nm = (⟨2, m, d, t, l.take (Nd.place (isNm nm) l) ++ l.drop (Nd.place (isNm nm) l + 1)⟩, 0) := by
 unfold Nd.withoutE
 rw [if_neg (by simp), if_neg (by rw [Nd.find_is]; show ¬ decide (Nd.place (isNm nm) l < l.length) = false; rw [decide_eq_true h]; simp)]
 show (Nd.Node.mk 2 m d t (Nd.cut l nm), (0 : Int)) = _
 rw [Nd.cut_place]; rfl
set_option maxHeartbeats 4000000 in
theorem without_any (k m : Int) (d t : ByteArray) (a : Option Addr) (n cap : Nat) (l : List En) (nm : ByteArray) (w : World) (hE : Ents a n l w) (hn : n ≤ 100000) (hs : ∀ j, j < n → (l.getD j z0).1.size ≤ 100000) (hd : d.size ≤ 100000) (ht : t.size ≤ 100000) :
  Calls Tryz.prog 159 #[nv k m d t a n cap, .string nm] w (Noded (Nd.withoutE ⟨k, m, d, t, l⟩ nm) w) := by
 have HNL := Lib.hid hE.count
 have hni : (n : Int) ≤ 100000 := by omega
 have HB0 := Lib.hid (show ∀ x y : Obj, Below w.heap.size w ((w.alloc x).alloc y) from fun x y => ((Below.refl _ w).alloc (Nat.le_refl _) _).alloc (by simp) _)
 by_cases e1 : ¬ k = 2
 ·have HR := Lib.hid (show Nd.withoutE ⟨k, m, d, t, l⟩ nm = (Nd.none0, 10) by unfold Nd.withoutE; rw [if_pos e1])
  clear hE hs hd ht
  go_enter Tryz.func159, Tryz.ntmps159
  go_wp2_with fail
  refine bodyPost_ret_by (results_nd rfl _ _ (w.heap.size + 1) _ _ _ _ _ rfl (two1 _ _ _)) rfl ⟨none, 0, by rw [HR.out]; rfl, by rw [HR.out]; exact ents_nil _, HB0.out _ _⟩
 obtain rfl := Decidable.not_not.1 e1
 clear e1
 have HIx := Lib.hid (show ∀ W g g', g' = g → W.cell? ⟨g, 0, none⟩ = some (.string nm) → Below w.heap.size w W → Calls Tryz.prog 139 #[.slice a n cap, .func (.func 173) #[] #[.pointer (some ⟨g', 0, none⟩)]] W fun e w' => e = .returned (.int .i64 (ixz (isNm nm) l)) ∧ Below W.heap.size W w' from fun W g g' e hg hb => by subst e; exact ixf43_any a n cap l nm _ W (hE.below hb) (by omega) hg)
 have HOw := Lib.hid (fun W (hb : Below w.heap.size w W) => own_any 2 m d t a n cap l W (hE.below hb) hn hs hd ht)
 have HPd := Lib.hid (show PF w #[.int .i64 2, .int .i64 m, .string d, .string t, .slice a n cap] (((w.alloc (.cells #[.int .i64 2, .int .i64 m, .string d, .string t, .slice a n cap] 43)).alloc (.cells #[.int .i64 0, .int .i64 0, .string ⟨#[]⟩, .string ⟨#[]⟩, .slice none 0 0] 43)).drew) from ⟨two0 _ _ _, (HB0.out _ _).drew⟩)
 have HRs := Lib.hid (show ((((w.alloc (.cells #[.int .i64 2, .int .i64 m, .string d, .string t, .slice a n cap] 43)).alloc (.cells #[.int .i64 0, .int .i64 0, .string ⟨#[]⟩, .string ⟨#[]⟩, .slice none 0 0] 43)).drew).heap[w.heap.size + 1]? = some (.cells zc 43 (0, 0))) from two1 _ _ _)
 have HRn := Lib.hid (show (w.heap.size ≤ w.heap.size ∧ w.heap.size ≤ w.heap.size + 1 ∧ w.heap.size ≠ w.heap.size + 1) from ⟨Nat.le_refl _, Nat.le_succ _, by omega⟩)
 clear hE hs hd ht
 by_cases h : Nd.place (isNm nm) l < l.length
 ·rw [show ixz (isNm nm) l = (Nd.place (isNm nm) l : Int) by unfold ixz; rw [if_pos h]] at HIx
  have HW := Lib.hid (withoutE_yes (m := m) (d := d) (t := t) h)
  have HH := Lib.hid h
  clear h
  generalize Nd.place (isNm nm) l = z at *
  have hz0 : (0 : Int) ≤ (z : Int) := by omega
  have hzn : z < n := by have := HNL.out; have := HH.out; omega
  have hw1 : IntKind.i64.wrap ((z : Int) + 1) = (z : Int) + 1 := IntWalk.i64_in _ (by omega)
  go_enter Tryz.func159, Tryz.ntmps159
  go_wp2_with fail
  go_region_held3 (fun W => W.cell? ⟨w.heap.size, 4, none⟩ = some (.slice a n cap) ∧ PF w #[.int .i64 2, .int .i64 m, .string d, .string t, .slice a n cap] W)
   (first | exact ⟨cell_obj HPd.out.box 4, HPd.out⟩ | exact ⟨cell_obj pB.out.box 4, pB.out⟩ | exact ⟨cell_obj pA.out.box 4, pA.out⟩ | assumption)
   (first
    | (go_at_call 140; (with_reducible refine (named_any nm _).mono ?_); rintro e wA ⟨rfl, hcA, hA⟩; have pA := Lib.hid (PF.kept (getPF (by assumption)) hA); have gA := Lib.hid hA; clear hA)
    | (go_at_call 139; (with_reducible refine (HIx.out _ _ _ (by simp) hcA (PF.below (getPF (by assumption)))).mono ?_); rintro e wB ⟨rfl, hB⟩; have pB := Lib.hid (PF.kept (getPF (by assumption)) hB); have gB := Lib.hid hB; clear hB))
  have HBR := Lib.hid (show BR w w.heap.size (w.heap.size + 1) #[.int .i64 2, .int .i64 m, .string d, .string t, .slice a n cap] wB from ⟨pB.out.box, ((gB.out.mono (Nat.le_refl _)).block _ (Nat.lt_of_lt_of_le (lt_of_obj HRs.out) gA.out.size)).trans ((gA.out.block _ (lt_of_obj HRs.out)).trans HRs.out), HRn.out, pB.out.below⟩)
  clear HIx HPd HRs
  have HOw1 := Lib.hid (HOw.out wB pB.out.below)
  have hRlt := lt_of_obj HBR.out.res
  have hx := HBR.out.box
  have x0 : wB.cell? ⟨w.heap.size, 0, none⟩ = some (.int .i64 2) := cell_obj hx 0
  have x1 : wB.cell? ⟨w.heap.size, 1, none⟩ = some (.int .i64 m) := cell_obj hx 1
  have x2 : wB.cell? ⟨w.heap.size, 2, none⟩ = some (.string d) := cell_obj hx 2
  have x3 : wB.cell? ⟨w.heap.size, 3, none⟩ = some (.string t) := cell_obj hx 3
  have x4 : wB.cell? ⟨w.heap.size, 4, none⟩ = some (.slice a n cap) := cell_obj hx 4
  have f0 := free_obj hx 0
  have f1 := free_obj hx 1
  have f2 := free_obj hx 2
  have f3 := free_obj hx 3
  have f4 := free_obj hx 4
  clear hx
  clear f0 f1 f2 f3 f4
  go_wp2_with fail
  refine HOw1.out.mono ?_
  rintro e w2 ⟨ao, cp, rfl, hown, hw2⟩
  have HBR2 := Lib.hid (HBR.out.kept hw2)
  have HO3 := Lib.hid (own_set5 hown (g := w.heap.size) (by omega) (.int .i64 2) (.int .i64 m) (.string d) (.string t) (.slice ao l.length cp))
  have HBR3 := Lib.hid (HBR2.out.set5 (.int .i64 2) (.int .i64 m) (.string d) (.string t) (.slice ao l.length cp))
  clear hown hw2 x0 x1 x2 x3 x4 HBR HOw1 HOw
  have hx := HBR2.out.box
  have x0 : w2.cell? ⟨w.heap.size, 0, none⟩ = some (.int .i64 2) := cell_obj hx 0
  have x1 : w2.cell? ⟨w.heap.size, 1, none⟩ = some (.int .i64 m) := cell_obj hx 1
  have x2 : w2.cell? ⟨w.heap.size, 2, none⟩ = some (.string d) := cell_obj hx 2
  have x3 : w2.cell? ⟨w.heap.size, 3, none⟩ = some (.string t) := cell_obj hx 3
  have x4 : w2.cell? ⟨w.heap.size, 4, none⟩ = some (.slice a n cap) := cell_obj hx 4
  have f0 := free_obj hx 0
  have f1 := free_obj hx 1
  have f2 := free_obj hx 2
  have f3 := free_obj hx 3
  have f4 := free_obj hx 4
  clear hx
  dsimp only
  go_wp2_with fail
  refine (delete_any wB.heap.size ao cp l z _ HO3.out HH.out (by have := HNL.out; omega)).mono ?_
  rintro e w5 ⟨ao5, cp5, rfl, hown5, hgr5⟩
  have HBR5 := Lib.hid (HBR3.out.grown hgr5 (fun k hk => by have h1 := owns_lt HO3.out k hk; have h2 := pB.out.below.size; exact ⟨by omega, by omega, by omega⟩))
  have HO5 := Lib.hid hown5
  clear hown5 hgr5 x0 x1 x2 x3 x4 f0 f1 f2 f3 f4 HBR2 HBR3
  have HBR6 := Lib.hid (HBR5.out.set4 (.slice ao5 (l.take z ++ l.drop (z + 1)).length cp5))
  generalize hLen : (l.take z ++ l.drop (z + 1)).length = len5 at *
  have hx := HBR5.out.box
  have x0 : w5.cell? ⟨w.heap.size, 0, none⟩ = some (.int .i64 2) := cell_obj hx 0
  have x1 : w5.cell? ⟨w.heap.size, 1, none⟩ = some (.int .i64 m) := cell_obj hx 1
  have x2 : w5.cell? ⟨w.heap.size, 2, none⟩ = some (.string d) := cell_obj hx 2
  have x3 : w5.cell? ⟨w.heap.size, 3, none⟩ = some (.string t) := cell_obj hx 3
  have x4 : w5.cell? ⟨w.heap.size, 4, none⟩ = some (.slice ao l.length cp) := cell_obj hx 4
  have f0 := free_obj hx 0
  have f1 := free_obj hx 1
  have f2 := free_obj hx 2
  have f3 := free_obj hx 3
  have f4 := free_obj hx 4
  clear hx
  have hr := HBR5.out.res
  have r0 : w5.cell? ⟨w.heap.size + 1, 0, none⟩ = some (.int .i64 0) := cell_obj hr 0
  have r1 : w5.cell? ⟨w.heap.size + 1, 1, none⟩ = some (.int .i64 0) := cell_obj hr 1
  have r2 : w5.cell? ⟨w.heap.size + 1, 2, none⟩ = some (.string ⟨#[]⟩) := cell_obj hr 2
  have r3 : w5.cell? ⟨w.heap.size + 1, 3, none⟩ = some (.string ⟨#[]⟩) := cell_obj hr 3
  have r4 : w5.cell? ⟨w.heap.size + 1, 4, none⟩ = some (.slice none 0 0) := cell_obj hr 4
  have q0 := free_obj hr 0
  have q1 := free_obj hr 1
  have q2 := free_obj hr 2
  have q3 := free_obj hr 3
  have q4 := free_obj hr 4
  clear hr
  have hne : w.heap.size ≠ w.heap.size + 1 := by omega
  have hne2 : w.heap.size + 1 ≠ w.heap.size := by omega
  dsimp only
  go_wp2_with fail
  refine bodyPost_ret_by (results_nd rfl _ _ (w.heap.size + 1) _ _ _ _ _ rfl (YthehblmjloohiaaGreatDoor.set5 _ _ _ _ _ HBR6.out.res)) rfl ?_
  unfold Noded
  rw [HW.out]
  dsimp only
  rw [hLen]
  have ho5 := HO5.out
  refine ⟨ao5, cp5, rfl, ?_, below5 HBR6.out.below (Nat.le_succ _) _ _ _ _ _⟩
  rw [← hLen] at ho5 ⊢
  exact own_ents (own_set5 (own_set ho5 (by omega) 4 _) (by omega) _ _ _ _ _)
 ·rw [show ixz (isNm nm) l = -1 by unfold ixz; rw [if_neg h]] at HIx
  have HW := Lib.hid (withoutE_no (m := m) (d := d) (t := t) h)
  clear h HOw
  go_enter Tryz.func159, Tryz.ntmps159
  go_wp2_with fail
  go_region_held3 (fun W => W.cell? ⟨w.heap.size, 4, none⟩ = some (.slice a n cap) ∧ PF w #[.int .i64 2, .int .i64 m, .string d, .string t, .slice a n cap] W)
   (first | exact ⟨cell_obj HPd.out.box 4, HPd.out⟩ | exact ⟨cell_obj pB.out.box 4, pB.out⟩ | exact ⟨cell_obj pA.out.box 4, pA.out⟩ | assumption)
   (first
    | (go_at_call 140; (with_reducible refine (named_any nm _).mono ?_); rintro e wA ⟨rfl, hcA, hA⟩; have pA := Lib.hid (PF.kept (getPF (by assumption)) hA); have gA := Lib.hid hA; clear hA)
    | (go_at_call 139; (with_reducible refine (HIx.out _ _ _ (by simp) hcA (PF.below (getPF (by assumption)))).mono ?_); rintro e wB ⟨rfl, hB⟩; have pB := Lib.hid (PF.kept (getPF (by assumption)) hB); have gB := Lib.hid hB; clear hB))
  have HBR := Lib.hid (show BR w w.heap.size (w.heap.size + 1) #[.int .i64 2, .int .i64 m, .string d, .string t, .slice a n cap] wB from ⟨pB.out.box, ((gB.out.mono (Nat.le_refl _)).block _ (Nat.lt_of_lt_of_le (lt_of_obj HRs.out) gA.out.size)).trans ((gA.out.block _ (lt_of_obj HRs.out)).trans HRs.out), HRn.out, pB.out.below⟩)
  clear HIx HPd HRs
  have hr := HBR.out.res
  have r0 : wB.cell? ⟨w.heap.size + 1, 0, none⟩ = some (.int .i64 0) := cell_obj hr 0
  have r1 : wB.cell? ⟨w.heap.size + 1, 1, none⟩ = some (.int .i64 0) := cell_obj hr 1
  have r2 : wB.cell? ⟨w.heap.size + 1, 2, none⟩ = some (.string ⟨#[]⟩) := cell_obj hr 2
  have r3 : wB.cell? ⟨w.heap.size + 1, 3, none⟩ = some (.string ⟨#[]⟩) := cell_obj hr 3
  have r4 : wB.cell? ⟨w.heap.size + 1, 4, none⟩ = some (.slice none 0 0) := cell_obj hr 4
  have q0 := free_obj hr 0
  have q1 := free_obj hr 1
  have q2 := free_obj hr 2
  have q3 := free_obj hr 3
  have q4 := free_obj hr 4
  clear hr
  go_wp2_with fail
  refine bodyPost_ret_by (results_nd rfl _ _ (w.heap.size + 1) _ _ _ _ _ rfl (YthehblmjloohiaaGreatDoor.set5 _ _ _ _ _ HBR.out.res)) rfl ⟨none, 0, by rw [HW.out]; rfl, by rw [HW.out]; exact ents_nil _, below5 HBR.out.below (Nat.le_succ _) _ _ _ _ _⟩
end Go.Proofs.YthehblmjloohiaaGreatDoor

namespace Go.Proofs.YthehblmjloohiaaGreatDoor
open Go
theorem decode_wide (s : ByteArray) (pos : Nat) (h : pos < s.size) (ha : 128 ≤ (s[pos]'h).toNat) :
  pos + (Utf8.decode s pos).2 ≤ s.size ∧ (∀ k, k < (Utf8.decode s pos).2 → 128 ≤ (s.get! (pos + k)).toNat) ∧ Utf8.valid (Utf8.decode s pos).1 = true := by
 have e0 : s.get! (pos + 0) = s[pos]'h := get_at s pos h
 have hn : ¬ (s[pos]'h).toNat < 128 := by omega
 have h0 := (s[pos]'h).toNat_lt
 have one : ∀ k, k < 1 → 128 ≤ (s.get! (pos + k)).toNat := fun k hk => by
  obtain rfl : k = 0 := by omega
  rw [e0]; exact ha
 unfold Utf8.decode
 simp only [e0, if_neg hn]
 have bad : pos + (Utf8.runeError, 1).2 ≤ s.size ∧ (∀ k, k < (Utf8.runeError, 1).2 → 128 ≤ (s.get! (pos + k)).toNat) ∧ Utf8.valid ((Utf8.runeError, 1).1 : Nat) = true := ⟨h, one, by decide⟩
 split
 ·rename_i hc
  simp only [Bool.and_eq_true, decide_eq_true_eq, beq_iff_eq] at hc
  split
  ·refine ⟨by show pos + 2 ≤ s.size; omega, fun k hk => ?_, ?_⟩
   ·have hk : k < 2 := hk
    rcases Nat.lt_or_ge k 1 with h1 | h1
    ·exact one k h1
    ·obtain rfl : k = 1 := by omega
     omega
   ·unfold Utf8.valid
    have := (s.get! (pos + 1)).toNat_lt
    simp only [Bool.or_eq_true, Bool.and_eq_true, decide_eq_true_eq]
    left; omega
  ·exact bad
 ·split
  ·rename_i hc
   simp only [Bool.and_eq_true, decide_eq_true_eq, beq_iff_eq] at hc
   split
   ·rename_i hv
    simp only [Bool.and_eq_true, decide_eq_true_eq] at hv
    refine ⟨by show pos + 3 ≤ s.size; omega, fun k hk => ?_, hv.2⟩
    have hk : k < 3 := hk
    rcases Nat.lt_or_ge k 1 with h1 | h1
    ·exact one k h1
    ·rcases Nat.lt_or_ge k 2 with h2 | h2
     ·obtain rfl : k = 1 := by omega
      omega
     ·obtain rfl : k = 2 := by omega
      omega
   ·exact bad
  ·split
   ·rename_i hc
    simp only [Bool.and_eq_true, decide_eq_true_eq, beq_iff_eq] at hc
    split
    ·rename_i hv
     simp only [Bool.and_eq_true, decide_eq_true_eq] at hv
     refine ⟨by show pos + 4 ≤ s.size; omega, fun k hk => ?_, hv.2⟩
     have hk : k < 4 := hk
     rcases Nat.lt_or_ge k 1 with h1 | h1
     ·exact one k h1
     ·rcases Nat.lt_or_ge k 2 with h2 | h2
      ·obtain rfl : k = 1 := by omega
       omega
      ·rcases Nat.lt_or_ge k 3 with h3 | h3
       ·obtain rfl : k = 2 := by omega
        omega
       ·obtain rfl : k = 3 := by omega
        omega
    ·exact bad
   ·exact bad
theorem valid_rune {n : Nat} (h : Utf8.valid (n : Int) = true) : n < 55296 ∨ (57343 < n ∧ n ≤ 1114111) := by
 unfold Utf8.valid at h
 simp only [Bool.or_eq_true, Bool.and_eq_true, decide_eq_true_eq] at h
 omega
theorem encode_wide {n : Nat} (h : 128 ≤ n) (hv : Utf8.valid (n : Int) = true) : (∃ a b : UInt8, Utf8.encode (n : Int) = ⟨#[a, b]⟩ ∧ 128 ≤ b.toNat) ∨ 3 ≤ (Utf8.encode (n : Int)).size := by
 unfold Utf8.encode
 rw [if_pos hv]
 have e : (n : Int).toNat = n := Int.toNat_natCast n
 simp only [e]
 rw [if_neg (by omega)]
 split
 ·left
  refine ⟨_, _, rfl, ?_⟩
  simp only [UInt8.toNat_ofNat']
  omega
 ·right
  split
  ·show 3 ≤ (3 : Nat); omega
  ·show 3 ≤ (4 : Nat); omega
end Go.Proofs.YthehblmjloohiaaGreatDoor

namespace Go.Proofs.YthehblmjloohiaaGreatDoor
set_option maxRecDepth 100000
open Go.RowKit
theorem ib50 (s : ByteArray) (c : Int) (w : World) : Calls Tryz.prog 213 #[.string s, .int .u8 c] w fun e w' => e = .returned (.int .i64 (Lib.indexByte s.data.toList c.toNat.toUInt8)) ∧ w' = w := by
 go_enter Tryz.func213, Tryz.ntmps213
 go_wp2
 rw [run_callFunc_extern Tryz.func233 (by kernel_rfl) (by kernel_rfl) (by kernel_rfl) (e := Extern.BytealgIndexByte.indexByte) (by kernel_rfl), Lib.run_indexByteString]
 simp only [Result.andThen]
 rw [Oper.upon_value]
 go_wp2
 go_ret
 exact ⟨rfl, rfl⟩
theorem ib46 (s : ByteArray) (c : Int) (w : World) : Calls Tryz.prog 245 #[.string s, .int .u8 c] w fun e w' => e = .returned (.int .i64 (Lib.indexByte s.data.toList c.toNat.toUInt8)) ∧ w' = w := by
 go_enter Tryz.func245, Tryz.ntmps245
 go_wp2_with fail
 refine (ib50 s c _).mono ?_
 rintro e w1 ⟨rfl, rfl⟩
 dsimp only
 go_wp2_with fail
 go_ret
 exact ⟨rfl, rfl⟩
def two (x : Nat) : Bool := x == 47 || x == 0
theorem ib_two {n : Nat} (h : n < 128) : (0 ≤ Lib.indexByte [47, 0] ((n : Int).toNat.toUInt8)) ↔ two n = true := by
 have hc : ∀ k : Fin 128, (0 ≤ Lib.indexByte [47, 0] (((k.val : Nat) : Int).toNat.toUInt8)) ↔ two k.val = true := by decide
 exact hc ⟨n, h⟩
end Go.Proofs.YthehblmjloohiaaGreatDoor

namespace Go.Proofs.YthehblmjloohiaaGreatDoor
set_option maxRecDepth 1000000
open Go.RowKit
theorem rune_low (n : Nat) (h : n < 128) (w : World) : Calls Tryz.prog 235 #[.string ⟨#[47, 0]⟩, .int .i32 (n : Int)] w fun e w' => (∃ z : Int, e = .returned (.int .i64 z) ∧ (0 ≤ z ↔ two n = true)) ∧ Below w.heap.size w w' := by
 have h2 := ib_two h
 have h0 : (0 : Int) ≤ (n : Int) := by omega
 have h1 : (n : Int) < 128 := by omega
 go_enter Tryz.func235, Tryz.ntmps235
 go_wp2_with (go_at_call 245; refine (ib46 _ _ _).mono ?_; rintro e w1 ⟨rfl, hw⟩; rw [hw])
 go_ret
 refine ⟨⟨_, rfl, ?_⟩, Below.refl _ _⟩
 have e1 : (n : Int).toNat = n := Int.toNat_natCast n
 rw [e1] at h2
 simpa using h2
theorem below_drewN {B : Nat} {a w : World} (h : Below B a w) (n : Nat) : Below B a (w.drewN n) := h.trans ⟨rfl, rfl, rfl, Nat.le_refl _, fun _ _ => rfl⟩
theorem rune_err (w : World) : Calls Tryz.prog 235 #[.string ⟨#[47, 0]⟩, .int .i32 65533] w fun e w' => (∃ z : Int, e = .returned (.int .i64 z) ∧ z < 0) ∧ Below w.heap.size w w' := by
 have hn0 := fun ty => run_next_ascii (P := Tryz.prog) w ⟨#[47, 0]⟩ 0 ty (by decide) (by decide)
 have hn1 := fun ty => run_next_ascii (P := Tryz.prog) w ⟨#[47, 0]⟩ 1 ty (by decide) (by decide)
 have hn2 := fun ty => run_next_end (P := Tryz.prog) w ⟨#[47, 0]⟩ 2 ty (by decide)
 go_enter Tryz.func235, Tryz.ntmps235
 go_wp2
 go_loopg [5, 6] 2 (fun g _ _ wx => (g = 2 ∧ wx = w.iter ⟨#[47, 0]⟩ 0) ∨ (g = 1 ∧ wx = w.iter ⟨#[47, 0]⟩ 1) ∨ (g = 0 ∧ wx = w.iter ⟨#[47, 0]⟩ 2))
 case atStart => exact Or.inl ⟨rfl, rfl⟩
 case round =>
  rcases hrel with ⟨rfl, rfl⟩ | ⟨rfl, rfl⟩ | ⟨rfl, rfl⟩
  ·go_wp2
   go_roundg 1
   case measure => omega
   case rel => exact Or.inr (Or.inl ⟨rfl, rfl⟩)
  ·go_wp2
   go_roundg 0
   case measure => omega
   case rel => exact Or.inr (Or.inr ⟨rfl, rfl⟩)
  ·go_wp2
   go_ret
   exact ⟨⟨_, rfl, by decide⟩, (Below.refl _ _).alloc (Nat.le_refl _) _⟩
theorem valid_any (n : Nat) (hv : Utf8.valid (n : Int) = true) (w : World) : Calls Tryz.prog 246 #[.int .i32 (n : Int)] w fun e w' => e = .returned (.bool true) ∧ w' = w := by
 have h0 : (0 : Int) ≤ (n : Int) := by omega
 rcases valid_rune hv with hr | hr
 ·have h3 : (n : Int) < 55296 := by omega
  go_enter Tryz.func246, Tryz.ntmps246
  go_wp2
  go_ret
  exact ⟨rfl, rfl⟩
 ·have h3 : ¬ (n : Int) < 55296 := by omega
  have h4 : (57343 : Int) < (n : Int) := by omega
  have h5 : (n : Int) ≤ 1114111 := by omega
  go_enter Tryz.func246, Tryz.ntmps246
  go_wp2
  go_ret
  exact ⟨rfl, rfl⟩
theorem rune_wide (n : Nat) (h : 128 ≤ n) (hv : Utf8.valid (n : Int) = true) (hne : n ≠ 65533) (w : World) : Calls Tryz.prog 235 #[.string ⟨#[47, 0]⟩, .int .i32 (n : Int)] w fun e w' => (∃ z : Int, e = .returned (.int .i64 z) ∧ z < 0) ∧ Below w.heap.size w w' := by
 have HV := Lib.hid (fun w => valid_any n hv w)
 have HE := Lib.hid (encode_wide h hv)
 have h0 : (0 : Int) ≤ (n : Int) := by omega
 have h1 : ¬ (n : Int) < 128 := by omega
 have h2 : ((n : Int) == 65533) = false := by rw [beq_eq_false_iff_ne]; omega
 clear hv hne h
 generalize (n : Int) = r at *
 rcases HE.out with ⟨a, b, he, hb⟩ | he
 ·have HF := Lib.hid he
  clear he HE
  go_enter Tryz.func235, Tryz.ntmps235
  go_wp2_with fail
  refine (HV.out _).mono ?_
  rintro e w1 ⟨rfl, rfl⟩
  dsimp only
  go_wp2_with fail
  refine wp_scope_straight ?_
  go_wp2_with fail
  rw [HF.out, show wrap64 (((⟨#[a, b]⟩ : ByteArray).size : Int) - 1) = 1 from IntWalk.wrap64_in 1 ⟨by decide, by decide⟩]
  go_loopw [9] (fun v9 wx => v9 = .int .i64 1 ∧ wx = w1) (fun _ _ => 0)
  case atStart => exact ⟨rfl, rfl⟩
  case round =>
   obtain ⟨rfl, rfl⟩ := hrel
   go_wp2_with fail
   refine wp_scope_straight ?_
   go_wp2_with fail
   have hbi : ¬ (b.toNat : Int) = 0 := by omega
   have hbj : ¬ ((((⟨#[47, 0]⟩ : ByteArray)[1]'(by decide)).toNat : Int) = (((⟨#[a, b]⟩ : ByteArray)[1]'(Nat.lt_succ_self 1)).toNat : Int)) := fun h => hbi h.symm
   have hbk : ((((⟨#[47, 0]⟩ : ByteArray)[1]'(by decide)).toNat : Int) != (((⟨#[a, b]⟩ : ByteArray)[1]'(Nat.lt_succ_self 1)).toNat : Int)) = true := bne_iff_ne.2 hbj
   have hw2 : IntKind.i64.wrap 2 = 2 := by decide
   go_quiet (fail)
   go_wp2_with fail
   have HI := Lib.hid (fun w => show Calls Tryz.prog 245 #[.string ByteArray.empty, .int .u8 (b.toNat : Int)] w fun e w' => e = .returned (.int .i64 (-1)) ∧ w' = w from ib46 ByteArray.empty (b.toNat : Int) w)
   go_quiet (first | (go_at_call 245; refine (HI.out _).mono ?_; rintro e w2 ⟨rfl, rfl⟩; exact ⟨rfl, _, rfl⟩))
   go_wp2_with fail
   simp +zetaDelta only [Exit.noGoto, Exit.inBlock, Exit.then]
   go_ret
   exact ⟨⟨_, rfl, by decide⟩, below_drewN (Below.refl _ _) _⟩
 ·have HF := Lib.hid he
  clear he HE
  go_enter Tryz.func235, Tryz.ntmps235
  go_wp2_with fail
  refine (HV.out _).mono ?_
  rintro e w1 ⟨rfl, rfl⟩
  dsimp only
  go_wp2_with fail
  refine wp_scope_straight ?_
  go_wp2_with fail
  have hz : wrap64 ((Utf8.encode r).size - 1) = ((Utf8.encode r).size : Int) - 1 := IntWalk.wrap64_in _ ⟨by have h7 := HF.out; have := encode_size_le r; omega, by have h7 := HF.out; have := encode_size_le r; omega⟩
  rw [hz]
  have hge : ¬ ((Utf8.encode r).size : Int) - 1 < 2 := by have := HF.out; omega
  generalize ((Utf8.encode r).size : Int) - 1 = z at *
  clear hz
  go_loopw [9] (fun v9 wx => v9 = .int .i64 z ∧ wx = w1) (fun _ _ => 0)
  case atStart => exact ⟨rfl, rfl⟩
  case round =>
   obtain ⟨rfl, rfl⟩ := hrel
   go_wp2_with fail
   go_ret
   exact ⟨⟨_, rfl, by decide⟩, Below.refl _ _⟩
end Go.Proofs.YthehblmjloohiaaGreatDoor

namespace Go.Proofs.YthehblmjloohiaaGreatDoor
set_option maxRecDepth 1000000
open Go.RowKit
theorem two_wide {n : Nat} (h : 128 ≤ n) : two n = false := by
 unfold two
 rw [Bool.or_eq_false_iff, beq_eq_false_iff_ne, beq_eq_false_iff_ne]
 omega
theorem rune_any (n : Nat) (hn : n < 128 ∨ (128 ≤ n ∧ Utf8.valid (n : Int) = true)) (w : World) : Calls Tryz.prog 235 #[.string ⟨#[47, 0]⟩, .int .i32 (n : Int)] w fun e w' => (∃ z : Int, e = .returned (.int .i64 z) ∧ (0 ≤ z ↔ two n = true)) ∧ Below w.heap.size w w' := by
 rcases hn with h | ⟨h, hv⟩
 ·exact rune_low n h w
 ·have ht : ∀ z : Int, z < 0 → (0 ≤ z ↔ two n = true) := fun z hz => by rw [two_wide h]; constructor; (intro h5; omega); (intro h5; cases h5)
  by_cases he : n = 65533
  ·subst he
   exact (rune_err w).mono fun e w' h5 => by obtain ⟨⟨z, h6, h7⟩, h8⟩ := h5; exact ⟨⟨z, h6, ht z h7⟩, h8⟩
  ·exact (rune_wide n h hv he w).mono fun e w' h5 => by obtain ⟨⟨z, h6, h7⟩, h8⟩ := h5; exact ⟨⟨z, h6, ht z h7⟩, h8⟩
def NoTwo (s : ByteArray) (i : Nat) : Prop := ∀ j, j < i → two (s.get! j).toNat = false
theorem get_in {s : ByteArray} {i : Nat} (h : i < s.size) : s.get! i = s[i]'h := by
 have := get_at s i h
 rwa [Nat.add_zero] at this
theorem dec_kind {s : ByteArray} {i : Nat} (h : i < s.size) : ((Utf8.decode s i).1 < 128 ∨ (128 ≤ (Utf8.decode s i).1 ∧ Utf8.valid ((Utf8.decode s i).1 : Int) = true)) ∧ 1 ≤ (Utf8.decode s i).2 ∧ i + (Utf8.decode s i).2 ≤ s.size := by
 by_cases ha : (s[i]'h).toNat < 128
 ·rw [decode_ascii s i h ha]; exact ⟨.inl ha, Nat.le_refl _, h⟩
 ·have ha : 128 ≤ (s[i]'h).toNat := by omega
  have h1 := decode_high s i h ha
  have h2 := decode_wide s i h ha
  exact ⟨.inr ⟨h1.1, h2.2.2⟩, h1.2, h2.1⟩
theorem dec_hit {s : ByteArray} {i : Nat} (h : i < s.size) (ht : two (Utf8.decode s i).1 = true) : two (s.get! i).toNat = true := by
 by_cases ha : (s[i]'h).toNat < 128
 ·rw [decode_ascii s i h ha] at ht; rw [get_in h]; exact ht
 ·have h1 := decode_high s i h (by omega)
  rw [two_wide h1.1] at ht; cases ht
theorem dec_step {s : ByteArray} {i : Nat} (h : i < s.size) (hN : NoTwo s i) (ht : two (Utf8.decode s i).1 = false) : NoTwo s (i + (Utf8.decode s i).2) := by
 intro j hj
 rcases Nat.lt_or_ge j i with h1 | h1
 ·exact hN j h1
 by_cases ha : (s[i]'h).toNat < 128
 ·rw [decode_ascii s i h ha] at ht hj
  have hj : j < i + 1 := hj
  obtain rfl : j = i := by omega
  rw [get_in h]; exact ht
 ·have h2 := decode_wide s i h (by omega)
  have h3 := h2.2.1 (j - i) (by omega)
  rw [show i + (j - i) = j from by omega] at h3
  exact two_wide h3
def hasTwo (s : ByteArray) : Bool := s.data.toList.any fun x => two x.toNat
theorem hasTwo_no {s : ByteArray} (h : NoTwo s s.size) : hasTwo s = false := by
 unfold hasTwo
 rw [List.any_eq_false]
 intro x hx
 obtain ⟨i, hi, rfl⟩ := List.getElem_of_mem hx
 rw [Array.length_toList] at hi
 have hi : i < s.size := hi
 have h1 := h i hi
 rw [get_in hi] at h1
 rw [Array.getElem_toList]
 intro h2
 exact Bool.noConfusion (h1.symm.trans h2)
theorem hasTwo_yes {s : ByteArray} {i : Nat} (hi : i < s.size) (h : two (s.get! i).toNat = true) : hasTwo s = true := by
 unfold hasTwo
 rw [List.any_eq_true]
 rw [get_in hi] at h
 exact ⟨s[i]'hi, Array.getElem_mem_toList (xs := s.data) hi, h⟩
theorem should_any (n : Int) (w : World) : Calls Tryz.prog 236 #[.int .i64 n] w fun e w' => e = .returned (.bool (decide (8 < n))) ∧ w' = w := by
 go_enter Tryz.func236, Tryz.ntmps236
 go_wp2
 go_ret
 exact ⟨rfl, rfl⟩
def Told2 (s : ByteArray) (w : World) (e : Ending) (w' : World) : Prop := (∃ z : Int, e = .returned (.int .i64 z) ∧ (0 ≤ z ↔ hasTwo s = true)) ∧ Below w.heap.size w w'
theorem any_short (s : ByteArray) (w : World) (h8 : s.size ≤ 8) : Calls Tryz.prog 218 #[.string s, .string ⟨#[47, 0]⟩] w (Told2 s w) := by
 have h8z : decide ((8 : Int) < (s.size : Int)) = false := decide_eq_false (by omega)
 go_enter Tryz.func218, Tryz.ntmps218
 go_wp2_with fail
 refine (should_any _ _).mono ?_
 rintro e w1 ⟨rfl, rfl⟩
 rw [h8z]
 dsimp only
 go_wp2_with fail
 go_loopg [9, 10] s.size (fun g _ _ wx => ∃ i : Nat, i + g = s.size ∧ wx.heap[w1.heap.size]? = some (.stringIter s i) ∧ Below w1.heap.size w1 wx ∧ NoTwo s i)
 case atStart => exact ⟨0, by omega, World.iter_heap _ _ _, (Below.refl _ _).alloc (Nat.le_refl _) _, fun j hj => by omega⟩
 case round =>
  obtain ⟨i, hig, hit, hB, hno⟩ := hrel
  have HN := Lib.hid hno
  clear hno h8 h8z
  generalize hk : w1.heap.size = k at *
  cases gk with
  | zero =>
   obtain rfl : i = s.size := by omega
   have hnx := fun ty => Lib.run_next_end_at (P := Tryz.prog) _ k s s.size ty hit (by omega)
   go_wp2
   go_ret
   exact ⟨⟨_, rfl, by rw [hasTwo_no HN.out]; decide⟩, hk ▸ hB⟩
  | succ g =>
   have hi : i < s.size := by omega
   have hnx := fun ty => Lib.run_next_any_at (P := Tryz.prog) _ k s i ty hit hi
   have hkn := dec_kind hi
   have HH := Lib.hid (dec_hit hi)
   have HS := Lib.hid (dec_step hi HN.out)
   have hit2 := Lib.iterAt_heap _ k s i (i + (Utf8.decode s i).2) hit
   have hB2 := Lib.below_iterAt hB (Nat.le_refl k) s (i + (Utf8.decode s i).2)
   have hk2 := (Array.getElem?_eq_some_iff.1 hit2).1
   generalize Utf8.decode s i = d at *
   obtain ⟨r, n⟩ := d
   dsimp only at *
   have HR := Lib.hid (fun w => rune_any r hkn.1 w)
   have hn1 := hkn.2.1
   have hn2 := hkn.2.2
   clear hkn
   go_wp2_with fail
   refine (HR.out _).mono ?_
   rintro e w3 ⟨⟨z, rfl, hz⟩, hw3⟩
   dsimp only
   have hB3 := hB2.trans (hw3.mono (Nat.le_of_lt hk2))
   have hit3 := (hw3.block k hk2).trans hit2
   clear hB2 hw3 hit2 hnx hB hit
   by_cases hz0 : 0 ≤ z
   ·have HT := Lib.hid (hz.1 hz0)
    clear hz
    go_wp2_with fail
    go_ret
    exact ⟨⟨_, rfl, by rw [hasTwo_yes hi (HH.out HT.out)]; simp⟩, hk ▸ hB3⟩
   ·have HT := Lib.hid (show two r = false from Bool.eq_false_iff.2 fun h => hz0 (hz.2 h))
    clear hz
    go_wp2_with fail
    go_roundg (s.size - (i + n))
    case measure => omega
    case rel => exact ⟨i + n, by omega, hit3, hB3, HS.out HT.out⟩
theorem low2 : ∀ (j : Nat) b, (⟨#[47, 0]⟩ : ByteArray).data.toList[j]? = some b → b.toNat < 128 := by
 intro j b h
 match j, h with
 | 0, h => cases h; decide
 | 1, h => cases h; decide
 | j + 2, h => simp at h
def cells2 : Array Value := Lib.setCells [47, 0]
theorem make_any (w : World) : Calls Tryz.prog 237 #[.string ⟨#[47, 0]⟩] w fun e w' => e = .returned (.tuple #[.agg cells2, .bool true]) ∧ w' = w.alloc (.cells cells2 278) :=
 Any.strings_makeASCIISet lays227 (Go.zero_of_info info68).1 (Go.zero_of_info info68).2 ⟨#[47, 0]⟩ w (by decide) low2
theorem holds_any (b : Nat) (x : UInt8) (v : Bool) (w : World) (h : w.cell? ⟨b, x.toNat, none⟩ = some (.bool v)) : Calls Tryz.prog 238 #[.pointer (some ⟨b, 0, none⟩), .int .u8 x.toNat] w fun e w' => e = .returned (.bool v) ∧ w' = w :=
 Any.asciiSet_contains lays228 b x v w h
theorem cells2_size : cells2.size = 256 := Lib.setCells_size _
theorem two_is (x : UInt8) : ([47, 0] : List UInt8).contains x = two x.toNat := by
 have h : ∀ k : Fin 256, ([47, 0] : List UInt8).contains (UInt8.ofNat k.val) = two (UInt8.ofNat k.val).toNat := by decide +kernel
 have := h ⟨x.toNat, x.toNat_lt⟩
 simpa using this
theorem cells2_at (w : World) (x : UInt8) : (w.alloc (.cells cells2 278)).cell? ⟨w.heap.size, x.toNat, none⟩ = some (.bool (two x.toNat)) := by
 rw [World.cell?_alloc_at _ _ _ _ rfl, ← two_is]
 exact Lib.setCells_at _ _
theorem zeros_size : Tryz.zeroCells278.size = 256 := by kernel_rfl
theorem fill68 (w : World) : (storeCells ⟨w.heap.size, 0, none⟩ cells2.toList 0).run Tryz.prog (w.alloc (.cells Tryz.zeroCells278 278)) = .ok () (w.alloc (.cells cells2 278)) :=
 run_storeCells_new w 278 Tryz.zeroCells278 cells2 (by rw [cells2_size]; exact (Go.zero_of_info info68).2) (by rw [cells2_size]; exact zeros_size) (Lib.setCells_one _)
theorem any_long (s : ByteArray) (w : World) (h8 : 8 < s.size) (hs : s.size ≤ 100) : Calls Tryz.prog 218 #[.string s, .string ⟨#[47, 0]⟩] w (Told2 s w) := by
 have h8z : decide ((8 : Int) < (s.size : Int)) = true := decide_eq_true (by omega)
 go_enter Tryz.func218, Tryz.ntmps218
 go_wp2_with fail
 refine (should_any _ _).mono ?_
 rintro e w1 ⟨rfl, rfl⟩
 rw [h8z]
 dsimp only
 go_wp2_with fail
 refine (make_any _).mono ?_
 rintro e w2 ⟨rfl, rfl⟩
 dsimp only
 go_wp2_with fail
 have hsc : (storeCells ⟨w1.heap.size + 1, 0, none⟩ cells2.toList 0).run Tryz.prog ((w1.alloc (.cells cells2 278)).alloc (.cells Tryz.zeroCells278 278)) = .ok () ((w1.alloc (.cells cells2 278)).alloc (.cells cells2 278)) := by
  have h := fill68 (w1.alloc (.cells cells2 278))
  rw [World.size_alloc] at h
  exact h
 rw [hsc]
 simp only [Result.andThen]
 rw [Oper.upon_skip]
 go_wp2_with fail
 have hcell : ∀ x : UInt8, ((w1.alloc (.cells cells2 278)).alloc (.cells cells2 278)).cell? ⟨w1.heap.size + 1, x.toNat, none⟩ = some (.bool (two x.toNat)) := fun x => by
  have h := cells2_at (w1.alloc (.cells cells2 278)) x
  rw [World.size_alloc] at h
  exact h
 have HC := Lib.hid hcell
 have HB : RowKit.Hid (Below w1.heap.size w1 ((w1.alloc (.cells cells2 278)).alloc (.cells cells2 278))) := ((Below.refl _ _).alloc (Nat.le_refl _) _).alloc (by rw [World.size_alloc]; omega) _
 clear hsc hcell
 generalize (w1.alloc (.cells cells2 278)).alloc (.cells cells2 278) = w2 at *
 go_loopg [8] s.size (fun g s8 wx => ∃ i : Nat, i + g = s.size ∧ s8 = .int .i64 i ∧ wx = w2 ∧ NoTwo s i)
 case atStart => exact ⟨0, by omega, rfl, rfl, fun j hj => by omega⟩
 case round =>
  obtain ⟨i, hig, rfl, rfl, hno⟩ := hrel
  have HN := Lib.hid hno
  clear hno
  cases gk with
  | zero =>
   obtain rfl : i = s.size := by omega
   have hiz : ¬ ((s.size : Int) < (s.size : Int)) := by omega
   go_wp2_with fail
   go_ret
   exact ⟨⟨_, rfl, by rw [hasTwo_no HN.out]; decide⟩, HB.out⟩
  | succ g =>
   have hi : i < s.size := by omega
   have hiz : (i : Int) < (s.size : Int) := by omega
   have HG := Lib.hid (get_in hi)
   cases ht : two (s[i]'hi).toNat with
   | false =>
    have HX := Lib.hid (holds_any (w1.heap.size + 1) (s[i]'hi) false _ (ht ▸ HC.out (s[i]'hi)))
    have HT := Lib.hid ht
    clear ht
    go_wp2_with fail
    refine HX.out.mono ?_
    rintro e w3 ⟨rfl, rfl⟩
    dsimp only
    go_wp2_with fail
    go_roundg g
    case measure => omega
    case rel =>
     refine ⟨i + 1, by omega, by first | rfl | simp, rfl, fun j hj => ?_⟩
     rcases Nat.lt_or_ge j i with h1 | h1
     ·exact HN.out j h1
     ·obtain rfl : j = i := by omega
      rw [HG.out]; exact HT.out
   | true =>
    have HX := Lib.hid (holds_any (w1.heap.size + 1) (s[i]'hi) true _ (ht ▸ HC.out (s[i]'hi)))
    have HT := Lib.hid ht
    clear ht
    go_wp2_with fail
    refine HX.out.mono ?_
    rintro e w3 ⟨rfl, rfl⟩
    dsimp only
    go_wp2_with fail
    go_ret
    exact ⟨⟨_, rfl, by rw [hasTwo_yes hi (by rw [HG.out]; exact HT.out)]; simp⟩, HB.out⟩
theorem any_any (s : ByteArray) (w : World) (hs : s.size ≤ 100) : Calls Tryz.prog 218 #[.string s, .string ⟨#[47, 0]⟩] w (Told2 s w) := by
 by_cases h8 : s.size ≤ 8
 ·exact any_short s w h8
 ·exact any_long s w (by omega) hs
theorem contains_any (s : ByteArray) (w : World) (hs : s.size ≤ 100) : Calls Tryz.prog 191 #[.string s, .string ⟨#[47, 0]⟩] w fun e w' => e = .returned (.bool (hasTwo s)) ∧ Below w.heap.size w w' := by
 go_enter Tryz.func191, Tryz.ntmps191
 go_wp2_with fail
 refine (any_any s _ hs).mono ?_
 rintro e w1 ⟨⟨z, rfl, hz⟩, hB⟩
 dsimp only
 have HZ := Lib.hid hz
 clear hz
 by_cases h0 : 0 ≤ z
 ·go_wp2_with fail
  go_ret
  refine ⟨?_, hB⟩
  rw [HZ.out.1 h0]
  simp
 ·go_wp2_with fail
  go_ret
  refine ⟨?_, hB⟩
  rw [show hasTwo s = false from Bool.eq_false_iff.2 fun h => by have := HZ.out.2 h; omega]
  simp
end Go.Proofs.YthehblmjloohiaaGreatDoor
