/- Layer 11, a part of the proofs: no statement of its own. -/
import Derived.Test.YthehblmjloohiaaGreatDoorM15
namespace Go.Proofs.YthehblmjloohiaaGreatDoor
set_option maxRecDepth 100000
open Go.RowKit Go.Less
attribute [local go_sem 9000] sem_eql sem_neq sem_lss sem_leq sem_gtr sem_geq
set_option maxHeartbeats 8000000 in
theorem with_lo (m : Int) (d t : ByteArray) (a : Option Addr) (n cap : Nat) (l : List En) (nm : ByteArray) (i : Int) (w : World) (hE : Ents a n l w) (hn : n ≤ 100000) (hs : ∀ j, j < n → (l.getD j z0).1.size ≤ 100000) (hd : d.size ≤ 100000) (ht : t.size ≤ 100000) (hm : nm.size ≤ 100000)
  (hr : Nm.right nm.data.toList = true) (hf : (Nd.find l nm).isSome = false) (h64 : ¬ 64 ≤ l.length) (h : Nd.place (notLs nm) l < l.length) :
  Calls Tryz.prog 158 #[nv 2 m d t a n cap, .string nm, .int .i64 i] w (Noded (Nd.withE less Nm.right ⟨2, m, d, t, l⟩ nm i) w) := by
 have HNL := Lib.hid hE.count
 have hni : (n : Int) ≤ 100000 := by omega
 have HStart := Lib.hid (bw_start w (.int .i64 2) (.int .i64 m) (.string d) (.string t) (.slice a n cap) nm)
 have HNr := Lib.hid (fun W => rightName_any nm W (by omega))
 rw [hr] at HNr
 have HCo := Lib.hid (show ∀ W g g', g' = g → W.cell? ⟨g, 0, none⟩ = some (.string nm) → Below w.heap.size w W → Calls Tryz.prog 162 #[.slice a n cap, .func (.func 173) #[] #[.pointer (some ⟨g', 0, none⟩)]] W fun e w' => e = .returned (.bool (Nd.find l nm).isSome) ∧ Below W.heap.size W w' from fun W g g' e hg hb => by subst e; exact cof_any a n cap l nm _ W (hE.below hb) (by omega) hg)
 rw [hf] at HCo
 have hR := withE_yes (m := m) (d := d) (t := t) (i := i) hr hf h64
 have h64i : ¬ (64 : Int) ≤ (n : Int) := by have := HNL.out; omega
 have HOw := Lib.hid (fun W (hb : Below w.heap.size w W) => own_any 2 m d t a n cap l W (hE.below hb) hn hs hd ht)
 have HIx := Lib.hid (fun W g (hg : W.cell? ⟨g, 0, none⟩ = some (.string nm)) (hb : Below w.heap.size w W) => ixf31_any a n cap l nm g W (hE.below hb) (by omega) hg)
 have HCl := Lib.hid (fun W => clone_any nm W (by omega))
 have HLl := Lib.hid (show l.length ≤ 100000 by have := HNL.out; omega)
 have hzl := Nd.place_le (p := notLs nm) l
 clear hE hs hd ht hr hf h64
 rw [show ixz (notLs nm) l = (Nd.place (notLs nm) l : Int) by unfold ixz; rw [if_pos h]] at HIx
 have HZ := Lib.hid hzl
 clear hzl h
 generalize Nd.place (notLs nm) l = z at *
 have hz0 : (0 : Int) ≤ (z : Int) := by omega
 obtain ⟨L5, hL5⟩ : ∃ L5, L5 = l.take z ++ (nm, i) :: l.drop z := ⟨_, rfl⟩
 rw [← hL5] at hR
 have HL5 := Lib.hid hL5
 have HR := Lib.hid hR
 clear hL5 hR
 go_enter Tryz.func158, Tryz.ntmps158
 go_wp2_with fail
 refine (HNr.out _).mono ?_
 rintro e w1 ⟨rfl, hw1⟩
 have HA1 := Lib.hid (HStart.out.kept hw1)
 have HA := Lib.hid (HA1.out.kept (Below.refl _ _).drew)
 clear hw1
 have hx := HA1.out.br.box
 have x0 : w1.cell? ⟨w.heap.size, 0, none⟩ = some (.int .i64 2) := cell_obj hx 0
 have x1 : w1.cell? ⟨w.heap.size, 1, none⟩ = some (.int .i64 m) := cell_obj hx 1
 have x2 : w1.cell? ⟨w.heap.size, 2, none⟩ = some (.string d) := cell_obj hx 2
 have x3 : w1.cell? ⟨w.heap.size, 3, none⟩ = some (.string t) := cell_obj hx 3
 have x4 : w1.cell? ⟨w.heap.size, 4, none⟩ = some (.slice a n cap) := cell_obj hx 4
 have f0 := free_obj hx 0
 have f1 := free_obj hx 1
 have f2 := free_obj hx 2
 have f3 := free_obj hx 3
 have f4 := free_obj hx 4
 have xn : w1.cell? ⟨w.heap.size + 1, 0, none⟩ = some (.string nm) := cell_obj HA1.out.nmc 0
 clear hx
 clear f0 f1 f2 f3 f4
 dsimp only
 go_wp2_with fail
 go_region_held3 (fun W => W.cell? ⟨w.heap.size, 4, none⟩ = some (.slice a n cap) ∧ W.cell? ⟨w.heap.size + 1, 0, none⟩ = some (.string nm) ∧ BW w #[.int .i64 2, .int .i64 m, .string d, .string t, .slice a n cap] nm W)
  (first | exact HA.out.all | exact pB.out.all | exact pA.out.all | assumption)
  (first
   | (go_at_call 140; (with_reducible refine (named_any nm _).mono ?_); rintro e wA ⟨rfl, hcA, hA⟩; have pA := Lib.hid (BW.kept (getBW (by assumption)) hA); clear hA)
   | (go_at_call 162; (with_reducible refine (HCo.out _ _ _ (by simp) hcA (BR.below (BW.br (getBW (by assumption))))).mono ?_); rintro e wB ⟨rfl, hB⟩; have pB := Lib.hid (BW.kept (getBW (by assumption)) hB); clear hB))
 clear x0 x1 x2 x3 x4 xn
 have hx := pB.out.br.box
 have x0 : wB.cell? ⟨w.heap.size, 0, none⟩ = some (.int .i64 2) := cell_obj hx 0
 have x1 : wB.cell? ⟨w.heap.size, 1, none⟩ = some (.int .i64 m) := cell_obj hx 1
 have x2 : wB.cell? ⟨w.heap.size, 2, none⟩ = some (.string d) := cell_obj hx 2
 have x3 : wB.cell? ⟨w.heap.size, 3, none⟩ = some (.string t) := cell_obj hx 3
 have x4 : wB.cell? ⟨w.heap.size, 4, none⟩ = some (.slice a n cap) := cell_obj hx 4
 have f0 := free_obj hx 0
 have f1 := free_obj hx 1
 have f2 := free_obj hx 2
 have f3 := free_obj hx 3
 have f4 := free_obj hx 4
 have xn : wB.cell? ⟨w.heap.size + 1, 0, none⟩ = some (.string nm) := cell_obj pB.out.nmc 0
 clear hx
 clear f0 f1 f2 f3 f4
 go_wp2_with fail
 refine (HIx.out wB (w.heap.size + 1) xn pB.out.br.below).mono ?_
 rintro e wC ⟨rfl, hwC⟩
 have HC := Lib.hid (pB.out.kept hwC)
 have HOw1 := Lib.hid (HOw.out wC HC.out.br.below)
 have hRlt := lt_of_obj HC.out.br.res
 clear hwC x0 x1 x2 x3 x4 xn
 have hx := HC.out.br.box
 have x0 : wC.cell? ⟨w.heap.size, 0, none⟩ = some (.int .i64 2) := cell_obj hx 0
 have x1 : wC.cell? ⟨w.heap.size, 1, none⟩ = some (.int .i64 m) := cell_obj hx 1
 have x2 : wC.cell? ⟨w.heap.size, 2, none⟩ = some (.string d) := cell_obj hx 2
 have x3 : wC.cell? ⟨w.heap.size, 3, none⟩ = some (.string t) := cell_obj hx 3
 have x4 : wC.cell? ⟨w.heap.size, 4, none⟩ = some (.slice a n cap) := cell_obj hx 4
 have f0 := free_obj hx 0
 have f1 := free_obj hx 1
 have f2 := free_obj hx 2
 have f3 := free_obj hx 3
 have f4 := free_obj hx 4
 have xn : wC.cell? ⟨w.heap.size + 1, 0, none⟩ = some (.string nm) := cell_obj HC.out.nmc 0
 clear hx
 clear f0 f1 f2 f3 f4
 dsimp only
 go_wp2_with fail
 refine HOw1.out.mono ?_
 rintro e w2 ⟨ao, cp, rfl, hown, hw2⟩
 have HC2 := Lib.hid (HC.out.kept hw2)
 have HO3 := Lib.hid (own_set5 hown (g := w.heap.size) (by omega) (.int .i64 2) (.int .i64 m) (.string d) (.string t) (.slice ao l.length cp))
 have HC3 := Lib.hid (HC2.out.set5 (.int .i64 2) (.int .i64 m) (.string d) (.string t) (.slice ao l.length cp))
 have hsz2 := hw2.size
 clear hown hw2 x0 x1 x2 x3 x4 xn HOw1
 have hx := HC2.out.br.box
 have x0 : w2.cell? ⟨w.heap.size, 0, none⟩ = some (.int .i64 2) := cell_obj hx 0
 have x1 : w2.cell? ⟨w.heap.size, 1, none⟩ = some (.int .i64 m) := cell_obj hx 1
 have x2 : w2.cell? ⟨w.heap.size, 2, none⟩ = some (.string d) := cell_obj hx 2
 have x3 : w2.cell? ⟨w.heap.size, 3, none⟩ = some (.string t) := cell_obj hx 3
 have x4 : w2.cell? ⟨w.heap.size, 4, none⟩ = some (.slice a n cap) := cell_obj hx 4
 have f0 := free_obj hx 0
 have f1 := free_obj hx 1
 have f2 := free_obj hx 2
 have f3 := free_obj hx 3
 have f4 := free_obj hx 4
 have xn : w2.cell? ⟨w.heap.size + 1, 0, none⟩ = some (.string nm) := cell_obj HC2.out.nmc 0
 clear hx
 dsimp only
 go_wp2_with fail
 clear x0 x1 x2 x3 x4 xn f0 f1 f2 f3 f4 HC2
 have HW3 := Lib.hid (show wC.heap.size ≤ (((((w2.setCell ⟨w.heap.size, 0, none⟩ (.int .i64 2)).setCell ⟨w.heap.size, 1, none⟩ (.int .i64 m)).setCell ⟨w.heap.size, 2, none⟩ (.string d)).setCell ⟨w.heap.size, 3, none⟩ (.string t)).setCell ⟨w.heap.size, 4, none⟩ (.slice ao l.length cp)).heap.size by simpa [World.setCell] using hsz2)
 generalize (((((w2.setCell ⟨w.heap.size, 0, none⟩ (.int .i64 2)).setCell ⟨w.heap.size, 1, none⟩ (.int .i64 m)).setCell ⟨w.heap.size, 2, none⟩ (.string d)).setCell ⟨w.heap.size, 3, none⟩ (.string t)).setCell ⟨w.heap.size, 4, none⟩ (.slice ao l.length cp)) = W3 at HO3 HC3 HW3 ⊢
 have HC3d := Lib.hid (HC3.out.kept (Below.refl _ _).drew)
 have hx := HC3.out.br.box
 have x0 : W3.cell? ⟨w.heap.size, 0, none⟩ = some (.int .i64 2) := cell_obj hx 0
 have x1 : W3.cell? ⟨w.heap.size, 1, none⟩ = some (.int .i64 m) := cell_obj hx 1
 have x2 : W3.cell? ⟨w.heap.size, 2, none⟩ = some (.string d) := cell_obj hx 2
 have x3 : W3.cell? ⟨w.heap.size, 3, none⟩ = some (.string t) := cell_obj hx 3
 have x4 : W3.cell? ⟨w.heap.size, 4, none⟩ = some (.slice ao l.length cp) := cell_obj hx 4
 have f0 := free_obj hx 0
 have f1 := free_obj hx 1
 have f2 := free_obj hx 2
 have f3 := free_obj hx 3
 have f4 := free_obj hx 4
 have xn : W3.cell? ⟨w.heap.size + 1, 0, none⟩ = some (.string nm) := cell_obj HC3.out.nmc 0
 clear hx
 clear f0 f1 f2 f3 f4
 go_region_law (first
  | (go_simp; (with_reducible refine (HCl.out _).mono ?_); rintro e w3 ⟨rfl, hw3d⟩; have hw3 := below_drew hw3d; have HC4 := Lib.hid (HC3.out.kept hw3); have HO4 := Lib.hid (owned_below HO3.out hw3); have y4 : w3.cell? ⟨w.heap.size, 4, none⟩ = some (.slice ao l.length cp) := cell_obj HC4.out.br.box 4; have y5 : (w3.alloc (.cells #[.string nm, .int .i64 i] 85)).cell? ⟨w.heap.size, 4, none⟩ = some (.slice ao l.length cp) := cell_obj (HC4.out.kept (below_one w3 (oc (nm, i)))).br.box 4; have HW4 := Lib.hid (Nat.le_trans HW3.out hw3.size); clear hw3d)
  | (go_simp; (with_reducible refine (insert_any wC.heap.size ao cp l z w3.heap.size (nm, i) _ (owned_below HO4.out (below_one w3 (oc (nm, i)))) (heap_alloc_new w3 _) (ne_own HO4.out) HZ.out HLl.out (Nat.le_trans HW4.out (below_one w3 (oc (nm, i))).size)).mono ?_); rw [← HL5.out]; rintro e w5 ⟨ao5, cp5, rfl, hown5, hgr5⟩; have HC5 := Lib.hid ((HC4.out.kept (below_one w3 (oc (nm, i)))).grown hgr5 (fun k hk => Nat.le_trans hRlt (owns_lt HO4.out k hk))); have HO5 := Lib.hid hown5; have z4 : w5.cell? ⟨w.heap.size, 4, none⟩ = some (.slice ao l.length cp) := cell_obj HC5.out.br.box 4; have g4 := free_obj HC5.out.br.box 4; clear hown5 hgr5))
 all_goals
  clear x0 x1 x2 x3 x4 xn y4 y5 z4 g4
  have HC6 := Lib.hid (HC5.out.set4 (.slice ao5 L5.length cp5))
  have hx := HC5.out.br.box
  have x0 : w5.cell? ⟨w.heap.size, 0, none⟩ = some (.int .i64 2) := cell_obj hx 0
  have x1 : w5.cell? ⟨w.heap.size, 1, none⟩ = some (.int .i64 m) := cell_obj hx 1
  have x2 : w5.cell? ⟨w.heap.size, 2, none⟩ = some (.string d) := cell_obj hx 2
  have x3 : w5.cell? ⟨w.heap.size, 3, none⟩ = some (.string t) := cell_obj hx 3
  have x4 : w5.cell? ⟨w.heap.size, 4, none⟩ = some (.slice ao l.length cp) := cell_obj hx 4
  have f0 := free_obj hx 0
  have f1 := free_obj hx 1
  have f2 := free_obj hx 2
  have f3 := free_obj hx 3
  have f4 := free_obj hx 4
  have xn : w5.cell? ⟨w.heap.size + 1, 0, none⟩ = some (.string nm) := cell_obj HC5.out.nmc 0
  clear hx
  have hr := HC5.out.br.res
  have r0 : w5.cell? ⟨w.heap.size + 2, 0, none⟩ = some (.int .i64 0) := cell_obj hr 0
  have r1 : w5.cell? ⟨w.heap.size + 2, 1, none⟩ = some (.int .i64 0) := cell_obj hr 1
  have r2 : w5.cell? ⟨w.heap.size + 2, 2, none⟩ = some (.string ⟨#[]⟩) := cell_obj hr 2
  have r3 : w5.cell? ⟨w.heap.size + 2, 3, none⟩ = some (.string ⟨#[]⟩) := cell_obj hr 3
  have r4 : w5.cell? ⟨w.heap.size + 2, 4, none⟩ = some (.slice none 0 0) := cell_obj hr 4
  have q0 := free_obj hr 0
  have q1 := free_obj hr 1
  have q2 := free_obj hr 2
  have q3 := free_obj hr 3
  have q4 := free_obj hr 4
  clear hr
  have hne : w.heap.size ≠ w.heap.size + 2 := by omega
  have hne2 : w.heap.size + 2 ≠ w.heap.size := by omega
  go_wp2_with fail
  refine bodyPost_ret_by (results_nd rfl _ _ (w.heap.size + 2) _ _ _ _ _ rfl (YthehblmjloohiaaGreatDoor.set5 _ _ _ _ _ HC6.out.br.res)) rfl ?_
  unfold Noded
  rw [HR.out]
  exact ⟨ao5, cp5, rfl, own_ents (own_set5 (own_set HO5.out (by omega) 4 _) (by omega) _ _ _ _ _), below5 HC6.out.br.below (by omega) _ _ _ _ _⟩
end Go.Proofs.YthehblmjloohiaaGreatDoor

namespace Go.Proofs.YthehblmjloohiaaGreatDoor
set_option maxRecDepth 100000
open Go.RowKit Go.Less
attribute [local go_sem 9000] sem_eql sem_neq sem_lss sem_leq sem_gtr sem_geq
set_option maxHeartbeats 8000000 in
theorem with_hi (m : Int) (d t : ByteArray) (a : Option Addr) (n cap : Nat) (l : List En) (nm : ByteArray) (i : Int) (w : World) (hE : Ents a n l w) (hn : n ≤ 100000) (hs : ∀ j, j < n → (l.getD j z0).1.size ≤ 100000) (hd : d.size ≤ 100000) (ht : t.size ≤ 100000) (hm : nm.size ≤ 100000)
  (hr : Nm.right nm.data.toList = true) (hf : (Nd.find l nm).isSome = false) (h64 : ¬ 64 ≤ l.length) (h : ¬ Nd.place (notLs nm) l < l.length) :
  Calls Tryz.prog 158 #[nv 2 m d t a n cap, .string nm, .int .i64 i] w (Noded (Nd.withE less Nm.right ⟨2, m, d, t, l⟩ nm i) w) := by
 have HNL := Lib.hid hE.count
 have hni : (n : Int) ≤ 100000 := by omega
 have HStart := Lib.hid (bw_start w (.int .i64 2) (.int .i64 m) (.string d) (.string t) (.slice a n cap) nm)
 have HNr := Lib.hid (fun W => rightName_any nm W (by omega))
 rw [hr] at HNr
 have HCo := Lib.hid (show ∀ W g g', g' = g → W.cell? ⟨g, 0, none⟩ = some (.string nm) → Below w.heap.size w W → Calls Tryz.prog 162 #[.slice a n cap, .func (.func 173) #[] #[.pointer (some ⟨g', 0, none⟩)]] W fun e w' => e = .returned (.bool (Nd.find l nm).isSome) ∧ Below W.heap.size W w' from fun W g g' e hg hb => by subst e; exact cof_any a n cap l nm _ W (hE.below hb) (by omega) hg)
 rw [hf] at HCo
 have hR := withE_yes (m := m) (d := d) (t := t) (i := i) hr hf h64
 have h64i : ¬ (64 : Int) ≤ (n : Int) := by have := HNL.out; omega
 have HOw := Lib.hid (fun W (hb : Below w.heap.size w W) => own_any 2 m d t a n cap l W (hE.below hb) hn hs hd ht)
 have HIx := Lib.hid (fun W g (hg : W.cell? ⟨g, 0, none⟩ = some (.string nm)) (hb : Below w.heap.size w W) => ixf31_any a n cap l nm g W (hE.below hb) (by omega) hg)
 have HCl := Lib.hid (fun W => clone_any nm W (by omega))
 have HLl := Lib.hid (show l.length ≤ 100000 by have := HNL.out; omega)
 have hzl := Nd.place_le (p := notLs nm) l
 clear hE hs hd ht hr hf h64
 rw [show ixz (notLs nm) l = -1 by unfold ixz; rw [if_neg h]] at HIx
 have hp : Nd.place (notLs nm) l = n := by have := HNL.out; omega
 rw [hp] at hR
 have HZ := Lib.hid (show n ≤ l.length from Nat.le_of_eq HNL.out)
 clear hzl h hp
 have hz0 : (0 : Int) ≤ (n : Int) := by omega
 obtain ⟨L5, hL5⟩ : ∃ L5, L5 = l.take n ++ (nm, i) :: l.drop n := ⟨_, rfl⟩
 rw [← hL5] at hR
 have HL5 := Lib.hid hL5
 have HR := Lib.hid hR
 clear hL5 hR
 go_enter Tryz.func158, Tryz.ntmps158
 go_wp2_with fail
 refine (HNr.out _).mono ?_
 rintro e w1 ⟨rfl, hw1⟩
 have HA1 := Lib.hid (HStart.out.kept hw1)
 have HA := Lib.hid (HA1.out.kept (Below.refl _ _).drew)
 clear hw1
 have hx := HA1.out.br.box
 have x0 : w1.cell? ⟨w.heap.size, 0, none⟩ = some (.int .i64 2) := cell_obj hx 0
 have x1 : w1.cell? ⟨w.heap.size, 1, none⟩ = some (.int .i64 m) := cell_obj hx 1
 have x2 : w1.cell? ⟨w.heap.size, 2, none⟩ = some (.string d) := cell_obj hx 2
 have x3 : w1.cell? ⟨w.heap.size, 3, none⟩ = some (.string t) := cell_obj hx 3
 have x4 : w1.cell? ⟨w.heap.size, 4, none⟩ = some (.slice a n cap) := cell_obj hx 4
 have f0 := free_obj hx 0
 have f1 := free_obj hx 1
 have f2 := free_obj hx 2
 have f3 := free_obj hx 3
 have f4 := free_obj hx 4
 have xn : w1.cell? ⟨w.heap.size + 1, 0, none⟩ = some (.string nm) := cell_obj HA1.out.nmc 0
 clear hx
 clear f0 f1 f2 f3 f4
 dsimp only
 go_wp2_with fail
 go_region_held3 (fun W => W.cell? ⟨w.heap.size, 4, none⟩ = some (.slice a n cap) ∧ W.cell? ⟨w.heap.size + 1, 0, none⟩ = some (.string nm) ∧ BW w #[.int .i64 2, .int .i64 m, .string d, .string t, .slice a n cap] nm W)
  (first | exact HA.out.all | exact pB.out.all | exact pA.out.all | assumption)
  (first
   | (go_at_call 140; (with_reducible refine (named_any nm _).mono ?_); rintro e wA ⟨rfl, hcA, hA⟩; have pA := Lib.hid (BW.kept (getBW (by assumption)) hA); clear hA)
   | (go_at_call 162; (with_reducible refine (HCo.out _ _ _ (by simp) hcA (BR.below (BW.br (getBW (by assumption))))).mono ?_); rintro e wB ⟨rfl, hB⟩; have pB := Lib.hid (BW.kept (getBW (by assumption)) hB); clear hB))
 clear x0 x1 x2 x3 x4 xn
 have hx := pB.out.br.box
 have x0 : wB.cell? ⟨w.heap.size, 0, none⟩ = some (.int .i64 2) := cell_obj hx 0
 have x1 : wB.cell? ⟨w.heap.size, 1, none⟩ = some (.int .i64 m) := cell_obj hx 1
 have x2 : wB.cell? ⟨w.heap.size, 2, none⟩ = some (.string d) := cell_obj hx 2
 have x3 : wB.cell? ⟨w.heap.size, 3, none⟩ = some (.string t) := cell_obj hx 3
 have x4 : wB.cell? ⟨w.heap.size, 4, none⟩ = some (.slice a n cap) := cell_obj hx 4
 have f0 := free_obj hx 0
 have f1 := free_obj hx 1
 have f2 := free_obj hx 2
 have f3 := free_obj hx 3
 have f4 := free_obj hx 4
 have xn : wB.cell? ⟨w.heap.size + 1, 0, none⟩ = some (.string nm) := cell_obj pB.out.nmc 0
 clear hx
 clear f0 f1 f2 f3 f4
 go_wp2_with fail
 refine (HIx.out wB (w.heap.size + 1) xn pB.out.br.below).mono ?_
 rintro e wC ⟨rfl, hwC⟩
 have HC := Lib.hid (pB.out.kept hwC)
 have HOw1 := Lib.hid (HOw.out wC HC.out.br.below)
 have hRlt := lt_of_obj HC.out.br.res
 clear hwC x0 x1 x2 x3 x4 xn
 have hx := HC.out.br.box
 have x0 : wC.cell? ⟨w.heap.size, 0, none⟩ = some (.int .i64 2) := cell_obj hx 0
 have x1 : wC.cell? ⟨w.heap.size, 1, none⟩ = some (.int .i64 m) := cell_obj hx 1
 have x2 : wC.cell? ⟨w.heap.size, 2, none⟩ = some (.string d) := cell_obj hx 2
 have x3 : wC.cell? ⟨w.heap.size, 3, none⟩ = some (.string t) := cell_obj hx 3
 have x4 : wC.cell? ⟨w.heap.size, 4, none⟩ = some (.slice a n cap) := cell_obj hx 4
 have f0 := free_obj hx 0
 have f1 := free_obj hx 1
 have f2 := free_obj hx 2
 have f3 := free_obj hx 3
 have f4 := free_obj hx 4
 have xn : wC.cell? ⟨w.heap.size + 1, 0, none⟩ = some (.string nm) := cell_obj HC.out.nmc 0
 clear hx
 clear f0 f1 f2 f3 f4
 dsimp only
 go_wp2_with fail
 refine HOw1.out.mono ?_
 rintro e w2 ⟨ao, cp, rfl, hown, hw2⟩
 have HC2 := Lib.hid (HC.out.kept hw2)
 have HO3 := Lib.hid (own_set5 hown (g := w.heap.size) (by omega) (.int .i64 2) (.int .i64 m) (.string d) (.string t) (.slice ao l.length cp))
 have HC3 := Lib.hid (HC2.out.set5 (.int .i64 2) (.int .i64 m) (.string d) (.string t) (.slice ao l.length cp))
 have hsz2 := hw2.size
 clear hown hw2 x0 x1 x2 x3 x4 xn HOw1
 have hx := HC2.out.br.box
 have x0 : w2.cell? ⟨w.heap.size, 0, none⟩ = some (.int .i64 2) := cell_obj hx 0
 have x1 : w2.cell? ⟨w.heap.size, 1, none⟩ = some (.int .i64 m) := cell_obj hx 1
 have x2 : w2.cell? ⟨w.heap.size, 2, none⟩ = some (.string d) := cell_obj hx 2
 have x3 : w2.cell? ⟨w.heap.size, 3, none⟩ = some (.string t) := cell_obj hx 3
 have x4 : w2.cell? ⟨w.heap.size, 4, none⟩ = some (.slice a n cap) := cell_obj hx 4
 have f0 := free_obj hx 0
 have f1 := free_obj hx 1
 have f2 := free_obj hx 2
 have f3 := free_obj hx 3
 have f4 := free_obj hx 4
 have xn : w2.cell? ⟨w.heap.size + 1, 0, none⟩ = some (.string nm) := cell_obj HC2.out.nmc 0
 clear hx
 dsimp only
 go_wp2_with fail
 clear x0 x1 x2 x3 x4 xn f0 f1 f2 f3 f4 HC2
 have HW3 := Lib.hid (show wC.heap.size ≤ (((((w2.setCell ⟨w.heap.size, 0, none⟩ (.int .i64 2)).setCell ⟨w.heap.size, 1, none⟩ (.int .i64 m)).setCell ⟨w.heap.size, 2, none⟩ (.string d)).setCell ⟨w.heap.size, 3, none⟩ (.string t)).setCell ⟨w.heap.size, 4, none⟩ (.slice ao l.length cp)).heap.size by simpa [World.setCell] using hsz2)
 generalize (((((w2.setCell ⟨w.heap.size, 0, none⟩ (.int .i64 2)).setCell ⟨w.heap.size, 1, none⟩ (.int .i64 m)).setCell ⟨w.heap.size, 2, none⟩ (.string d)).setCell ⟨w.heap.size, 3, none⟩ (.string t)).setCell ⟨w.heap.size, 4, none⟩ (.slice ao l.length cp)) = W3 at HO3 HC3 HW3 ⊢
 have HC3d := Lib.hid (HC3.out.kept (Below.refl _ _).drew)
 have hx := HC3.out.br.box
 have x0 : W3.cell? ⟨w.heap.size, 0, none⟩ = some (.int .i64 2) := cell_obj hx 0
 have x1 : W3.cell? ⟨w.heap.size, 1, none⟩ = some (.int .i64 m) := cell_obj hx 1
 have x2 : W3.cell? ⟨w.heap.size, 2, none⟩ = some (.string d) := cell_obj hx 2
 have x3 : W3.cell? ⟨w.heap.size, 3, none⟩ = some (.string t) := cell_obj hx 3
 have x4 : W3.cell? ⟨w.heap.size, 4, none⟩ = some (.slice ao l.length cp) := cell_obj hx 4
 have f0 := free_obj hx 0
 have f1 := free_obj hx 1
 have f2 := free_obj hx 2
 have f3 := free_obj hx 3
 have f4 := free_obj hx 4
 have xn : W3.cell? ⟨w.heap.size + 1, 0, none⟩ = some (.string nm) := cell_obj HC3.out.nmc 0
 clear hx
 clear f0 f1 f2 f3 f4
 go_region_law (first
  | (go_simp; (with_reducible refine (HCl.out _).mono ?_); rintro e w3 ⟨rfl, hw3d⟩; have hw3 := below_drew hw3d; have HC4 := Lib.hid (HC3.out.kept hw3); have HO4 := Lib.hid (owned_below HO3.out hw3); have y4 : w3.cell? ⟨w.heap.size, 4, none⟩ = some (.slice ao l.length cp) := cell_obj HC4.out.br.box 4; have y5 : (w3.alloc (.cells #[.string nm, .int .i64 i] 85)).cell? ⟨w.heap.size, 4, none⟩ = some (.slice ao l.length cp) := cell_obj (HC4.out.kept (below_one w3 (oc (nm, i)))).br.box 4; have HW4 := Lib.hid (Nat.le_trans HW3.out hw3.size); clear hw3d)
  | (go_simp; (with_reducible refine (insert_any wC.heap.size ao cp l n w3.heap.size (nm, i) _ (owned_below HO4.out (below_one w3 (oc (nm, i)))) (heap_alloc_new w3 _) (ne_own HO4.out) HZ.out HLl.out (Nat.le_trans HW4.out (below_one w3 (oc (nm, i))).size)).mono ?_); rw [← HL5.out]; rintro e w5 ⟨ao5, cp5, rfl, hown5, hgr5⟩; have HC5 := Lib.hid ((HC4.out.kept (below_one w3 (oc (nm, i)))).grown hgr5 (fun k hk => Nat.le_trans hRlt (owns_lt HO4.out k hk))); have HO5 := Lib.hid hown5; have z4 : w5.cell? ⟨w.heap.size, 4, none⟩ = some (.slice ao l.length cp) := cell_obj HC5.out.br.box 4; have g4 := free_obj HC5.out.br.box 4; clear hown5 hgr5))
 all_goals
  clear x0 x1 x2 x3 x4 xn y4 y5 z4 g4
  have HC6 := Lib.hid (HC5.out.set4 (.slice ao5 L5.length cp5))
  have hx := HC5.out.br.box
  have x0 : w5.cell? ⟨w.heap.size, 0, none⟩ = some (.int .i64 2) := cell_obj hx 0
  have x1 : w5.cell? ⟨w.heap.size, 1, none⟩ = some (.int .i64 m) := cell_obj hx 1
  have x2 : w5.cell? ⟨w.heap.size, 2, none⟩ = some (.string d) := cell_obj hx 2
  have x3 : w5.cell? ⟨w.heap.size, 3, none⟩ = some (.string t) := cell_obj hx 3
  have x4 : w5.cell? ⟨w.heap.size, 4, none⟩ = some (.slice ao l.length cp) := cell_obj hx 4
  have f0 := free_obj hx 0
  have f1 := free_obj hx 1
  have f2 := free_obj hx 2
  have f3 := free_obj hx 3
  have f4 := free_obj hx 4
  have xn : w5.cell? ⟨w.heap.size + 1, 0, none⟩ = some (.string nm) := cell_obj HC5.out.nmc 0
  clear hx
  have hr := HC5.out.br.res
  have r0 : w5.cell? ⟨w.heap.size + 2, 0, none⟩ = some (.int .i64 0) := cell_obj hr 0
  have r1 : w5.cell? ⟨w.heap.size + 2, 1, none⟩ = some (.int .i64 0) := cell_obj hr 1
  have r2 : w5.cell? ⟨w.heap.size + 2, 2, none⟩ = some (.string ⟨#[]⟩) := cell_obj hr 2
  have r3 : w5.cell? ⟨w.heap.size + 2, 3, none⟩ = some (.string ⟨#[]⟩) := cell_obj hr 3
  have r4 : w5.cell? ⟨w.heap.size + 2, 4, none⟩ = some (.slice none 0 0) := cell_obj hr 4
  have q0 := free_obj hr 0
  have q1 := free_obj hr 1
  have q2 := free_obj hr 2
  have q3 := free_obj hr 3
  have q4 := free_obj hr 4
  clear hr
  have hne : w.heap.size ≠ w.heap.size + 2 := by omega
  have hne2 : w.heap.size + 2 ≠ w.heap.size := by omega
  go_wp2_with fail
  refine bodyPost_ret_by (results_nd rfl _ _ (w.heap.size + 2) _ _ _ _ _ rfl (YthehblmjloohiaaGreatDoor.set5 _ _ _ _ _ HC6.out.br.res)) rfl ?_
  unfold Noded
  rw [HR.out]
  exact ⟨ao5, cp5, rfl, own_ents (own_set5 (own_set HO5.out (by omega) 4 _) (by omega) _ _ _ _ _), below5 HC6.out.br.below (by omega) _ _ _ _ _⟩
end Go.Proofs.YthehblmjloohiaaGreatDoor

namespace Go.Proofs.YthehblmjloohiaaGreatDoor
set_option maxRecDepth 100000
open Go.RowKit Go.Less
attribute [local go_sem 9000] sem_eql sem_neq sem_lss sem_leq sem_gtr sem_geq
set_option maxHeartbeats 8000000 in
theorem with_any (k m : Int) (d t : ByteArray) (a : Option Addr) (n cap : Nat) (l : List En) (nm : ByteArray) (i : Int) (w : World) (hE : Ents a n l w) (hn : n ≤ 100000) (hs : ∀ j, j < n → (l.getD j z0).1.size ≤ 100000) (hd : d.size ≤ 100000) (ht : t.size ≤ 100000) (hm : nm.size ≤ 100000) :
  Calls Tryz.prog 158 #[nv k m d t a n cap, .string nm, .int .i64 i] w (Noded (Nd.withE less Nm.right ⟨k, m, d, t, l⟩ nm i) w) := by
 have HNL := Lib.hid hE.count
 have hni : (n : Int) ≤ 100000 := by omega
 by_cases e1 : ¬ k = 2
 ·have HR := Lib.hid (show Nd.withE less Nm.right ⟨k, m, d, t, l⟩ nm i = (Nd.none0, 10) by unfold Nd.withE; rw [if_pos e1])
  have HStart := Lib.hid (bw_start w (.int .i64 k) (.int .i64 m) (.string d) (.string t) (.slice a n cap) nm)
  clear hE hs hd ht
  go_enter Tryz.func158, Tryz.ntmps158
  go_wp2_with fail
  refine bodyPost_ret_by (results_nd rfl _ _ (w.heap.size + 2) _ _ _ _ _ rfl (HStart.out.br.res)) rfl ⟨none, 0, by rw [HR.out]; rfl, by rw [HR.out]; exact ents_nil _, HStart.out.br.below⟩
 obtain rfl := Decidable.not_not.1 e1
 clear e1
 have HStart := Lib.hid (bw_start w (.int .i64 2) (.int .i64 m) (.string d) (.string t) (.slice a n cap) nm)
 have HNr := Lib.hid (fun W => rightName_any nm W (by omega))
 cases hr : Nm.right nm.data.toList
 ·rw [hr] at HNr
  have HR := Lib.hid (withE_name (m := m) (d := d) (t := t) (l := l) (i := i) hr)
  clear hE hs hd ht hr
  go_enter Tryz.func158, Tryz.ntmps158
  go_wp2_with fail
  refine (HNr.out _).mono ?_
  rintro e w1 ⟨rfl, hw1⟩
  have HA1 := Lib.hid (HStart.out.kept hw1)
  have HA := Lib.hid (HA1.out.kept (Below.refl _ _).drew)
  clear hw1
  have hx := HA1.out.br.box
  have x0 : w1.cell? ⟨w.heap.size, 0, none⟩ = some (.int .i64 2) := cell_obj hx 0
  have x1 : w1.cell? ⟨w.heap.size, 1, none⟩ = some (.int .i64 m) := cell_obj hx 1
  have x2 : w1.cell? ⟨w.heap.size, 2, none⟩ = some (.string d) := cell_obj hx 2
  have x3 : w1.cell? ⟨w.heap.size, 3, none⟩ = some (.string t) := cell_obj hx 3
  have x4 : w1.cell? ⟨w.heap.size, 4, none⟩ = some (.slice a n cap) := cell_obj hx 4
  have f0 := free_obj hx 0
  have f1 := free_obj hx 1
  have f2 := free_obj hx 2
  have f3 := free_obj hx 3
  have f4 := free_obj hx 4
  have xn : w1.cell? ⟨w.heap.size + 1, 0, none⟩ = some (.string nm) := cell_obj HA1.out.nmc 0
  clear hx
  clear f0 f1 f2 f3 f4
  dsimp only
  have hr := HA1.out.br.res
  have r0 : w1.cell? ⟨w.heap.size + 2, 0, none⟩ = some (.int .i64 0) := cell_obj hr 0
  have r1 : w1.cell? ⟨w.heap.size + 2, 1, none⟩ = some (.int .i64 0) := cell_obj hr 1
  have r2 : w1.cell? ⟨w.heap.size + 2, 2, none⟩ = some (.string ⟨#[]⟩) := cell_obj hr 2
  have r3 : w1.cell? ⟨w.heap.size + 2, 3, none⟩ = some (.string ⟨#[]⟩) := cell_obj hr 3
  have r4 : w1.cell? ⟨w.heap.size + 2, 4, none⟩ = some (.slice none 0 0) := cell_obj hr 4
  have q0 := free_obj hr 0
  have q1 := free_obj hr 1
  have q2 := free_obj hr 2
  have q3 := free_obj hr 3
  have q4 := free_obj hr 4
  clear hr
  go_wp2_with fail
  refine bodyPost_ret_by (results_nd rfl _ _ (w.heap.size + 2) _ _ _ _ _ rfl (YthehblmjloohiaaGreatDoor.set5 _ _ _ _ _ HA1.out.br.res)) rfl ⟨none, 0, by rw [HR.out]; rfl, by rw [HR.out]; exact ents_nil _, below5 HA1.out.br.below (by omega) _ _ _ _ _⟩
 rw [hr] at HNr
 have HCo := Lib.hid (show ∀ W g g', g' = g → W.cell? ⟨g, 0, none⟩ = some (.string nm) → Below w.heap.size w W → Calls Tryz.prog 162 #[.slice a n cap, .func (.func 173) #[] #[.pointer (some ⟨g', 0, none⟩)]] W fun e w' => e = .returned (.bool (Nd.find l nm).isSome) ∧ Below W.heap.size W w' from fun W g g' e hg hb => by subst e; exact cof_any a n cap l nm _ W (hE.below hb) (by omega) hg)
 cases hf : (Nd.find l nm).isSome
 case true =>
  rw [hf] at HCo
  have HR := Lib.hid (withE_there (m := m) (d := d) (t := t) (i := i) hr hf)
  clear hE hs hd ht hr hf
  go_enter Tryz.func158, Tryz.ntmps158
  go_wp2_with fail
  refine (HNr.out _).mono ?_
  rintro e w1 ⟨rfl, hw1⟩
  have HA1 := Lib.hid (HStart.out.kept hw1)
  have HA := Lib.hid (HA1.out.kept (Below.refl _ _).drew)
  clear hw1
  have hx := HA1.out.br.box
  have x0 : w1.cell? ⟨w.heap.size, 0, none⟩ = some (.int .i64 2) := cell_obj hx 0
  have x1 : w1.cell? ⟨w.heap.size, 1, none⟩ = some (.int .i64 m) := cell_obj hx 1
  have x2 : w1.cell? ⟨w.heap.size, 2, none⟩ = some (.string d) := cell_obj hx 2
  have x3 : w1.cell? ⟨w.heap.size, 3, none⟩ = some (.string t) := cell_obj hx 3
  have x4 : w1.cell? ⟨w.heap.size, 4, none⟩ = some (.slice a n cap) := cell_obj hx 4
  have f0 := free_obj hx 0
  have f1 := free_obj hx 1
  have f2 := free_obj hx 2
  have f3 := free_obj hx 3
  have f4 := free_obj hx 4
  have xn : w1.cell? ⟨w.heap.size + 1, 0, none⟩ = some (.string nm) := cell_obj HA1.out.nmc 0
  clear hx
  clear f0 f1 f2 f3 f4
  dsimp only
  go_wp2_with fail
  go_region_held3 (fun W => W.cell? ⟨w.heap.size, 4, none⟩ = some (.slice a n cap) ∧ W.cell? ⟨w.heap.size + 1, 0, none⟩ = some (.string nm) ∧ BW w #[.int .i64 2, .int .i64 m, .string d, .string t, .slice a n cap] nm W)
   (first | exact HA.out.all | exact pB.out.all | exact pA.out.all | assumption)
   (first
    | (go_at_call 140; (with_reducible refine (named_any nm _).mono ?_); rintro e wA ⟨rfl, hcA, hA⟩; have pA := Lib.hid (BW.kept (getBW (by assumption)) hA); clear hA)
    | (go_at_call 162; (with_reducible refine (HCo.out _ _ _ (by simp) hcA (BR.below (BW.br (getBW (by assumption))))).mono ?_); rintro e wB ⟨rfl, hB⟩; have pB := Lib.hid (BW.kept (getBW (by assumption)) hB); clear hB))
  clear x0 x1 x2 x3 x4 xn
  have hx := pB.out.br.box
  have x0 : wB.cell? ⟨w.heap.size, 0, none⟩ = some (.int .i64 2) := cell_obj hx 0
  have x1 : wB.cell? ⟨w.heap.size, 1, none⟩ = some (.int .i64 m) := cell_obj hx 1
  have x2 : wB.cell? ⟨w.heap.size, 2, none⟩ = some (.string d) := cell_obj hx 2
  have x3 : wB.cell? ⟨w.heap.size, 3, none⟩ = some (.string t) := cell_obj hx 3
  have x4 : wB.cell? ⟨w.heap.size, 4, none⟩ = some (.slice a n cap) := cell_obj hx 4
  have f0 := free_obj hx 0
  have f1 := free_obj hx 1
  have f2 := free_obj hx 2
  have f3 := free_obj hx 3
  have f4 := free_obj hx 4
  have xn : wB.cell? ⟨w.heap.size + 1, 0, none⟩ = some (.string nm) := cell_obj pB.out.nmc 0
  clear hx
  clear f0 f1 f2 f3 f4
  have hr := pB.out.br.res
  have r0 : wB.cell? ⟨w.heap.size + 2, 0, none⟩ = some (.int .i64 0) := cell_obj hr 0
  have r1 : wB.cell? ⟨w.heap.size + 2, 1, none⟩ = some (.int .i64 0) := cell_obj hr 1
  have r2 : wB.cell? ⟨w.heap.size + 2, 2, none⟩ = some (.string ⟨#[]⟩) := cell_obj hr 2
  have r3 : wB.cell? ⟨w.heap.size + 2, 3, none⟩ = some (.string ⟨#[]⟩) := cell_obj hr 3
  have r4 : wB.cell? ⟨w.heap.size + 2, 4, none⟩ = some (.slice none 0 0) := cell_obj hr 4
  have q0 := free_obj hr 0
  have q1 := free_obj hr 1
  have q2 := free_obj hr 2
  have q3 := free_obj hr 3
  have q4 := free_obj hr 4
  clear hr
  go_wp2_with fail
  refine bodyPost_ret_by (results_nd rfl _ _ (w.heap.size + 2) _ _ _ _ _ rfl (YthehblmjloohiaaGreatDoor.set5 _ _ _ _ _ pB.out.br.res)) rfl ⟨none, 0, by rw [HR.out]; rfl, by rw [HR.out]; exact ents_nil _, below5 pB.out.br.below (by omega) _ _ _ _ _⟩
 rw [hf] at HCo
 by_cases h64 : 64 ≤ l.length
 ·have HR := Lib.hid (withE_long (m := m) (d := d) (t := t) (i := i) hr hf h64)
  have h64i : (64 : Int) ≤ (n : Int) := by have := HNL.out; omega
  clear hE hs hd ht hr hf h64
  go_enter Tryz.func158, Tryz.ntmps158
  go_wp2_with fail
  refine (HNr.out _).mono ?_
  rintro e w1 ⟨rfl, hw1⟩
  have HA1 := Lib.hid (HStart.out.kept hw1)
  have HA := Lib.hid (HA1.out.kept (Below.refl _ _).drew)
  clear hw1
  have hx := HA1.out.br.box
  have x0 : w1.cell? ⟨w.heap.size, 0, none⟩ = some (.int .i64 2) := cell_obj hx 0
  have x1 : w1.cell? ⟨w.heap.size, 1, none⟩ = some (.int .i64 m) := cell_obj hx 1
  have x2 : w1.cell? ⟨w.heap.size, 2, none⟩ = some (.string d) := cell_obj hx 2
  have x3 : w1.cell? ⟨w.heap.size, 3, none⟩ = some (.string t) := cell_obj hx 3
  have x4 : w1.cell? ⟨w.heap.size, 4, none⟩ = some (.slice a n cap) := cell_obj hx 4
  have f0 := free_obj hx 0
  have f1 := free_obj hx 1
  have f2 := free_obj hx 2
  have f3 := free_obj hx 3
  have f4 := free_obj hx 4
  have xn : w1.cell? ⟨w.heap.size + 1, 0, none⟩ = some (.string nm) := cell_obj HA1.out.nmc 0
  clear hx
  clear f0 f1 f2 f3 f4
  dsimp only
  go_wp2_with fail
  go_region_held3 (fun W => W.cell? ⟨w.heap.size, 4, none⟩ = some (.slice a n cap) ∧ W.cell? ⟨w.heap.size + 1, 0, none⟩ = some (.string nm) ∧ BW w #[.int .i64 2, .int .i64 m, .string d, .string t, .slice a n cap] nm W)
   (first | exact HA.out.all | exact pB.out.all | exact pA.out.all | assumption)
   (first
    | (go_at_call 140; (with_reducible refine (named_any nm _).mono ?_); rintro e wA ⟨rfl, hcA, hA⟩; have pA := Lib.hid (BW.kept (getBW (by assumption)) hA); clear hA)
    | (go_at_call 162; (with_reducible refine (HCo.out _ _ _ (by simp) hcA (BR.below (BW.br (getBW (by assumption))))).mono ?_); rintro e wB ⟨rfl, hB⟩; have pB := Lib.hid (BW.kept (getBW (by assumption)) hB); clear hB))
  clear x0 x1 x2 x3 x4 xn
  have hx := pB.out.br.box
  have x0 : wB.cell? ⟨w.heap.size, 0, none⟩ = some (.int .i64 2) := cell_obj hx 0
  have x1 : wB.cell? ⟨w.heap.size, 1, none⟩ = some (.int .i64 m) := cell_obj hx 1
  have x2 : wB.cell? ⟨w.heap.size, 2, none⟩ = some (.string d) := cell_obj hx 2
  have x3 : wB.cell? ⟨w.heap.size, 3, none⟩ = some (.string t) := cell_obj hx 3
  have x4 : wB.cell? ⟨w.heap.size, 4, none⟩ = some (.slice a n cap) := cell_obj hx 4
  have f0 := free_obj hx 0
  have f1 := free_obj hx 1
  have f2 := free_obj hx 2
  have f3 := free_obj hx 3
  have f4 := free_obj hx 4
  have xn : wB.cell? ⟨w.heap.size + 1, 0, none⟩ = some (.string nm) := cell_obj pB.out.nmc 0
  clear hx
  clear f0 f1 f2 f3 f4
  have hr := pB.out.br.res
  have r0 : wB.cell? ⟨w.heap.size + 2, 0, none⟩ = some (.int .i64 0) := cell_obj hr 0
  have r1 : wB.cell? ⟨w.heap.size + 2, 1, none⟩ = some (.int .i64 0) := cell_obj hr 1
  have r2 : wB.cell? ⟨w.heap.size + 2, 2, none⟩ = some (.string ⟨#[]⟩) := cell_obj hr 2
  have r3 : wB.cell? ⟨w.heap.size + 2, 3, none⟩ = some (.string ⟨#[]⟩) := cell_obj hr 3
  have r4 : wB.cell? ⟨w.heap.size + 2, 4, none⟩ = some (.slice none 0 0) := cell_obj hr 4
  have q0 := free_obj hr 0
  have q1 := free_obj hr 1
  have q2 := free_obj hr 2
  have q3 := free_obj hr 3
  have q4 := free_obj hr 4
  clear hr
  go_wp2_with fail
  refine bodyPost_ret_by (results_nd rfl _ _ (w.heap.size + 2) _ _ _ _ _ rfl (YthehblmjloohiaaGreatDoor.set5 _ _ _ _ _ pB.out.br.res)) rfl ⟨none, 0, by rw [HR.out]; rfl, by rw [HR.out]; exact ents_nil _, below5 pB.out.br.below (by omega) _ _ _ _ _⟩
 by_cases h : Nd.place (notLs nm) l < l.length
 ·exact with_lo m d t a n cap l nm i w hE hn hs hd ht hm hr hf h64 h
 ·exact with_hi m d t a n cap l nm i w hE hn hs hd ht hm hr hf h64 h
end Go.Proofs.YthehblmjloohiaaGreatDoor
