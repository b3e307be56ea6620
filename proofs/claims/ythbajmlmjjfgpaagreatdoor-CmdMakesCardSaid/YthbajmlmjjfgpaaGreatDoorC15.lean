/- A part of the proofs. -/
import Derived.Test.YthbajmlmjjfgpaaGreatDoorC14
set_option maxRecDepth 1000000
set_option maxHeartbeats 16000000
open Go.Lib (hid)
open Go.Proofs.Tryz
namespace Go.Proofs.YthbajmlmjjfgpaaGreatDoor
open Go.RowKit Go.Less
attribute [local go_sem 9000] sem_eql sem_neq sem_lss sem_leq sem_gtr sem_geq
theorem with_lo (m : Int) (d t : ByteArray) (a : Option Addr) (n cap : Nat) (l : List En) (nm : ByteArray) (i : Int) (w : World) (hE : Ents a n l w) (hn : n <= 100000) (hs : ∀ j, j < n -> (l.getD j z0).1.size <= 100000) (hd : d.size <= 100000) (ht : t.size <= 100000) (hm : nm.size <= 100000)
  (hr : Nm.right nm.data.toList = true) (hf : (Nd.find l nm).isSome = false) (h64 : ¬ 64 <= l.length) (h : Nd.place (notLs nm) l < l.length) :
  Calls prog 104 #[nv 2 m d t a n cap, .string nm, .int .i64 i] w (Noded (Nd.withE less Nm.right ⟨2, m, d, t, l⟩ nm i) w) := by
 have HNL := hid hE.count
 have HStart := hid (bw_start w (.int .i64 2) (.int .i64 m) (.string d) (.string t) (.slice a n cap) nm)
 have HNr := hid (λW => rightName_any nm W (by omega))
 rw [hr] at HNr
 have HCo := hid (show ∀ W g g', g' = g -> W.cell? ⟨g, 0, none⟩ = some (.string nm) -> Below w.heap.size w W -> Calls prog 140 #[.slice a n cap, .func (.func 143) #[] #[.pointer (some ⟨g', 0, none⟩)]] W λe w' => e = .returned (.bool (Nd.find l nm).isSome) /\ Below W.heap.size W w' from λW g g' e hg hb => by subst e; exact cof_any a n cap l nm _ W (hE.below hb) (by omega) hg)
 rw [hf] at HCo
 have hR := withE_yes (m := m) (d := d) (t := t) (i := i) hr hf h64
 have h64i : ¬ (64 : Int) <= (n : Int) := by have := HNL.out; omega
 have HOw := hid (λW (hb : Below w.heap.size w W) => own_any 2 m d t a n cap l W (hE.below hb) hn hs hd ht)
 have HIx := hid (λW g (hg : W.cell? ⟨g, 0, none⟩ = some (.string nm)) (hb : Below w.heap.size w W) => ixf31_any a n cap l nm g W (hE.below hb) (by omega) hg)
 have HCl := hid (λW => clone_any nm W (by omega))
 have HLl := hid (show l.length <= 100000 by omega)
 have hzl := Nd.place_le (p := notLs nm) l
 clear hE hs hd ht hr hf h64
 rw [show ixz (notLs nm) l = (Nd.place (notLs nm) l : Int) by unfold ixz; rw [if_pos h]] at HIx
 have HZ := hid hzl
 clear hzl h
 generalize Nd.place (notLs nm) l = z at *
 obtain ⟨L5, hL5⟩ : ∃ L5, L5 = l.take z ++ (nm, i) :: l.drop z := ⟨_, rfl⟩
 rw [<- hL5] at hR
 have HL5 := hid hL5
 have HR := hid hR
 clear hL5 hR
 go_enter func104, ntmps104
 go_wp2_with fail
 refine (HNr.out _).mono ?_
 rintro e w1 ⟨rfl, hw1⟩
 have HA1 := hid (HStart.out.kept hw1)
 have HA := hid (HA1.out.kept (Below.refl _ _).drew)
 clear hw1
 dsimp only
 go_wp2_with fail
 go_region_held3 (λW => W.cell? ⟨w.heap.size, 4, none⟩ = some (.slice a n cap) /\ W.cell? ⟨w.heap.size + 1, 0, none⟩ = some (.string nm) /\ BW w #[.int .i64 2, .int .i64 m, .string d, .string t, .slice a n cap] nm W)
  (first | exact HA.out.all | exact pB.out.all | exact pA.out.all | assumption)
  (first
   | (go_at_call 106; (with_reducible refine (named_any nm _).mono ?_); rintro e wA ⟨rfl, hcA, hA⟩; have pA := hid (BW.kept (getBW (by assumption)) hA); clear hA)
   | (go_at_call 140; (with_reducible refine (HCo.out _ _ _ (by simp) hcA (BR.below (BW.br (getBW (by assumption))))).mono ?_); rintro e wB ⟨rfl, hB⟩; have pB := hid (BW.kept (getBW (by assumption)) hB); clear hB))
 have xn : wB.cell? ⟨w.heap.size + 1, 0, none⟩ = some (.string nm) := cell_obj pB.out.nmc 0
 go_wp2_with fail
 refine (HIx.out wB (w.heap.size + 1) xn pB.out.br.below).mono ?_
 rintro e wC ⟨rfl, hwC⟩
 have HC := hid (pB.out.kept hwC)
 have HOw1 := hid (HOw.out wC HC.out.br.below)
 have hRlt := lt_of_obj HC.out.br.res
 clear hwC xn
 have hx := HC.out.br.box
 have x0 := bxc5 hx
 clear hx
 dsimp only
 go_wp2_with fail
 refine HOw1.out.mono ?_
 rintro e w2 ⟨ao, cp, rfl, hown, hw2⟩
 have HC2 := hid (HC.out.kept hw2)
 have HO3 := hid (own_set5 hown (g := w.heap.size) (by omega) (.int .i64 2) (.int .i64 m) (.string d) (.string t) (.slice ao l.length cp))
 have HC3 := hid (HC2.out.set5 (.int .i64 2) (.int .i64 m) (.string d) (.string t) (.slice ao l.length cp))
 have hsz2 := hw2.size
 clear hown hw2 x0 HOw1
 have hx := HC2.out.br.box
 have x0 := bxc5 hx
 have f0 := bxf5 hx
 clear hx
 dsimp only
 go_wp2_with fail
 clear x0 f0 HC2
 have HW3 := hid (show wC.heap.size <= (((((w2.setCell ⟨w.heap.size, 0, none⟩ (.int .i64 2)).setCell ⟨w.heap.size, 1, none⟩ (.int .i64 m)).setCell ⟨w.heap.size, 2, none⟩ (.string d)).setCell ⟨w.heap.size, 3, none⟩ (.string t)).setCell ⟨w.heap.size, 4, none⟩ (.slice ao l.length cp)).heap.size by simpa [World.setCell] using hsz2)
 generalize (((((w2.setCell ⟨w.heap.size, 0, none⟩ (.int .i64 2)).setCell ⟨w.heap.size, 1, none⟩ (.int .i64 m)).setCell ⟨w.heap.size, 2, none⟩ (.string d)).setCell ⟨w.heap.size, 3, none⟩ (.string t)).setCell ⟨w.heap.size, 4, none⟩ (.slice ao l.length cp)) = W3 at HO3 HC3 HW3 |-
 have hx := HC3.out.br.box
 have x0 := bxc5 hx
 have xn : W3.cell? ⟨w.heap.size + 1, 0, none⟩ = some (.string nm) := cell_obj HC3.out.nmc 0
 clear hx
 go_region_law (first
  | (go_simp; (with_reducible refine (HCl.out _).mono ?_); rintro e w3 ⟨rfl, hw3d⟩; have hw3 := below_drew hw3d; have HC4 := hid (HC3.out.kept hw3); have HO4 := hid (owned_below HO3.out hw3); have y4 : w3.cell? ⟨w.heap.size, 4, none⟩ = some (.slice ao l.length cp) := cell_obj HC4.out.br.box 4; have y5 : (w3.alloc (.cells #[.string nm, .int .i64 i] 146)).cell? ⟨w.heap.size, 4, none⟩ = some (.slice ao l.length cp) := cell_obj (HC4.out.kept (below_one w3 (oc (nm, i)))).br.box 4; have HW4 := hid (Nat.le_trans HW3.out hw3.size); clear hw3d)
  | (go_simp; (with_reducible refine (insert_any wC.heap.size ao cp l z w3.heap.size (nm, i) _ (owned_below HO4.out (below_one w3 (oc (nm, i)))) (heap_alloc_new w3 _) (ne_own HO4.out) HZ.out HLl.out (Nat.le_trans HW4.out (below_one w3 (oc (nm, i))).size)).mono ?_); rw [<- HL5.out]; rintro e w5 ⟨ao5, cp5, rfl, hown5, hgr5⟩; have HC5 := hid ((HC4.out.kept (below_one w3 (oc (nm, i)))).grown hgr5 (λk hk => Nat.le_trans hRlt (owns_lt HO4.out k hk))); have HO5 := hid hown5; have z4 : w5.cell? ⟨w.heap.size, 4, none⟩ = some (.slice ao l.length cp) := cell_obj HC5.out.br.box 4; have g4 := free_obj HC5.out.br.box 4; clear hown5 hgr5))
 all_goals
  clear x0 xn y4 y5 z4 g4
  have HC6 := hid (HC5.out.set4 (.slice ao5 L5.length cp5))
  have hx := HC5.out.br.box
  have x0 := bxc5 hx
  clear hx
  have hr := HC5.out.br.res
  have r0 := bxc5 hr
  have q0 := bxf5 hr
  clear hr
  go_wp2_with fail
  refine bodyPost_ret_by (results_nd rfl _ _ (w.heap.size + 2) _ _ _ _ _ rfl (YthbajmlmjjfgpaaGreatDoor.set5 _ _ _ _ _ HC6.out.br.res)) rfl ?_
  unfold Noded
  rw [HR.out]
  exact ⟨ao5, cp5, rfl, own_ents (own_set5 (own_set HO5.out (by omega) 4 _) (by omega) _ _ _ _ _), below5 HC6.out.br.below (by omega) _ _ _ _ _⟩
theorem with_hi (m : Int) (d t : ByteArray) (a : Option Addr) (n cap : Nat) (l : List En) (nm : ByteArray) (i : Int) (w : World) (hE : Ents a n l w) (hn : n <= 100000) (hs : ∀ j, j < n -> (l.getD j z0).1.size <= 100000) (hd : d.size <= 100000) (ht : t.size <= 100000) (hm : nm.size <= 100000)
  (hr : Nm.right nm.data.toList = true) (hf : (Nd.find l nm).isSome = false) (h64 : ¬ 64 <= l.length) (h : ¬ Nd.place (notLs nm) l < l.length) :
  Calls prog 104 #[nv 2 m d t a n cap, .string nm, .int .i64 i] w (Noded (Nd.withE less Nm.right ⟨2, m, d, t, l⟩ nm i) w) := by
 have HNL := hid hE.count
 have HStart := hid (bw_start w (.int .i64 2) (.int .i64 m) (.string d) (.string t) (.slice a n cap) nm)
 have HNr := hid (λW => rightName_any nm W (by omega))
 rw [hr] at HNr
 have HCo := hid (show ∀ W g g', g' = g -> W.cell? ⟨g, 0, none⟩ = some (.string nm) -> Below w.heap.size w W -> Calls prog 140 #[.slice a n cap, .func (.func 143) #[] #[.pointer (some ⟨g', 0, none⟩)]] W λe w' => e = .returned (.bool (Nd.find l nm).isSome) /\ Below W.heap.size W w' from λW g g' e hg hb => by subst e; exact cof_any a n cap l nm _ W (hE.below hb) (by omega) hg)
 rw [hf] at HCo
 have hR := withE_yes (m := m) (d := d) (t := t) (i := i) hr hf h64
 have h64i : ¬ (64 : Int) <= (n : Int) := by have := HNL.out; omega
 have HOw := hid (λW (hb : Below w.heap.size w W) => own_any 2 m d t a n cap l W (hE.below hb) hn hs hd ht)
 have HIx := hid (λW g (hg : W.cell? ⟨g, 0, none⟩ = some (.string nm)) (hb : Below w.heap.size w W) => ixf31_any a n cap l nm g W (hE.below hb) (by omega) hg)
 have HCl := hid (λW => clone_any nm W (by omega))
 have HLl := hid (show l.length <= 100000 by omega)
 have hzl := Nd.place_le (p := notLs nm) l
 clear hE hs hd ht hr hf h64
 rw [show ixz (notLs nm) l = -1 by unfold ixz; rw [if_neg h]] at HIx
 have hp : Nd.place (notLs nm) l = n := by have := HNL.out; omega
 rw [hp] at hR
 have HZ := hid (show n <= l.length from Nat.le_of_eq HNL.out)
 clear hzl h hp
 obtain ⟨L5, hL5⟩ : ∃ L5, L5 = l.take n ++ (nm, i) :: l.drop n := ⟨_, rfl⟩
 rw [<- hL5] at hR
 have HL5 := hid hL5
 have HR := hid hR
 clear hL5 hR
 go_enter func104, ntmps104
 go_wp2_with fail
 refine (HNr.out _).mono ?_
 rintro e w1 ⟨rfl, hw1⟩
 have HA1 := hid (HStart.out.kept hw1)
 have HA := hid (HA1.out.kept (Below.refl _ _).drew)
 clear hw1
 dsimp only
 go_wp2_with fail
 go_region_held3 (λW => W.cell? ⟨w.heap.size, 4, none⟩ = some (.slice a n cap) /\ W.cell? ⟨w.heap.size + 1, 0, none⟩ = some (.string nm) /\ BW w #[.int .i64 2, .int .i64 m, .string d, .string t, .slice a n cap] nm W)
  (first | exact HA.out.all | exact pB.out.all | exact pA.out.all | assumption)
  (first
   | (go_at_call 106; (with_reducible refine (named_any nm _).mono ?_); rintro e wA ⟨rfl, hcA, hA⟩; have pA := hid (BW.kept (getBW (by assumption)) hA); clear hA)
   | (go_at_call 140; (with_reducible refine (HCo.out _ _ _ (by simp) hcA (BR.below (BW.br (getBW (by assumption))))).mono ?_); rintro e wB ⟨rfl, hB⟩; have pB := hid (BW.kept (getBW (by assumption)) hB); clear hB))
 have xn : wB.cell? ⟨w.heap.size + 1, 0, none⟩ = some (.string nm) := cell_obj pB.out.nmc 0
 go_wp2_with fail
 refine (HIx.out wB (w.heap.size + 1) xn pB.out.br.below).mono ?_
 rintro e wC ⟨rfl, hwC⟩
 have HC := hid (pB.out.kept hwC)
 have HOw1 := hid (HOw.out wC HC.out.br.below)
 have hRlt := lt_of_obj HC.out.br.res
 clear hwC xn
 have hx := HC.out.br.box
 have x0 := bxc5 hx
 clear hx
 dsimp only
 go_wp2_with fail
 refine HOw1.out.mono ?_
 rintro e w2 ⟨ao, cp, rfl, hown, hw2⟩
 have HC2 := hid (HC.out.kept hw2)
 have HO3 := hid (own_set5 hown (g := w.heap.size) (by omega) (.int .i64 2) (.int .i64 m) (.string d) (.string t) (.slice ao l.length cp))
 have HC3 := hid (HC2.out.set5 (.int .i64 2) (.int .i64 m) (.string d) (.string t) (.slice ao l.length cp))
 have hsz2 := hw2.size
 clear hown hw2 x0 HOw1
 have hx := HC2.out.br.box
 have x0 := bxc5 hx
 have f0 := bxf5 hx
 clear hx
 dsimp only
 go_wp2_with fail
 clear x0 f0 HC2
 have HW3 := hid (show wC.heap.size <= (((((w2.setCell ⟨w.heap.size, 0, none⟩ (.int .i64 2)).setCell ⟨w.heap.size, 1, none⟩ (.int .i64 m)).setCell ⟨w.heap.size, 2, none⟩ (.string d)).setCell ⟨w.heap.size, 3, none⟩ (.string t)).setCell ⟨w.heap.size, 4, none⟩ (.slice ao l.length cp)).heap.size by simpa [World.setCell] using hsz2)
 generalize (((((w2.setCell ⟨w.heap.size, 0, none⟩ (.int .i64 2)).setCell ⟨w.heap.size, 1, none⟩ (.int .i64 m)).setCell ⟨w.heap.size, 2, none⟩ (.string d)).setCell ⟨w.heap.size, 3, none⟩ (.string t)).setCell ⟨w.heap.size, 4, none⟩ (.slice ao l.length cp)) = W3 at HO3 HC3 HW3 |-
 have hx := HC3.out.br.box
 have x0 := bxc5 hx
 have xn : W3.cell? ⟨w.heap.size + 1, 0, none⟩ = some (.string nm) := cell_obj HC3.out.nmc 0
 clear hx
 go_region_law (first
  | (go_simp; (with_reducible refine (HCl.out _).mono ?_); rintro e w3 ⟨rfl, hw3d⟩; have hw3 := below_drew hw3d; have HC4 := hid (HC3.out.kept hw3); have HO4 := hid (owned_below HO3.out hw3); have y4 : w3.cell? ⟨w.heap.size, 4, none⟩ = some (.slice ao l.length cp) := cell_obj HC4.out.br.box 4; have y5 : (w3.alloc (.cells #[.string nm, .int .i64 i] 146)).cell? ⟨w.heap.size, 4, none⟩ = some (.slice ao l.length cp) := cell_obj (HC4.out.kept (below_one w3 (oc (nm, i)))).br.box 4; have HW4 := hid (Nat.le_trans HW3.out hw3.size); clear hw3d)
  | (go_simp; (with_reducible refine (insert_any wC.heap.size ao cp l n w3.heap.size (nm, i) _ (owned_below HO4.out (below_one w3 (oc (nm, i)))) (heap_alloc_new w3 _) (ne_own HO4.out) HZ.out HLl.out (Nat.le_trans HW4.out (below_one w3 (oc (nm, i))).size)).mono ?_); rw [<- HL5.out]; rintro e w5 ⟨ao5, cp5, rfl, hown5, hgr5⟩; have HC5 := hid ((HC4.out.kept (below_one w3 (oc (nm, i)))).grown hgr5 (λk hk => Nat.le_trans hRlt (owns_lt HO4.out k hk))); have HO5 := hid hown5; have z4 : w5.cell? ⟨w.heap.size, 4, none⟩ = some (.slice ao l.length cp) := cell_obj HC5.out.br.box 4; have g4 := free_obj HC5.out.br.box 4; clear hown5 hgr5))
 all_goals
  clear x0 xn y4 y5 z4 g4
  have HC6 := hid (HC5.out.set4 (.slice ao5 L5.length cp5))
  have hx := HC5.out.br.box
  have x0 := bxc5 hx
  clear hx
  have hr := HC5.out.br.res
  have r0 := bxc5 hr
  have q0 := bxf5 hr
  clear hr
  go_wp2_with fail
  refine bodyPost_ret_by (results_nd rfl _ _ (w.heap.size + 2) _ _ _ _ _ rfl (YthbajmlmjjfgpaaGreatDoor.set5 _ _ _ _ _ HC6.out.br.res)) rfl ?_
  unfold Noded
  rw [HR.out]
  exact ⟨ao5, cp5, rfl, own_ents (own_set5 (own_set HO5.out (by omega) 4 _) (by omega) _ _ _ _ _), below5 HC6.out.br.below (by omega) _ _ _ _ _⟩
theorem with_wide (k m : Int) (d t : ByteArray) (a : Option Addr) (n cap : Nat) (l : List En) (nm : ByteArray) (i : Int) (w : World) (hE : Ents a n l w) (hn : n <= 100000) (hs : ∀ j, j < n -> (l.getD j z0).1.size <= 100000) (hd : d.size <= 100000) (ht : t.size <= 100000) (hm : nm.size <= 140737488355328) :
  Calls prog 104 #[nv k m d t a n cap, .string nm, .int .i64 i] w (Noded (Nd.withE less Nm.right ⟨k, m, d, t, l⟩ nm i) w) := by
 have HNL := hid hE.count
 by_cases e1 : ¬ k = 2
 ·have HR := hid (show Nd.withE less Nm.right ⟨k, m, d, t, l⟩ nm i = (Nd.none0, 10) by unfold Nd.withE; rw [if_pos e1])
  have HStart := hid (bw_start w (.int .i64 k) (.int .i64 m) (.string d) (.string t) (.slice a n cap) nm)
  clear hE hs hd ht
  go_enter func104, ntmps104
  go_wp2_with fail
  refine bodyPost_ret_by (results_nd rfl _ _ (w.heap.size + 2) _ _ _ _ _ rfl (HStart.out.br.res)) rfl ⟨none, 0, by rw [HR.out]; rfl, by rw [HR.out]; exact ents_nil _, HStart.out.br.below⟩
 obtain rfl := Decidable.not_not.1 e1
 clear e1
 have HStart := hid (bw_start w (.int .i64 2) (.int .i64 m) (.string d) (.string t) (.slice a n cap) nm)
 have HNr := hid (λW => rightName_any nm W (by omega))
 cases hr : Nm.right nm.data.toList
 ·rw [hr] at HNr
  have HR := hid (withE_name (m := m) (d := d) (t := t) (l := l) (i := i) hr)
  clear hE hs hd ht hr
  go_enter func104, ntmps104
  go_wp2_with fail
  refine (HNr.out _).mono ?_
  rintro e w1 ⟨rfl, hw1⟩
  have HA1 := hid (HStart.out.kept hw1)
  clear hw1
  dsimp only
  have hr := HA1.out.br.res
  have r0 := bxc5 hr
  have q0 := bxf5 hr
  clear hr
  go_wp2_with fail
  refine bodyPost_ret_by (results_nd rfl _ _ (w.heap.size + 2) _ _ _ _ _ rfl (YthbajmlmjjfgpaaGreatDoor.set5 _ _ _ _ _ HA1.out.br.res)) rfl ⟨none, 0, by rw [HR.out]; rfl, by rw [HR.out]; exact ents_nil _, below5 HA1.out.br.below (by omega) _ _ _ _ _⟩
 rw [hr] at HNr
 have HCo := hid (show ∀ W g g', g' = g -> W.cell? ⟨g, 0, none⟩ = some (.string nm) -> Below w.heap.size w W -> Calls prog 140 #[.slice a n cap, .func (.func 143) #[] #[.pointer (some ⟨g', 0, none⟩)]] W λe w' => e = .returned (.bool (Nd.find l nm).isSome) /\ Below W.heap.size W w' from λW g g' e hg hb => by subst e; exact cof_any a n cap l nm _ W (hE.below hb) (by omega) hg)
 cases hf : (Nd.find l nm).isSome
 case true =>
  rw [hf] at HCo
  have HR := hid (withE_there (m := m) (d := d) (t := t) (i := i) hr hf)
  clear hE hs hd ht hr hf
  go_enter func104, ntmps104
  go_wp2_with fail
  refine (HNr.out _).mono ?_
  rintro e w1 ⟨rfl, hw1⟩
  have HA1 := hid (HStart.out.kept hw1)
  have HA := hid (HA1.out.kept (Below.refl _ _).drew)
  clear hw1
  dsimp only
  go_wp2_with fail
  go_region_held3 (λW => W.cell? ⟨w.heap.size, 4, none⟩ = some (.slice a n cap) /\ W.cell? ⟨w.heap.size + 1, 0, none⟩ = some (.string nm) /\ BW w #[.int .i64 2, .int .i64 m, .string d, .string t, .slice a n cap] nm W)
   (first | exact HA.out.all | exact pB.out.all | exact pA.out.all | assumption)
   (first
    | (go_at_call 106; (with_reducible refine (named_any nm _).mono ?_); rintro e wA ⟨rfl, hcA, hA⟩; have pA := hid (BW.kept (getBW (by assumption)) hA); clear hA)
    | (go_at_call 140; (with_reducible refine (HCo.out _ _ _ (by simp) hcA (BR.below (BW.br (getBW (by assumption))))).mono ?_); rintro e wB ⟨rfl, hB⟩; have pB := hid (BW.kept (getBW (by assumption)) hB); clear hB))
  have hr := pB.out.br.res
  have r0 := bxc5 hr
  have q0 := bxf5 hr
  clear hr
  go_wp2_with fail
  refine bodyPost_ret_by (results_nd rfl _ _ (w.heap.size + 2) _ _ _ _ _ rfl (YthbajmlmjjfgpaaGreatDoor.set5 _ _ _ _ _ pB.out.br.res)) rfl ⟨none, 0, by rw [HR.out]; rfl, by rw [HR.out]; exact ents_nil _, below5 pB.out.br.below (by omega) _ _ _ _ _⟩
 rw [hf] at HCo
 by_cases h64 : 64 <= l.length
 ·have HR := hid (withE_long (m := m) (d := d) (t := t) (i := i) hr hf h64)
  have h64i : (64 : Int) <= (n : Int) := by have := HNL.out; omega
  clear hE hs hd ht hr hf h64
  go_enter func104, ntmps104
  go_wp2_with fail
  refine (HNr.out _).mono ?_
  rintro e w1 ⟨rfl, hw1⟩
  have HA1 := hid (HStart.out.kept hw1)
  have HA := hid (HA1.out.kept (Below.refl _ _).drew)
  clear hw1
  dsimp only
  go_wp2_with fail
  go_region_held3 (λW => W.cell? ⟨w.heap.size, 4, none⟩ = some (.slice a n cap) /\ W.cell? ⟨w.heap.size + 1, 0, none⟩ = some (.string nm) /\ BW w #[.int .i64 2, .int .i64 m, .string d, .string t, .slice a n cap] nm W)
   (first | exact HA.out.all | exact pB.out.all | exact pA.out.all | assumption)
   (first
    | (go_at_call 106; (with_reducible refine (named_any nm _).mono ?_); rintro e wA ⟨rfl, hcA, hA⟩; have pA := hid (BW.kept (getBW (by assumption)) hA); clear hA)
    | (go_at_call 140; (with_reducible refine (HCo.out _ _ _ (by simp) hcA (BR.below (BW.br (getBW (by assumption))))).mono ?_); rintro e wB ⟨rfl, hB⟩; have pB := hid (BW.kept (getBW (by assumption)) hB); clear hB))
  have hr := pB.out.br.res
  have r0 := bxc5 hr
  have q0 := bxf5 hr
  clear hr
  go_wp2_with fail
  refine bodyPost_ret_by (results_nd rfl _ _ (w.heap.size + 2) _ _ _ _ _ rfl (YthbajmlmjjfgpaaGreatDoor.set5 _ _ _ _ _ pB.out.br.res)) rfl ⟨none, 0, by rw [HR.out]; rfl, by rw [HR.out]; exact ents_nil _, below5 pB.out.br.below (by omega) _ _ _ _ _⟩
 have hm : nm.size <= 100000 := by
  have h1 := hr
  unfold Nm.right at h1
  simp only [Bool.and_eq_true, decide_eq_true_eq] at h1
  have h2 := h1.1.1.2
  rw [Array.length_toList] at h2
  exact Nat.le_trans h2 (by decide)
 by_cases h : Nd.place (notLs nm) l < l.length
 ·exact with_lo m d t a n cap l nm i w hE hn hs hd ht hm hr hf h64 h
 ·exact with_hi m d t a n cap l nm i w hE hn hs hd ht hm hr hf h64 h
theorem with_any (k m : Int) (d t : ByteArray) (a : Option Addr) (n cap : Nat) (l : List En) (nm : ByteArray) (i : Int) (w : World) (hE : Ents a n l w) (hn : n <= 100000) (hs : ∀ j, j < n -> (l.getD j z0).1.size <= 100000) (hd : d.size <= 100000) (ht : t.size <= 100000) (hm : nm.size <= 100000) :
  Calls prog 104 #[nv k m d t a n cap, .string nm, .int .i64 i] w (Noded (Nd.withE less Nm.right ⟨k, m, d, t, l⟩ nm i) w) :=
 with_wide k m d t a n cap l nm i w hE hn hs hd ht (Nat.le_trans hm (by decide))
end Go.Proofs.YthbajmlmjjfgpaaGreatDoor
namespace Go.Proofs.YthbajmlmjjfgpaaGreatDoor
open Go.RowKit Go.Less
theorem ndr_right {k m : Int} {d t : ByteArray} {l : List En} : ndr k m d t l = true ↔ Nd.Right less Nm.right ⟨k, m, d, t, l⟩ := Nd.right_iff _
theorem parseR_right {s : List UInt8} {x : Nd.Node} (h : parseR s = (x, 0)) : Nd.Right less Nm.right x /\ Nd.text x = s := by
 unfold parseR at h
 cases hp : Nd.parse less Nm.right s with
 | none => rw [hp] at h; injection h with _ h; cases h
 | some y =>
  rw [hp] at h
  injection h with h _
  subst h
  exact ⟨(Nd.text_parse hp).2, (Nd.text_parse hp).1⟩
section
variable {k m : Int} {d t : ByteArray} {a : Option Addr} {n c : Nat} {l : List En} {k' m' : Int} {d' t' : ByteArray} {a' : Option Addr} {n' c' : Nat} {l' : List En} {nm : ByteArray} {i : Int} {b : Bool} {r : Int}
theorem q_print (W : World) (hE : Ents a n l W) (S : Small d t n l) {u : ByteArray} (h : prt ⟨k, m, d, t, l⟩ = (u, r)) :
  Calls prog 132 #[nv k m d t a n c] W λe w' => e = .returned (.tuple #[.string u, .int .i64 r]) /\ Below W.heap.size W w' := by
 have H := print_any k m d t a n c l W hE (Nat.le_trans S.n80 (by decide)) (S.at hE.count)
 unfold Printed at H; rw [h] at H; exact H
theorem q_with (W : World) (hE : Ents a n l W) (S : Small d t n l) (hm : nm.size <= 100000) (h : Nd.withE less Nm.right ⟨k, m, d, t, l⟩ nm i = (⟨k', m', d', t', l'⟩, r)) (hn : l'.length = n') :
  Calls prog 104 #[nv k m d t a n c, .string nm, .int .i64 i] W λe w' => ∃ a c, e = .returned (.tuple #[nv k' m' d' t' a n' c, .int .i64 r]) /\ Ents a n' l' w' /\ Below W.heap.size W w' := by
 have H := with_any k m d t a n c l nm i W hE (Nat.le_trans S.n80 (by decide)) (S.at hE.count) (Nat.le_trans S.d5 (by decide)) (Nat.le_trans S.t5 (by decide)) hm
 unfold Noded at H; rw [h] at H; subst hn; exact H
theorem q_wout (W : World) (hE : Ents a n l W) (S : Small d t n l) (h : Nd.withoutE ⟨k, m, d, t, l⟩ nm = (⟨k', m', d', t', l'⟩, r)) (hn : l'.length = n') :
  Calls prog 66 #[nv k m d t a n c, .string nm] W λe w' => ∃ a c, e = .returned (.tuple #[nv k' m' d' t' a n' c, .int .i64 r]) /\ Ents a n' l' w' /\ Below W.heap.size W w' := by
 have H := without_any k m d t a n c l nm W hE (Nat.le_trans S.n80 (by decide)) (S.at hE.count) (Nat.le_trans S.d5 (by decide)) (Nat.le_trans S.t5 (by decide))
 unfold Noded at H; rw [h] at H; subst hn; exact H
theorem q_node (W : World) (hE : Ents a n l W) (S : Small d t n l) (h : ndr k m d t l = b) :
  Calls prog 99 #[nv k m d t a n c] W λe w' => e = .returned (.bool b) /\ Below W.heap.size W w' :=
 h ▸ node_any k m d t a n c l W hE (Nat.le_trans S.n80 (by decide)) (S.at hE.count)
end
end Go.Proofs.YthbajmlmjjfgpaaGreatDoor
namespace Go.Proofs.YthbajmlmjjfgpaaGreatDoor
open Go.RowKit Go.Less
open T8 (pv Dg)
attribute [local go_sem 9000] sem_eql sem_neq
def Plced (r : Except Int (Int × ByteArray)) (l : List Fs.Item) (w : World) (e : Ending) (w' : World) : Prop := Below w.heap.size w w' /\ match r with
 | .error c => c ≠ 0 /\ e = .returned (.tuple #[.agg #[.int .i64 0, .int .i64 0, .int .i64 0, .string ⟨#[]⟩, .string ⟨#[]⟩, .slice none 0 0, .string ⟨#[]⟩], .int .i64 c])
 | .ok (d, n) => ∃ a c, e = .returned (.tuple #[.agg #[.int .i64 d, .int .i64 (Fs.nodeD l d).kind, .int .i64 (Fs.nodeD l d).mode, .string (Fs.nodeD l d).data, .string (Fs.nodeD l d).target, .slice a (Fs.nodeD l d).ents.length c, .string n], .int .i64 0]) /\ Ents a (Fs.nodeD l d).ents.length (Fs.nodeD l d).ents w'
theorem find_cases2 (l : List Fs.Item) (p : ByteArray) : (∃ e, e ≠ 0 /\ findR l p = (0, Nd.none0, e)) \/ ∃ ns i, spl p = some ns /\ Fs.walk l 1 ns = .ok i /\ findR l p = (i, Fs.nodeD l i, 0) := by
 cases hs : spl p with
 | none => exact .inl ⟨14, by decide, by unfold findR; rw [hs]⟩
 | some ns =>
  have e1 : findR l p = match Fs.walk l 1 ns with
   | .error e => (0, Nd.none0, e)
   | .ok i => (i, Fs.nodeD l i, 0) := by unfold findR; rw [hs]; rfl
  rcases walk_code l ns 1 with ⟨i, hw⟩ | hw | hw
  ·exact .inr ⟨ns, i, rfl, hw, by rw [e1, hw]⟩
  ·exact .inl ⟨10, by decide, by rw [e1, hw]⟩
  ·exact .inl ⟨4, by decide, by rw [e1, hw]⟩
theorem pFile_any (m : Option Nat) (nx : Int) (l : List Fs.Item) (p : ByteArray) (w : World) (h : Sv w m l) (hp : p.size <= 140737488355328) (hkd : ∀ i x, findR l p = (i, x, 0) -> x.kind = 1 \/ x.kind = 2 \/ x.kind = 3) : Calls prog 89 #[stv m nx, .string p] w (Foundy (fileR l p) w) := by
 have HF := hid (λW (hb : Below w.heap.size w W) => pFind_any m nx l p W (h.below hb) hp)
 clear h
 rcases find_cases2 l p with ⟨ec, hne, hf⟩ | ⟨ns, i, hsp, hw, hf⟩
 ·have HR := hid (show fileR l p = (0, Nd.none0, ec) by unfold fileR; rw [hf, if_pos hne])
  rw [hf] at HF
  clear hf hkd
  have HB := hid (show Bxs w [(w.heap.size, #[pv m, .int .i64 nx], 108), (w.heap.size + 1, #[.int .i64 0, .int .i64 0, .string ⟨#[]⟩, .string ⟨#[]⟩, .slice none 0 0], 67)] ((w.alloc (.cells #[pv m, .int .i64 nx] 108)).alloc (.cells #[.int .i64 0, .int .i64 0, .string ⟨#[]⟩, .string ⟨#[]⟩, .slice none 0 0] 67)) from Bxs.two w _ _ _ _)
  go_enter func89, ntmps89
  go_wp2_with fail
  generalize (w.alloc (.cells #[pv m, .int .i64 nx] 108)).alloc (.cells #[.int .i64 0, .int .i64 0, .string ⟨#[]⟩, .string ⟨#[]⟩, .slice none 0 0] 67) = W0 at HB |-
  go_wp2_with fail
  refine (HF.out W0 HB.out.below).mono ?_
  rintro e w1 ⟨ea, eb, rfl, hE, hb⟩
  have hbk := hb
  clear hE
  have HB := hid (HB.out.kept hbk)
  clear hbk
  have HB := hid (HB.out.more #[.int .i64 0, .int .i64 0, .string ⟨#[]⟩, .string ⟨#[]⟩, .slice ea 0 eb] 67 rfl)
  dsimp only
  go_wp2_with (first | (refine store_bx HB.out 1 rfl 67 _ _ rfl rfl #[.int .i64 0, .int .i64 0, .string ⟨#[]⟩, .string ⟨#[]⟩, .slice none 0 0] rfl rfl (by kernel_rfl) rfl rfl (by decide) (by decide) ?_; intro w2 hS hK hbS hsS; have HBS := hid hS; clear hS hK hbS hsS; have HB := HBS; clear HBS) | fail)
  refine bodyPost_ret_by (results_mid rfl _ _ (w.heap.size + 1) _ _ _ _ _ rfl (HB.out.obj 1 rfl)) rfl ?_
  exact foundy_err ec HB.out.below HR.out
 ·have hkd := hkd i (Fs.nodeD l i) hf
  clear hsp hw
  generalize Fs.nodeD l i = x at *
  obtain ⟨k, mo, d, t, es⟩ := x
  have HFx := HF.out
  rw [hf] at HFx
  dsimp only at hkd
  have HF := hid hf
  have HFo := hid (show ∀ W, Below w.heap.size w W -> Calls prog 134 #[stv m nx, .string p] W (Foundy (i, (⟨k, mo, d, t, es⟩ : Nd.Node), 0) W) from HFx)
  clear hf
  clear HFx
  rcases hkd with rfl | rfl | rfl
  ·have HR := hid (show fileR l p = (i, ⟨1, mo, d, t, es⟩, 0) by unfold fileR; rw [HF.out]; rfl)
   have HB := hid (show Bxs w [(w.heap.size, #[pv m, .int .i64 nx], 108), (w.heap.size + 1, #[.int .i64 0, .int .i64 0, .string ⟨#[]⟩, .string ⟨#[]⟩, .slice none 0 0], 67)] ((w.alloc (.cells #[pv m, .int .i64 nx] 108)).alloc (.cells #[.int .i64 0, .int .i64 0, .string ⟨#[]⟩, .string ⟨#[]⟩, .slice none 0 0] 67)) from Bxs.two w _ _ _ _)
   go_enter func89, ntmps89
   go_wp2_with fail
   generalize (w.alloc (.cells #[pv m, .int .i64 nx] 108)).alloc (.cells #[.int .i64 0, .int .i64 0, .string ⟨#[]⟩, .string ⟨#[]⟩, .slice none 0 0] 67) = W0 at HB |-
   go_wp2_with fail
   refine (HFo.out W0 HB.out.below).mono ?_
   rintro e w1 ⟨a, c, rfl, hE, hb⟩
   have hbk := hb
   have HEn := hid (hE.below (below_one w1 (.cells #[.int .i64 1, .int .i64 mo, .string d, .string t, .slice a es.length c] 67)))
   clear hE
   have HB := hid (HB.out.kept hbk)
   clear hbk
   have HB := hid (HB.out.more #[.int .i64 1, .int .i64 mo, .string d, .string t, .slice a es.length c] 67 rfl)
   have b1 := HB.out.c5 1 rfl
   dsimp only
   have q1_0 : (w1.alloc (.cells #[.int .i64 1, .int .i64 mo, .string d, .string t, .slice a es.length c] 67)).frozen? ⟨w.heap.size + 1, 0, none⟩ = false := HB.out.free 1 rfl 0
   have q1_1 : (w1.alloc (.cells #[.int .i64 1, .int .i64 mo, .string d, .string t, .slice a es.length c] 67)).frozen? ⟨w.heap.size + 1, 1, none⟩ = false := HB.out.free 1 rfl 1
   have q1_2 : (w1.alloc (.cells #[.int .i64 1, .int .i64 mo, .string d, .string t, .slice a es.length c] 67)).frozen? ⟨w.heap.size + 1, 2, none⟩ = false := HB.out.free 1 rfl 2
   have q1_3 : (w1.alloc (.cells #[.int .i64 1, .int .i64 mo, .string d, .string t, .slice a es.length c] 67)).frozen? ⟨w.heap.size + 1, 3, none⟩ = false := HB.out.free 1 rfl 3
   have q1_4 : (w1.alloc (.cells #[.int .i64 1, .int .i64 mo, .string d, .string t, .slice a es.length c] 67)).frozen? ⟨w.heap.size + 1, 4, none⟩ = false := HB.out.free 1 rfl 4
   go_wp2_with fail
   generalize w1.alloc (.cells #[.int .i64 1, .int .i64 mo, .string d, .string t, .slice a es.length c] 67) = W3 at *
   generalize w1.heap.size = pX at *
   have x0 : W3.cell? ⟨pX, 0, none⟩ = some (.int .i64 1) := HB.out.cell 2 rfl 0
   have x1 : W3.cell? ⟨pX, 1, none⟩ = some (.int .i64 mo) := HB.out.cell 2 rfl 1
   have x2 : W3.cell? ⟨pX, 2, none⟩ = some (.string d) := HB.out.cell 2 rfl 2
   have x3 : W3.cell? ⟨pX, 3, none⟩ = some (.string t) := HB.out.cell 2 rfl 3
   have x4 : W3.cell? ⟨pX, 4, none⟩ = some (.slice a es.length c) := HB.out.cell 2 rfl 4
   go_region_law fail
   all_goals
    have HBf := hid (HB.out.put5 1 rfl (.int .i64 1) (.int .i64 mo) (.string d) (.string t) (.slice a es.length c))
    have HEf := hid (ents_keep HEn.out (HB.out.obj 1 rfl) (.int .i64 1) (.int .i64 mo) (.string d) (.string t) (.slice a es.length c))
    go_wp2_with fail
    refine bodyPost_ret_by (results_mid rfl _ _ (w.heap.size + 1) _ _ _ _ _ rfl (HBf.out.obj 1 rfl)) rfl ?_
    rw [HR.out]
    exact ⟨a, c, rfl, HEf.out.below (Below.refl _ _).drew, HBf.out.below.drew⟩
  ·have HR := hid (show fileR l p = (0, Nd.none0, 11) by unfold fileR; rw [HF.out]; rfl)
   have HB := hid (show Bxs w [(w.heap.size, #[pv m, .int .i64 nx], 108), (w.heap.size + 1, #[.int .i64 0, .int .i64 0, .string ⟨#[]⟩, .string ⟨#[]⟩, .slice none 0 0], 67)] ((w.alloc (.cells #[pv m, .int .i64 nx] 108)).alloc (.cells #[.int .i64 0, .int .i64 0, .string ⟨#[]⟩, .string ⟨#[]⟩, .slice none 0 0] 67)) from Bxs.two w _ _ _ _)
   go_enter func89, ntmps89
   go_wp2_with fail
   generalize (w.alloc (.cells #[pv m, .int .i64 nx] 108)).alloc (.cells #[.int .i64 0, .int .i64 0, .string ⟨#[]⟩, .string ⟨#[]⟩, .slice none 0 0] 67) = W0 at HB |-
   go_wp2_with fail
   refine (HFo.out W0 HB.out.below).mono ?_
   rintro e w1 ⟨a, c, rfl, hE, hb⟩
   have hbk := hb
   clear hE
   have HB := hid (HB.out.kept hbk)
   clear hbk
   have HB := hid (HB.out.more #[.int .i64 2, .int .i64 mo, .string d, .string t, .slice a es.length c] 67 rfl)
   dsimp only
   go_wp2_with (first | (refine store_bx HB.out 1 rfl 67 _ _ rfl rfl #[.int .i64 0, .int .i64 0, .string ⟨#[]⟩, .string ⟨#[]⟩, .slice none 0 0] rfl rfl (by kernel_rfl) rfl rfl (by decide) (by decide) ?_; intro w2 hS hK hbS hsS; have HBS := hid hS; clear hS hK hbS hsS; have HB := HBS; clear HBS) | fail)
   refine bodyPost_ret_by (results_mid rfl _ _ (w.heap.size + 1) _ _ _ _ _ rfl (HB.out.obj 1 rfl)) rfl ?_
   exact foundy_err 11 HB.out.below HR.out
  ·have HR := hid (show fileR l p = (0, Nd.none0, 16) by unfold fileR; rw [HF.out]; rfl)
   have HB := hid (show Bxs w [(w.heap.size, #[pv m, .int .i64 nx], 108), (w.heap.size + 1, #[.int .i64 0, .int .i64 0, .string ⟨#[]⟩, .string ⟨#[]⟩, .slice none 0 0], 67)] ((w.alloc (.cells #[pv m, .int .i64 nx] 108)).alloc (.cells #[.int .i64 0, .int .i64 0, .string ⟨#[]⟩, .string ⟨#[]⟩, .slice none 0 0] 67)) from Bxs.two w _ _ _ _)
   go_enter func89, ntmps89
   go_wp2_with fail
   generalize (w.alloc (.cells #[pv m, .int .i64 nx] 108)).alloc (.cells #[.int .i64 0, .int .i64 0, .string ⟨#[]⟩, .string ⟨#[]⟩, .slice none 0 0] 67) = W0 at HB |-
   go_wp2_with fail
   refine (HFo.out W0 HB.out.below).mono ?_
   rintro e w1 ⟨a, c, rfl, hE, hb⟩
   have hbk := hb
   clear hE
   have HB := hid (HB.out.kept hbk)
   clear hbk
   have HB := hid (HB.out.more #[.int .i64 3, .int .i64 mo, .string d, .string t, .slice a es.length c] 67 rfl)
   dsimp only
   go_wp2_with (first | (refine store_bx HB.out 1 rfl 67 _ _ rfl rfl #[.int .i64 0, .int .i64 0, .string ⟨#[]⟩, .string ⟨#[]⟩, .slice none 0 0] rfl rfl (by kernel_rfl) rfl rfl (by decide) (by decide) ?_; intro w2 hS hK hbS hsS; have HBS := hid hS; clear hS hK hbS hsS; have HB := HBS; clear HBS) | fail)
   refine bodyPost_ret_by (results_mid rfl _ _ (w.heap.size + 1) _ _ _ _ _ rfl (HB.out.obj 1 rfl)) rfl ?_
   exact foundy_err 16 HB.out.below HR.out
end Go.Proofs.YthbajmlmjjfgpaaGreatDoor
namespace Fs
open Nd (En Node none0)
open Gr (go upd)
structure EnvOk (E : Env) : Prop where
 rising : Tr.Rising E.lt
 few : ∀ {p ns}, E.sp p = some ns -> ns.length <= 8
 names : ∀ {p ns}, E.sp p = some ns -> ∀ n ∈ ns, E.nm (Nd.bs n) = true
 put : ∀ s o d, s.size <= 4096 -> (E.put s o d).2 = 0 -> (E.put s o d).1.size <= 4096
 trunc : ∀ s n, (E.trunc s n).2 = 0 -> (E.trunc s n).1.size <= 4096
 copy : ∀ s o t f n, s.size <= 4096 -> (E.copy s o t f n).2 = 0 -> (E.copy s o t f n).1.size <= 4096
structure Half (E : Env) (f : FS) : Prop where
 inos : Rising f.l
 pos : ∀ y ∈ f.l, 1 <= y.1 /\ y.1 < f.next
 few : f.l.length <= 256
 top : isDir f.l 1
 right : ∀ {i x}, node f.l i = some x -> Nd.Right E.lt E.nm x
 there : ∀ {i n c}, step f.l i n = some c -> (node f.l c).isSome = true
 tree : Gr.Tree (step f.l) (isDir f.l) 1
structure Good (E : Env) (f : FS) : Prop extends Half E f where
 reach : ∀ {i x}, node f.l i = some x -> ∃ ns, go (step f.l) 1 ns = some i
theorem step_iff {l : List Item} {i : Int} {n : ByteArray} {c : Int} : step l i n = some c ↔ ∃ x, node l i = some x /\ Nd.find x.ents n = some c := by
 unfold step; rw [Option.bind_eq_some_iff]
theorem find_cut_other {l : List En} {k m : ByteArray} (h : m ≠ k) : Nd.find (Nd.cut l k) m = Nd.find l m := by
 induction l with
 | nil => rfl
 | cons x l ih =>
  unfold Nd.cut
  by_cases hx : x.1 = k
  ·rw [if_pos hx, Nd.find, if_neg (λe => h (e.symm.trans hx))]
  ·rw [if_neg hx, Nd.find, Nd.find, ih]
theorem nodeD_kind {l : List Item} {i k : Int} (h : (nodeD l i).kind = k) (hk : k ≠ 0) : ∃ x, node l i = some x /\ nodeD l i = x /\ x.kind = k := by
 cases hn : node l i with
 | none => unfold nodeD at h; rw [hn] at h; exact absurd h.symm hk
 | some x => rw [nodeD_of hn] at h; exact ⟨x, rfl, nodeD_of hn, h⟩
theorem dir_iff {l : List Item} {i : Int} : isDir l i ↔ (nodeD l i).kind = 2 :=
 ⟨λ⟨x, h, hk⟩ => by rw [nodeD_of h]; exact hk, λh => by
  obtain ⟨x, h1, _, h2⟩ := nodeD_kind h (by decide)
  exact ⟨x, h1, h2⟩⟩
theorem step_set (l : List Item) (d : Int) (y : Node) : step (setL l d y) = λi n => if i = d then Nd.find y.ents n else step l i n := by
 funext i n
 unfold step
 rw [node_set]
 split <;> rfl
theorem dir_set {l : List Item} {d i : Int} {y : Node} : isDir (setL l d y) i ↔ (i = d /\ y.kind = 2) \/ (i ≠ d /\ isDir l i) := by
 unfold isDir
 rw [node_set]
 by_cases h : i = d
 ·rw [if_pos h]
  constructor
  ·rintro ⟨x, h1, h2⟩; injection h1 with h1; subst h1; exact .inl ⟨h, h2⟩
  ·rintro (⟨_, h2⟩ | ⟨h1, _⟩)
   ·exact ⟨y, rfl, h2⟩
   ·exact absurd h h1
 ·rw [if_neg h]
  constructor
  ·exact λh1 => .inr ⟨h, h1⟩
  ·rintro (⟨h1, _⟩ | ⟨_, h2⟩)
   ·exact absurd h1 h
   ·exact h2
section
variable {E : Env} {f : FS}
theorem Half.step_dir (G : Half E f) {i : Int} {n : ByteArray} {c : Int} (h : step f.l i n = some c) : ∃ x, node f.l i = some x /\ x.kind = 2 /\ Nd.find x.ents n = some c := by
 obtain ⟨x, h1, h2⟩ := step_iff.1 h
 refine ⟨x, h1, ?_, h2⟩
 have hm := Nd.find_mem h2
 rcases (G.right h1).kinds with ⟨_, _, e, _⟩ | ⟨e, _⟩ | ⟨_, _, e, _⟩
 ·rw [e] at hm; cases hm
 ·exact e
 ·rw [e] at hm; cases hm
theorem Half.step_none (G : Half E f) {i : Int} (h : ¬ isDir f.l i) (n : ByteArray) : step f.l i n = none := by
 cases hs : step f.l i n with
 | none => rfl
 | some c =>
  obtain ⟨x, h1, h2, _⟩ := G.step_dir hs
  exact absurd ⟨x, h1, h2⟩ h
theorem Half.walk_iff (G : Half E f) {i j : Int} {ns : List ByteArray} : walk f.l i ns = .ok j ↔ go (step f.l) i ns = some j := by
 induction ns generalizing i with
 | nil => unfold walk go; constructor <;> (intro h; injection h with h; rw [h])
 | cons n ns ih =>
  rw [Gr.go_cons, walk]
  by_cases hk : (nodeD f.l i).kind = 2
  ·rw [if_neg (by simp [hk])]
   obtain ⟨x, h1, h2, h3⟩ := nodeD_kind hk (by decide)
   rw [h2]
   cases hf : Nd.find x.ents n with
   | none =>
    constructor
    ·intro h; cases h
    ·rintro ⟨c, hc, _⟩
     obtain ⟨y, h4, h5⟩ := step_iff.1 hc
     rw [h1] at h4; injection h4 with h4; subst h4; rw [hf] at h5; cases h5
   | some c =>
    constructor
    ·intro h; exact ⟨c, step_iff.2 ⟨x, h1, hf⟩, ih.1 h⟩
    ·rintro ⟨c', hc, hg⟩
     obtain ⟨y, h4, h5⟩ := step_iff.1 hc
     rw [h1] at h4; injection h4 with h4; subst h4; rw [hf] at h5; injection h5 with h5; subst h5
     exact ih.2 hg
  ·rw [if_pos hk]
   constructor
   ·intro h; cases h
   ·rintro ⟨c, hc, _⟩
    obtain ⟨x, h1, h2, _⟩ := G.step_dir hc
    rw [nodeD_of h1] at hk
    exact absurd h2 hk
theorem Half.go_node (G : Half E f) {i j : Int} {ns : List ByteArray} (hi : (node f.l i).isSome = true) (h : go (step f.l) i ns = some j) : (node f.l j).isSome = true := by
 induction ns generalizing i with
 | nil => injection h with h; rw [<- h]; exact hi
 | cons n ns ih =>
  obtain ⟨c, h1, h2⟩ := Gr.go_cons.1 h
  exact ih (G.there h1) h2
theorem Half.top_some (G : Half E f) : (node f.l 1).isSome = true := by
 obtain ⟨x, h, _⟩ := G.top
 rw [h]; rfl
theorem Half.walk_node (G : Half E f) {j : Int} {ns : List ByteArray} (h : walk f.l 1 ns = .ok j) : ∃ x, node f.l j = some x /\ nodeD f.l j = x := by
 have := G.go_node G.top_some (G.walk_iff.1 h)
 obtain ⟨x, hx⟩ := Option.isSome_iff_exists.1 this
 exact ⟨x, hx, nodeD_of hx⟩
theorem getLast_snoc (ps : List ByteArray) (n : ByteArray) : (ps ++ [n]).getLast? = some n := by simp
theorem place_snoc (l : List Item) (ps : List ByteArray) (n : ByteArray) : place l (ps ++ [n]) = match walk l 1 ps with
  | .error e => .error e
  | .ok d => if (nodeD l d).kind ≠ 2 then .error 10 else .ok (d, n) := by
 unfold place
 rw [getLast_snoc, List.dropLast_concat]
 rfl
theorem Half.place_iff (G : Half E f) {ns : List ByteArray} {d : Int} {n : ByteArray} : place f.l ns = .ok (d, n) ↔ ∃ ps, ns = ps ++ [n] /\ go (step f.l) 1 ps = some d /\ isDir f.l d := by
 rcases Gr.snoc_cases ns with rfl | ⟨ps, m, rfl⟩
 ·constructor
  ·intro h; cases h
  ·rintro ⟨ps, h, _⟩
   have := congrArg List.length h
   simp at this
 ·rw [place_snoc]
  constructor
  ·intro h
   cases hw : walk f.l 1 ps with
   | error e => rw [hw] at h; cases h
   | ok k =>
    rw [hw] at h
    simp only at h
    split at h
    ·cases h
    ·rename_i hk
     injection h with h
     injection h with h1 h2
     subst h1 h2
     exact ⟨ps, rfl, G.walk_iff.1 hw, dir_iff.2 (by simpa using hk)⟩
  ·rintro ⟨qs, h, hg, hd⟩
   have hps : ps = qs := by have := congrArg List.dropLast h; simpa using this
   have hmn : m = n := by have := congrArg List.getLast? h; simpa using this
   subst hps hmn
   rw [G.walk_iff.2 hg]
   simp only
   rw [if_neg (by have := dir_iff.1 hd; simp [this])]
theorem dir_find {l : List Item} {d : Int} (n : ByteArray) (hd : isDir l d) : Nd.find (nodeD l d).ents n = step l d n := by
 obtain ⟨x, h, _⟩ := hd
 unfold step
 rw [nodeD_of h, h]; rfl
theorem Half.fresh_iff (G : Half E f) {ns : List ByteArray} {d : Int} {n : ByteArray} : fresh f.l ns = .ok (d, n) ↔ ∃ ps, ns = ps ++ [n] /\ go (step f.l) 1 ps = some d /\ isDir f.l d /\ step f.l d n = none := by
 unfold fresh
 cases hp : place f.l ns with
 | error e =>
  constructor
  ·intro h; cases h
  ·rintro ⟨ps, h1, h2, h3, _⟩
   rw [G.place_iff.2 ⟨ps, h1, h2, h3⟩] at hp; cases hp
 | ok r =>
  obtain ⟨d', n'⟩ := r
  obtain ⟨ps, h1, h2, h3⟩ := G.place_iff.1 hp
  simp only
  rw [dir_find n' h3]
  constructor
  ·intro h
   split at h
   ·cases h
   ·rename_i hs
    injection h with h
    injection h with e1 e2
    subst e1 e2
    exact ⟨ps, h1, h2, h3, by cases hq : step f.l d' n' with
     | none => rfl
     | some c => rw [hq] at hs; exact absurd rfl hs⟩
  ·rintro ⟨qs, h4, h5, h6, h7⟩
   have e := (G.place_iff.2 ⟨qs, h4, h5, h6⟩).symm.trans hp
   injection e with e
   injection e with e1 e2
   subst e1 e2
   rw [h7, if_neg (by simp)]
theorem enter_is {l : List Item} {d c : Int} {n : ByteArray} {x : Node} (h : node l d = some x) (hk : x.kind = 2) (hn : E.nm (Nd.bs n) = true) (hf : Nd.find x.ents n = none) (hl : x.ents.length < 64) : enter E l d n c = setL l d { x with ents := Nd.ins E.lt x.ents n c } := by
 unfold enter
 rw [nodeD_of h]
 unfold Nd.withE
 rw [if_neg (by simp [hk]), if_neg (by simp [hn]), if_neg (by simp [hf]), if_neg (by omega)]
theorem step_enter {l : List Item} {d c : Int} {n : ByteArray} {x : Node} (h : node l d = some x) (hf : Nd.find x.ents n = none) : step (setL l d { x with ents := Nd.ins E.lt x.ents n c }) = upd (step l) d n (some c) := by
 rw [step_set]
 funext i m
 unfold upd
 by_cases hi : i = d
 ·rw [if_pos hi]
  subst hi
  by_cases hm : m = n
  ·subst hm
   rw [if_pos ⟨rfl, rfl⟩]
   exact Nd.find_ins_same hf
  ·rw [if_neg (λe => hm e.2), show step l i m = Nd.find x.ents m by unfold step; rw [h]; rfl]
   exact Nd.find_ins_other hm
 ·rw [if_neg hi, if_neg (λe => hi e.1)]
theorem leave_is {l : List Item} {d : Int} {n : ByteArray} {x : Node} (h : node l d = some x) (hk : x.kind = 2) (hf : (Nd.find x.ents n).isSome = true) : leave l d n = setL l d { x with ents := Nd.cut x.ents n } := by
 unfold leave
 rw [nodeD_of h]
 unfold Nd.withoutE
 rw [if_neg (by simp [hk]), if_neg (by simp [hf])]
theorem step_leave {l : List Item} {d : Int} {n : ByteArray} {x : Node} (R : Tr.Rising E.lt) (h : node l d = some x) (hs : Tr.Sorted E.lt x.ents) : step (setL l d { x with ents := Nd.cut x.ents n }) = upd (step l) d n none := by
 rw [step_set]
 funext i m
 unfold upd
 by_cases hi : i = d
 ·rw [if_pos hi]
  subst hi
  by_cases hm : m = n
  ·subst hm
   rw [if_pos ⟨rfl, rfl⟩]
   exact Nd.cut_none R hs
  ·rw [if_neg (λe => hm e.2), show step l i m = Nd.find x.ents m by unfold step; rw [h]; rfl]
   exact find_cut_other hm
 ·rw [if_neg hi, if_neg (λe => hi e.1)]
theorem step_drop {l : List Item} {i : Int} (h : ∀ n, step l i n = none) : step (dropL l i) = step l := by
 funext k n
 by_cases hk : k = i
 ·subst hk
  rw [h n]
  unfold step
  rw [node_drop, if_pos rfl]; rfl
 ·unfold step
  rw [node_drop, if_neg hk]
theorem right_cut (R : Tr.Rising E.lt) {x : Node} (h : Nd.Right E.lt E.nm x) (n : ByteArray) : Nd.Right E.lt E.nm { x with ents := Nd.cut x.ents n } := by
 have hs := Nd.cut_sub x.ents n
 refine ⟨h.m0, h.m1, Nat.le_trans hs.length_le h.len, λe he => h.ok e (hs.subset he), (Nd.rises_iff R _).2 (((Nd.rises_iff R _).1 h.rise).sublist hs), ?_⟩
 rcases h.kinds with ⟨h1, h2, h3, h4⟩ | h1 | ⟨h1, h2, h3, h4⟩
 ·exact .inl ⟨h1, h2, by show Nd.cut x.ents n = []; rw [h3]; rfl, h4⟩
 ·exact .inr (.inl h1)
 ·exact .inr (.inr ⟨h1, h2, by show Nd.cut x.ents n = []; rw [h3]; rfl, h4⟩)
theorem step_same {l : List Item} {i : Int} {x y : Node} (h : node l i = some x) (he : y.ents = x.ents) : step (setL l i y) = step l := by
 rw [step_set]
 funext k n
 split
 ·rename_i e
  subst e
  rw [he]; unfold step; rw [h]; rfl
 ·rfl
theorem dir_same {l : List Item} {i : Int} {x y : Node} (h : node l i = some x) (hk : y.kind = x.kind) : isDir (setL l i y) = isDir l := by
 funext k
 apply propext
 rw [dir_set]
 constructor
 ·rintro (⟨rfl, h1⟩ | ⟨_, h1⟩)
  ·exact ⟨x, h, hk ▸ h1⟩
  ·exact h1
 ·intro h1
  by_cases hki : k = i
  ·subst hki
   obtain ⟨z, h2, h3⟩ := h1
   rw [h] at h2; injection h2 with h2; subst h2
   exact .inl ⟨rfl, hk.trans h3⟩
  ·exact .inr ⟨hki, h1⟩
theorem Half.same (G : Half E f) {i : Int} {x y : Node} (h : node f.l i = some x) (he : y.ents = x.ents) (hk : y.kind = x.kind) (hR : Nd.Right E.lt E.nm y) : Half E ⟨setL f.l i y, f.next⟩ := by
 have hs := step_same h he
 have hd := dir_same h hk
 refine ⟨rising_set G.inos (.inl (by rw [h]; rfl)), λz hz => ?_, ?_, by rw [hd]; exact G.top, λ{k z} hz => ?_, λ{k n c} hc => ?_, by rw [hs, hd]; exact G.tree⟩
 ·rcases mem_set hz with rfl | ⟨hz, _⟩
  ·exact G.pos (i, x) (node_mem h)
  ·exact G.pos z hz
 ·rw [len_set, h]; exact G.few
 ·rw [node_set] at hz
  split at hz
  ·injection hz with hz; rw [<- hz]; exact hR
  ·exact G.right hz
 ·rw [hs] at hc
  rw [node_set]
  split
  ·rfl
  ·exact G.there hc
theorem Good.same (G : Good E f) {i : Int} {x y : Node} (h : node f.l i = some x) (he : y.ents = x.ents) (hk : y.kind = x.kind) (hR : Nd.Right E.lt E.nm y) : Good E ⟨setL f.l i y, f.next⟩ := by
 refine ⟨G.toHalf.same h he hk hR, λ{k z} hz => ?_⟩
 show ∃ ns, go (step (setL f.l i y)) 1 ns = some k
 rw [step_same h he]
 have hz : node (setL f.l i y) k = some z := hz
 rw [node_set] at hz
 split at hz
 ·rename_i e; rw [e]; exact G.reach h
 ·exact G.reach hz
end
end Fs
