/- NodeTells, walked. -/
import Derived.Test.YteieehjggiiljaaBoxes
namespace Go.Proofs.Yteieehjggiiljaa
set_option maxRecDepth 100000
open Go.RowKit Go.Less
attribute [local go_sem 9000] sem_eql sem_neq
theorem alike_self (x : ByteArray) : alike x x = true := alike_eq.2 rfl
structure Fit (n : Nat) (l : List En) : Prop where
  few : n ≤ 140737488355328
  size : ∀ j, j < n → (l.getD j z0).1.size ≤ 140737488355328
set_option maxHeartbeats 16000000 in
theorem tells_any (k m : Int) (d t : ByteArray) (a : Option Addr) (n c : Nat) (l : List En) (k2 m2 : Int) (d2 t2 : ByteArray) (a2 : Option Addr) (n2 c2 : Nat) (l2 : List En) (s nm : ByteArray) (i : Int) (w : World) (hE : EntsA a n l w) (hE2 : EntsA a2 n2 l2 w)
    (hd : d.size ≤ 140737488355328) (ht : t.size ≤ 140737488355328) (hd2 : d2.size ≤ 140737488355328) (ht2 : t2.size ≤ 140737488355328) (hs : s.size ≤ 140737488355328) (hm : nm.size ≤ 140737488355328) :
    Calls Try.prog 3 #[nv k m d t a n c, nv k2 m2 d2 t2 a2 n2 c2, .string s, .string nm, .int .i64 i] w fun e w' => e = .returned (.bool true) ∧ Below w.heap.size w w' := by
  have HF := Lib.hid (show Fit n l from ⟨hE.few, hE.size⟩)
  have HF2 := Lib.hid (show Fit n2 l2 from ⟨hE2.few, hE2.size⟩)
  have HX := Lib.hid ((nb_new (k := k) (m := m) (d := d) (t := t) (c := c) hE.ents).kept (below_one _ (.cells #[.int .i64 k2, .int .i64 m2, .string d2, .string t2, .slice a2 n2 c2] 24)))
  have HY := Lib.hid (nb_new (k := k2) (m := m2) (d := d2) (t := t2) (c := c2) (hE2.ents.below (below_one w (.cells #[.int .i64 k, .int .i64 m, .string d, .string t, .slice a n c] 24))))
  rw [show (w.alloc (.cells #[.int .i64 k, .int .i64 m, .string d, .string t, .slice a n c] 24)).heap.size = w.heap.size + 1 by simp] at HY
  have HB := Lib.hid ((below_one w (.cells #[.int .i64 k, .int .i64 m, .string d, .string t, .slice a n c] 24)).alloc (by simp) (.cells #[.int .i64 k2, .int .i64 m2, .string d2, .string t2, .slice a2 n2 c2] 24))
  have hsi : (s.size : Int) ≤ 140737488355328 := by omega
  have hmi : (nm.size : Int) ≤ 140737488355328 := by omega
  have hlong : (¬ (6000 : Int) < (s.size : Int) ∧ (100 : Int) < (nm.size : Int)) ∨ (¬ (6000 : Int) < (s.size : Int) ∧ ¬ (100 : Int) < (nm.size : Int)) ∨ (6000 : Int) < (s.size : Int) := by omega
  have hau := alike_self
  clear hE hE2 hs hm
  go_enter Try.func3, Try.ntmps3
  go_wp2_with fail
  generalize (w.alloc (.cells #[.int .i64 k, .int .i64 m, .string d, .string t, .slice a n c] 24)).alloc (.cells #[.int .i64 k2, .int .i64 m2, .string d2, .string t2, .slice a2 n2 c2] 24) = S at HX HB HY ⊢
  refine (awake_any _).mono ?_
  rintro e w1 ⟨rfl, hb⟩
  have hbs := hb
  have HX := Lib.hid (HX.out.kept hbs)
  have HY := Lib.hid (HY.out.kept hbs)
  have HB := Lib.hid (HB.out.trans (hbs.mono HB.out.size))
  clear hb hbs
  dsimp only
  have hx0 : w1.cell? ⟨w.heap.size, 0, none⟩ = some (.int .i64 k) := cell_obj HX.out.box 0
  have hx1 : w1.cell? ⟨w.heap.size, 1, none⟩ = some (.int .i64 m) := cell_obj HX.out.box 1
  have hx2 : w1.cell? ⟨w.heap.size, 2, none⟩ = some (.string d) := cell_obj HX.out.box 2
  have hx3 : w1.cell? ⟨w.heap.size, 3, none⟩ = some (.string t) := cell_obj HX.out.box 3
  have hx4 : w1.cell? ⟨w.heap.size, 4, none⟩ = some (.slice a n c) := cell_obj HX.out.box 4
  go_wp2_with fail
  rcases Bool.eq_false_or_eq_true (fewB d t l) with hq | hq
  rotate_left
  · clear hlong
    refine (q_few _ HX.out.ents HF.out.few HF.out.size hd ht hq).mono ?_
    rintro e w9 ⟨rfl, hb⟩
    have HB := Lib.hid (HB.out.trans (hb.mono HB.out.size))
    clear hb
    dsimp only
    go_wp2_with fail
    go_ret
    exact ⟨rfl, HB.out⟩
  have SX := small_of HX.out.ents.count hq
  refine (q_few _ HX.out.ents HF.out.few HF.out.size hd ht hq).mono ?_
  rintro e w2 ⟨rfl, hb⟩
  have hbs := hb
  have HX := Lib.hid (HX.out.kept hbs)
  have HY := Lib.hid (HY.out.kept hbs)
  have HB := Lib.hid (HB.out.trans (hbs.mono HB.out.size))
  clear hb hbs hx0 hx1 hx2 hx3 hx4
  dsimp only
  clear hq
  have hy0 : w2.cell? ⟨(w.heap.size + 1), 0, none⟩ = some (.int .i64 k2) := cell_obj HY.out.box 0
  have hy1 : w2.cell? ⟨(w.heap.size + 1), 1, none⟩ = some (.int .i64 m2) := cell_obj HY.out.box 1
  have hy2 : w2.cell? ⟨(w.heap.size + 1), 2, none⟩ = some (.string d2) := cell_obj HY.out.box 2
  have hy3 : w2.cell? ⟨(w.heap.size + 1), 3, none⟩ = some (.string t2) := cell_obj HY.out.box 3
  have hy4 : w2.cell? ⟨(w.heap.size + 1), 4, none⟩ = some (.slice a2 n2 c2) := cell_obj HY.out.box 4
  go_wp2_with fail
  rcases Bool.eq_false_or_eq_true (fewB d2 t2 l2) with hq | hq
  rotate_left
  · clear hlong
    refine (q_few _ HY.out.ents HF2.out.few HF2.out.size hd2 ht2 hq).mono ?_
    rintro e w9 ⟨rfl, hb⟩
    have HB := Lib.hid (HB.out.trans (hb.mono HB.out.size))
    clear hb
    dsimp only
    go_wp2_with fail
    go_ret
    exact ⟨rfl, HB.out⟩
  have SY := small_of HY.out.ents.count hq
  have h2 := hq
  rcases hlong with ⟨h6, h7⟩ | ⟨h6, h7⟩ | h6
  · clear hq
    refine (q_few _ HY.out.ents HF2.out.few HF2.out.size hd2 ht2 h2).mono ?_
    rintro e w9 ⟨rfl, hb⟩
    have HB := Lib.hid (HB.out.trans (hb.mono HB.out.size))
    clear hb
    dsimp only
    go_wp2_with fail
    go_ret
    exact ⟨rfl, HB.out⟩
  rotate_left
  · clear hq
    refine (q_few _ HY.out.ents HF2.out.few HF2.out.size hd2 ht2 h2).mono ?_
    rintro e w9 ⟨rfl, hb⟩
    have HB := Lib.hid (HB.out.trans (hb.mono HB.out.size))
    clear hb
    dsimp only
    go_wp2_with fail
    go_ret
    exact ⟨rfl, HB.out⟩
  have hs6 : s.size ≤ 100000 := by omega
  have hm6 : nm.size ≤ 100000 := by omega
  refine (q_few _ HY.out.ents HF2.out.few HF2.out.size hd2 ht2 h2).mono ?_
  rintro e w3 ⟨rfl, hb⟩
  have hbs := hb
  have HX := Lib.hid (HX.out.kept hbs)
  have HY := Lib.hid (HY.out.kept hbs)
  have HB := Lib.hid (HB.out.trans (hbs.mono HB.out.size))
  clear hb hbs hy0 hy1 hy2 hy3 hy4
  dsimp only
  clear hq h2
  have hx0 : w3.cell? ⟨w.heap.size, 0, none⟩ = some (.int .i64 k) := cell_obj HX.out.box 0
  have hx1 : w3.cell? ⟨w.heap.size, 1, none⟩ = some (.int .i64 m) := cell_obj HX.out.box 1
  have hx2 : w3.cell? ⟨w.heap.size, 2, none⟩ = some (.string d) := cell_obj HX.out.box 2
  have hx3 : w3.cell? ⟨w.heap.size, 3, none⟩ = some (.string t) := cell_obj HX.out.box 3
  have hx4 : w3.cell? ⟨w.heap.size, 4, none⟩ = some (.slice a n c) := cell_obj HX.out.box 4
  go_wp2_with fail
  clear h6 h7
  rcases hP : prt ⟨k, m, d, t, l⟩ with ⟨u, ru⟩
  have HP := Lib.hid hP
  clear hP
  refine (q_print _ HX.out.ents SX HP.out).mono ?_
  rintro e w4 ⟨rfl, hb⟩
  have hbs := hb
  have HX := Lib.hid (HX.out.kept hbs)
  have HY := Lib.hid (HY.out.kept hbs)
  have HB := Lib.hid (HB.out.trans (hbs.mono HB.out.size))
  clear hb hbs hx0 hx1 hx2 hx3 hx4
  dsimp only
  have hx0 : w4.cell? ⟨w.heap.size, 0, none⟩ = some (.int .i64 k) := cell_obj HX.out.box 0
  have hx1 : w4.cell? ⟨w.heap.size, 1, none⟩ = some (.int .i64 m) := cell_obj HX.out.box 1
  have hx2 : w4.cell? ⟨w.heap.size, 2, none⟩ = some (.string d) := cell_obj HX.out.box 2
  have hx3 : w4.cell? ⟨w.heap.size, 3, none⟩ = some (.string t) := cell_obj HX.out.box 3
  have hx4 : w4.cell? ⟨w.heap.size, 4, none⟩ = some (.slice a n c) := cell_obj HX.out.box 4
  go_wp2_with fail
  refine (q_rprint _ HX.out.ents SX HP.out).mono ?_
  rintro e w5 ⟨rfl, hb⟩
  have hbs := hb
  have HX := Lib.hid (HX.out.kept hbs)
  have HY := Lib.hid (HY.out.kept hbs)
  have HB := Lib.hid (HB.out.trans (hbs.mono HB.out.size))
  clear hb hbs hx0 hx1 hx2 hx3 hx4
  dsimp only
  go_wp2_with fail
  rcases hA : parseR s.data.toList with ⟨⟨ka, ma, da, ta, la⟩, ra⟩
  have hla := parseR_len hA
  dsimp only at hla
  obtain ⟨na, hna⟩ : ∃ n, la.length = n := ⟨_, rfl⟩
  rw [hna] at hla
  have HA := Lib.hid hA
  have HNA := Lib.hid hna
  clear hA hna
  refine (q_parse _ hs6 HA.out HNA.out).mono ?_
  rintro e w6 ⟨aa, ca, rfl, he, hb⟩
  have hbs := hb
  have HX := Lib.hid (HX.out.kept hbs)
  have HY := Lib.hid (HY.out.kept hbs)
  have HB := Lib.hid (HB.out.trans (hbs.mono HB.out.size))
  clear hb hbs
  have HEA := Lib.hid he
  clear he
  dsimp only
  go_wp2_with fail
  refine (q_rparse _ hs6 HA.out HNA.out).mono ?_
  rintro e w7 ⟨ab, cb, rfl, he, hb⟩
  have hbs := (below_one w6 (.cells #[.int .i64 ka, .int .i64 ma, .string da, .string ta, .slice aa na ca] 24)).trans (hb.mono (below_one w6 (.cells #[.int .i64 ka, .int .i64 ma, .string da, .string ta, .slice aa na ca] 24)).size)
  have HX := Lib.hid (HX.out.kept hbs)
  have HY := Lib.hid (HY.out.kept hbs)
  have HBA := Lib.hid ((nb_new (k := ka) (m := ma) (d := da) (t := ta) (c := ca) HEA.out).kept hb)
  have HB := Lib.hid (HB.out.trans (hbs.mono HB.out.size))
  clear hb hbs
  have HEB := Lib.hid he
  clear he
  dsimp only
  have hxne : w.heap.size ≠ w7.heap.size := Nat.ne_of_lt (lt_of_obj HX.out.box)
  have hxnf : w7.heap.size ≠ w.heap.size := Ne.symm hxne
  have hx0 : (w7.alloc (.cells #[.int .i64 ka, .int .i64 ma, .string da, .string ta, .slice ab na cb] 24)).cell? ⟨w.heap.size, 0, none⟩ = some (.int .i64 k) := cell_obj (HX.out.kept (below_one w7 _)).box 0
  have hx1 : (w7.alloc (.cells #[.int .i64 ka, .int .i64 ma, .string da, .string ta, .slice ab na cb] 24)).cell? ⟨w.heap.size, 1, none⟩ = some (.int .i64 m) := cell_obj (HX.out.kept (below_one w7 _)).box 1
  have hx2 : (w7.alloc (.cells #[.int .i64 ka, .int .i64 ma, .string da, .string ta, .slice ab na cb] 24)).cell? ⟨w.heap.size, 2, none⟩ = some (.string d) := cell_obj (HX.out.kept (below_one w7 _)).box 2
  have hx3 : (w7.alloc (.cells #[.int .i64 ka, .int .i64 ma, .string da, .string ta, .slice ab na cb] 24)).cell? ⟨w.heap.size, 3, none⟩ = some (.string t) := cell_obj (HX.out.kept (below_one w7 _)).box 3
  have hx4 : (w7.alloc (.cells #[.int .i64 ka, .int .i64 ma, .string da, .string ta, .slice ab na cb] 24)).cell? ⟨w.heap.size, 4, none⟩ = some (.slice a n c) := cell_obj (HX.out.kept (below_one w7 _)).box 4
  go_wp2_with fail
  obtain ⟨fi, hfi⟩ : ∃ i, (Nd.find l nm).getD 0 = i := ⟨_, rfl⟩
  obtain ⟨fb, hfb⟩ : ∃ i, (Nd.find l nm).isSome = i := ⟨_, rfl⟩
  have HFI := Lib.hid hfi
  have HFB := Lib.hid hfb
  clear hfi hfb
  refine (q_find _ (HX.out.ents.below (below_one _ _)) (Nat.le_trans SX.n80 (by decide)) HFI.out HFB.out).mono ?_
  rintro e w8 ⟨rfl, hb⟩
  have hbs := (below_one w7 (.cells #[.int .i64 ka, .int .i64 ma, .string da, .string ta, .slice ab na cb] 24)).trans (hb.mono (below_one w7 (.cells #[.int .i64 ka, .int .i64 ma, .string da, .string ta, .slice ab na cb] 24)).size)
  have HX := Lib.hid (HX.out.kept hbs)
  have HY := Lib.hid (HY.out.kept hbs)
  have HBA := Lib.hid (HBA.out.kept hbs)
  have HBB := Lib.hid ((nb_new (k := ka) (m := ma) (d := da) (t := ta) (c := cb) HEB.out).kept hb)
  have HB := Lib.hid (HB.out.trans (hbs.mono HB.out.size))
  clear hb hbs hxne hxnf hx0 hx1 hx2 hx3 hx4
  dsimp only
  have hx0 : w8.cell? ⟨w.heap.size, 0, none⟩ = some (.int .i64 k) := cell_obj HX.out.box 0
  have hx1 : w8.cell? ⟨w.heap.size, 1, none⟩ = some (.int .i64 m) := cell_obj HX.out.box 1
  have hx2 : w8.cell? ⟨w.heap.size, 2, none⟩ = some (.string d) := cell_obj HX.out.box 2
  have hx3 : w8.cell? ⟨w.heap.size, 3, none⟩ = some (.string t) := cell_obj HX.out.box 3
  have hx4 : w8.cell? ⟨w.heap.size, 4, none⟩ = some (.slice a n c) := cell_obj HX.out.box 4
  go_wp2_with fail
  refine (q_rfind _ HX.out.ents (Nat.le_trans SX.n80 (by decide)) HFI.out HFB.out).mono ?_
  rintro e w9 ⟨rfl, hb⟩
  have hbs := hb
  have HX := Lib.hid (HX.out.kept hbs)
  have HY := Lib.hid (HY.out.kept hbs)
  have HBA := Lib.hid (HBA.out.kept hbs)
  have HBB := Lib.hid (HBB.out.kept hbs)
  have HB := Lib.hid (HB.out.trans (hbs.mono HB.out.size))
  clear hb hbs hx0 hx1 hx2 hx3 hx4
  dsimp only
  have hx0 : w9.cell? ⟨w.heap.size, 0, none⟩ = some (.int .i64 k) := cell_obj HX.out.box 0
  have hx1 : w9.cell? ⟨w.heap.size, 1, none⟩ = some (.int .i64 m) := cell_obj HX.out.box 1
  have hx2 : w9.cell? ⟨w.heap.size, 2, none⟩ = some (.string d) := cell_obj HX.out.box 2
  have hx3 : w9.cell? ⟨w.heap.size, 3, none⟩ = some (.string t) := cell_obj HX.out.box 3
  have hx4 : w9.cell? ⟨w.heap.size, 4, none⟩ = some (.slice a n c) := cell_obj HX.out.box 4
  go_wp2_with fail
  rcases hC : Nd.withE less Nm.right ⟨k, m, d, t, l⟩ nm i with ⟨⟨kc, mc, dc, tc, lc⟩, rc⟩
  have hlc := withE_len hC
  dsimp only at hlc
  obtain ⟨nc, hnc⟩ : ∃ n, lc.length = n := ⟨_, rfl⟩
  rw [hnc] at hlc
  have HC := Lib.hid hC
  have HNC := Lib.hid hnc
  clear hC hnc
  refine (q_with _ HX.out.ents SX hm6 HC.out HNC.out).mono ?_
  rintro e w10 ⟨ac, cc, rfl, he, hb⟩
  have hbs := hb
  have HX := Lib.hid (HX.out.kept hbs)
  have HY := Lib.hid (HY.out.kept hbs)
  have HBA := Lib.hid (HBA.out.kept hbs)
  have HBB := Lib.hid (HBB.out.kept hbs)
  have HB := Lib.hid (HB.out.trans (hbs.mono HB.out.size))
  clear hb hbs hx0 hx1 hx2 hx3 hx4
  have HEC := Lib.hid he
  clear he
  dsimp only
  have hxne : w.heap.size ≠ w10.heap.size := Nat.ne_of_lt (lt_of_obj HX.out.box)
  have hxnf : w10.heap.size ≠ w.heap.size := Ne.symm hxne
  have hx0 : (w10.alloc (.cells #[.int .i64 kc, .int .i64 mc, .string dc, .string tc, .slice ac nc cc] 24)).cell? ⟨w.heap.size, 0, none⟩ = some (.int .i64 k) := cell_obj (HX.out.kept (below_one w10 _)).box 0
  have hx1 : (w10.alloc (.cells #[.int .i64 kc, .int .i64 mc, .string dc, .string tc, .slice ac nc cc] 24)).cell? ⟨w.heap.size, 1, none⟩ = some (.int .i64 m) := cell_obj (HX.out.kept (below_one w10 _)).box 1
  have hx2 : (w10.alloc (.cells #[.int .i64 kc, .int .i64 mc, .string dc, .string tc, .slice ac nc cc] 24)).cell? ⟨w.heap.size, 2, none⟩ = some (.string d) := cell_obj (HX.out.kept (below_one w10 _)).box 2
  have hx3 : (w10.alloc (.cells #[.int .i64 kc, .int .i64 mc, .string dc, .string tc, .slice ac nc cc] 24)).cell? ⟨w.heap.size, 3, none⟩ = some (.string t) := cell_obj (HX.out.kept (below_one w10 _)).box 3
  have hx4 : (w10.alloc (.cells #[.int .i64 kc, .int .i64 mc, .string dc, .string tc, .slice ac nc cc] 24)).cell? ⟨w.heap.size, 4, none⟩ = some (.slice a n c) := cell_obj (HX.out.kept (below_one w10 _)).box 4
  go_wp2_with fail
  refine (q_rwith _ (HX.out.ents.below (below_one _ _)) SX hm6 HC.out HNC.out).mono ?_
  rintro e w11 ⟨ad, cd, rfl, he, hb⟩
  have hbs := (below_one w10 (.cells #[.int .i64 kc, .int .i64 mc, .string dc, .string tc, .slice ac nc cc] 24)).trans (hb.mono (below_one w10 (.cells #[.int .i64 kc, .int .i64 mc, .string dc, .string tc, .slice ac nc cc] 24)).size)
  have HX := Lib.hid (HX.out.kept hbs)
  have HY := Lib.hid (HY.out.kept hbs)
  have HBA := Lib.hid (HBA.out.kept hbs)
  have HBB := Lib.hid (HBB.out.kept hbs)
  have HBC := Lib.hid ((nb_new (k := kc) (m := mc) (d := dc) (t := tc) (c := cc) HEC.out).kept hb)
  have HB := Lib.hid (HB.out.trans (hbs.mono HB.out.size))
  clear hb hbs hxne hxnf hx0 hx1 hx2 hx3 hx4
  have HED := Lib.hid he
  clear he
  dsimp only
  have hxne : w.heap.size ≠ w11.heap.size := Nat.ne_of_lt (lt_of_obj HX.out.box)
  have hxnf : w11.heap.size ≠ w.heap.size := Ne.symm hxne
  have hx0 : (w11.alloc (.cells #[.int .i64 kc, .int .i64 mc, .string dc, .string tc, .slice ad nc cd] 24)).cell? ⟨w.heap.size, 0, none⟩ = some (.int .i64 k) := cell_obj (HX.out.kept (below_one w11 _)).box 0
  have hx1 : (w11.alloc (.cells #[.int .i64 kc, .int .i64 mc, .string dc, .string tc, .slice ad nc cd] 24)).cell? ⟨w.heap.size, 1, none⟩ = some (.int .i64 m) := cell_obj (HX.out.kept (below_one w11 _)).box 1
  have hx2 : (w11.alloc (.cells #[.int .i64 kc, .int .i64 mc, .string dc, .string tc, .slice ad nc cd] 24)).cell? ⟨w.heap.size, 2, none⟩ = some (.string d) := cell_obj (HX.out.kept (below_one w11 _)).box 2
  have hx3 : (w11.alloc (.cells #[.int .i64 kc, .int .i64 mc, .string dc, .string tc, .slice ad nc cd] 24)).cell? ⟨w.heap.size, 3, none⟩ = some (.string t) := cell_obj (HX.out.kept (below_one w11 _)).box 3
  have hx4 : (w11.alloc (.cells #[.int .i64 kc, .int .i64 mc, .string dc, .string tc, .slice ad nc cd] 24)).cell? ⟨w.heap.size, 4, none⟩ = some (.slice a n c) := cell_obj (HX.out.kept (below_one w11 _)).box 4
  go_wp2_with fail
  rcases hV : Nd.withoutE ⟨k, m, d, t, l⟩ nm with ⟨⟨kv, mv, dv, tv, lv⟩, rv⟩
  have hlv := withoutE_len hV
  dsimp only at hlv
  obtain ⟨nw, hnv⟩ : ∃ n, lv.length = n := ⟨_, rfl⟩
  rw [hnv, ← HX.out.ents.count] at hlv
  have HV := Lib.hid hV
  have HNV := Lib.hid hnv
  clear hV hnv
  refine (q_wout _ (HX.out.ents.below (below_one _ _)) SX HV.out HNV.out).mono ?_
  rintro e w12 ⟨av, cv, rfl, he, hb⟩
  have hbs := (below_one w11 (.cells #[.int .i64 kc, .int .i64 mc, .string dc, .string tc, .slice ad nc cd] 24)).trans (hb.mono (below_one w11 (.cells #[.int .i64 kc, .int .i64 mc, .string dc, .string tc, .slice ad nc cd] 24)).size)
  have HX := Lib.hid (HX.out.kept hbs)
  have HY := Lib.hid (HY.out.kept hbs)
  have HBA := Lib.hid (HBA.out.kept hbs)
  have HBB := Lib.hid (HBB.out.kept hbs)
  have HBC := Lib.hid (HBC.out.kept hbs)
  have HBD := Lib.hid ((nb_new (k := kc) (m := mc) (d := dc) (t := tc) (c := cd) HED.out).kept hb)
  have HB := Lib.hid (HB.out.trans (hbs.mono HB.out.size))
  clear hb hbs hxne hxnf hx0 hx1 hx2 hx3 hx4
  have HEV := Lib.hid he
  clear he
  dsimp only
  have hxne : w.heap.size ≠ w12.heap.size := Nat.ne_of_lt (lt_of_obj HX.out.box)
  have hxnf : w12.heap.size ≠ w.heap.size := Ne.symm hxne
  have hx0 : (w12.alloc (.cells #[.int .i64 kv, .int .i64 mv, .string dv, .string tv, .slice av nw cv] 24)).cell? ⟨w.heap.size, 0, none⟩ = some (.int .i64 k) := cell_obj (HX.out.kept (below_one w12 _)).box 0
  have hx1 : (w12.alloc (.cells #[.int .i64 kv, .int .i64 mv, .string dv, .string tv, .slice av nw cv] 24)).cell? ⟨w.heap.size, 1, none⟩ = some (.int .i64 m) := cell_obj (HX.out.kept (below_one w12 _)).box 1
  have hx2 : (w12.alloc (.cells #[.int .i64 kv, .int .i64 mv, .string dv, .string tv, .slice av nw cv] 24)).cell? ⟨w.heap.size, 2, none⟩ = some (.string d) := cell_obj (HX.out.kept (below_one w12 _)).box 2
  have hx3 : (w12.alloc (.cells #[.int .i64 kv, .int .i64 mv, .string dv, .string tv, .slice av nw cv] 24)).cell? ⟨w.heap.size, 3, none⟩ = some (.string t) := cell_obj (HX.out.kept (below_one w12 _)).box 3
  have hx4 : (w12.alloc (.cells #[.int .i64 kv, .int .i64 mv, .string dv, .string tv, .slice av nw cv] 24)).cell? ⟨w.heap.size, 4, none⟩ = some (.slice a n c) := cell_obj (HX.out.kept (below_one w12 _)).box 4
  go_wp2_with fail
  refine (q_rwout _ (HX.out.ents.below (below_one _ _)) SX HV.out HNV.out).mono ?_
  rintro e w13 ⟨aw, cw, rfl, he, hb⟩
  have hbs := (below_one w12 (.cells #[.int .i64 kv, .int .i64 mv, .string dv, .string tv, .slice av nw cv] 24)).trans (hb.mono (below_one w12 (.cells #[.int .i64 kv, .int .i64 mv, .string dv, .string tv, .slice av nw cv] 24)).size)
  have HX := Lib.hid (HX.out.kept hbs)
  have HY := Lib.hid (HY.out.kept hbs)
  have HBA := Lib.hid (HBA.out.kept hbs)
  have HBB := Lib.hid (HBB.out.kept hbs)
  have HBC := Lib.hid (HBC.out.kept hbs)
  have HBD := Lib.hid (HBD.out.kept hbs)
  have HBV := Lib.hid ((nb_new (k := kv) (m := mv) (d := dv) (t := tv) (c := cv) HEV.out).kept hb)
  have HB := Lib.hid (HB.out.trans (hbs.mono HB.out.size))
  clear hb hbs hxne hxnf hx0 hx1 hx2 hx3 hx4
  have HEW := Lib.hid he
  clear he
  dsimp only
  have hxne : w.heap.size ≠ w13.heap.size := Nat.ne_of_lt (lt_of_obj HX.out.box)
  have hxnf : w13.heap.size ≠ w.heap.size := Ne.symm hxne
  have hx0 : (w13.alloc (.cells #[.int .i64 kv, .int .i64 mv, .string dv, .string tv, .slice aw nw cw] 24)).cell? ⟨w.heap.size, 0, none⟩ = some (.int .i64 k) := cell_obj (HX.out.kept (below_one w13 _)).box 0
  have hx1 : (w13.alloc (.cells #[.int .i64 kv, .int .i64 mv, .string dv, .string tv, .slice aw nw cw] 24)).cell? ⟨w.heap.size, 1, none⟩ = some (.int .i64 m) := cell_obj (HX.out.kept (below_one w13 _)).box 1
  have hx2 : (w13.alloc (.cells #[.int .i64 kv, .int .i64 mv, .string dv, .string tv, .slice aw nw cw] 24)).cell? ⟨w.heap.size, 2, none⟩ = some (.string d) := cell_obj (HX.out.kept (below_one w13 _)).box 2
  have hx3 : (w13.alloc (.cells #[.int .i64 kv, .int .i64 mv, .string dv, .string tv, .slice aw nw cw] 24)).cell? ⟨w.heap.size, 3, none⟩ = some (.string t) := cell_obj (HX.out.kept (below_one w13 _)).box 3
  have hx4 : (w13.alloc (.cells #[.int .i64 kv, .int .i64 mv, .string dv, .string tv, .slice aw nw cw] 24)).cell? ⟨w.heap.size, 4, none⟩ = some (.slice a n c) := cell_obj (HX.out.kept (below_one w13 _)).box 4
  go_wp2_with fail
  dsimp only [List.append]
  go_wp2_with fail
  obtain ⟨br, hbr⟩ : ∃ b, ndr k m d t l = b := ⟨_, rfl⟩
  obtain ⟨bs, hbs⟩ : ∃ b, sameN k m d t l k2 m2 d2 t2 l2 = b := ⟨_, rfl⟩
  have HR := Lib.hid hbr
  have HS := Lib.hid hbs
  clear hbr hbs
  obtain ⟨L, hL⟩ : ∃ L : List Bk, L = [⟨w.heap.size, k, m, d, t, a, n, c, l⟩, ⟨(w.heap.size + 1), k2, m2, d2, t2, a2, n2, c2, l2⟩, ⟨w6.heap.size, ka, ma, da, ta, aa, na, ca, la⟩, ⟨w7.heap.size, ka, ma, da, ta, ab, na, cb, la⟩, ⟨w10.heap.size, kc, mc, dc, tc, ac, nc, cc, lc⟩, ⟨w11.heap.size, kc, mc, dc, tc, ad, nc, cd, lc⟩, ⟨w12.heap.size, kv, mv, dv, tv, av, nw, cv, lv⟩, ⟨w13.heap.size, kv, mv, dv, tv, aw, nw, cw, lv⟩] := ⟨_, rfl⟩
  have HP := Lib.hid (show Bks w L ((w13.alloc (.cells #[.int .i64 kv, .int .i64 mv, .string dv, .string tv, .slice aw nw cw] 24)).drew) by rw [hL]; exact Bks.kept (Bks.cons (HX.out.kept (below_one w13 _)) (Bks.cons (HY.out.kept (below_one w13 _)) (Bks.cons (HBA.out.kept (below_one w13 _)) (Bks.cons (HBB.out.kept (below_one w13 _)) (Bks.cons (HBC.out.kept (below_one w13 _)) (Bks.cons (HBD.out.kept (below_one w13 _)) (Bks.cons (HBV.out.kept (below_one w13 _)) (Bks.cons (nb_new HEW.out) (Bks.nil (HB.out.trans ((below_one w13 (.cells #[.int .i64 kv, .int .i64 mv, .string dv, .string tv, .slice aw nw cw] 24)).mono HB.out.size))))))))))) ((Below.refl _ _).drew))
  have NX := Lib.hid (show ∀ W, Bks w L W → Nb w.heap.size k m d t a n c l W from fun W h => h.at_ ⟨w.heap.size, k, m, d, t, a, n, c, l⟩ (hL ▸ List.mem_cons_self))
  have NY := Lib.hid (show ∀ W, Bks w L W → Nb (w.heap.size + 1) k2 m2 d2 t2 a2 n2 c2 l2 W from fun W h => h.at_ ⟨(w.heap.size + 1), k2, m2, d2, t2, a2, n2, c2, l2⟩ (hL ▸ List.mem_cons_of_mem _ (List.mem_cons_self)))
  have NA := Lib.hid (show ∀ W, Bks w L W → Nb w6.heap.size ka ma da ta aa na ca la W from fun W h => h.at_ ⟨w6.heap.size, ka, ma, da, ta, aa, na, ca, la⟩ (hL ▸ List.mem_cons_of_mem _ (List.mem_cons_of_mem _ (List.mem_cons_self))))
  have NB := Lib.hid (show ∀ W, Bks w L W → Nb w7.heap.size ka ma da ta ab na cb la W from fun W h => h.at_ ⟨w7.heap.size, ka, ma, da, ta, ab, na, cb, la⟩ (hL ▸ List.mem_cons_of_mem _ (List.mem_cons_of_mem _ (List.mem_cons_of_mem _ (List.mem_cons_self)))))
  have NC := Lib.hid (show ∀ W, Bks w L W → Nb w10.heap.size kc mc dc tc ac nc cc lc W from fun W h => h.at_ ⟨w10.heap.size, kc, mc, dc, tc, ac, nc, cc, lc⟩ (hL ▸ List.mem_cons_of_mem _ (List.mem_cons_of_mem _ (List.mem_cons_of_mem _ (List.mem_cons_of_mem _ (List.mem_cons_self))))))
  have ND := Lib.hid (show ∀ W, Bks w L W → Nb w11.heap.size kc mc dc tc ad nc cd lc W from fun W h => h.at_ ⟨w11.heap.size, kc, mc, dc, tc, ad, nc, cd, lc⟩ (hL ▸ List.mem_cons_of_mem _ (List.mem_cons_of_mem _ (List.mem_cons_of_mem _ (List.mem_cons_of_mem _ (List.mem_cons_of_mem _ (List.mem_cons_self)))))))
  have NV := Lib.hid (show ∀ W, Bks w L W → Nb w12.heap.size kv mv dv tv av nw cv lv W from fun W h => h.at_ ⟨w12.heap.size, kv, mv, dv, tv, av, nw, cv, lv⟩ (hL ▸ List.mem_cons_of_mem _ (List.mem_cons_of_mem _ (List.mem_cons_of_mem _ (List.mem_cons_of_mem _ (List.mem_cons_of_mem _ (List.mem_cons_of_mem _ (List.mem_cons_self))))))))
  have NW := Lib.hid (show ∀ W, Bks w L W → Nb w13.heap.size kv mv dv tv aw nw cw lv W from fun W h => h.at_ ⟨w13.heap.size, kv, mv, dv, tv, aw, nw, cw, lv⟩ (hL ▸ List.mem_cons_of_mem _ (List.mem_cons_of_mem _ (List.mem_cons_of_mem _ (List.mem_cons_of_mem _ (List.mem_cons_of_mem _ (List.mem_cons_of_mem _ (List.mem_cons_of_mem _ (List.mem_cons_self)))))))))
  have HMK := Lib.hid (show ∀ W, Bks w L W → W.cell? ⟨w.heap.size, 0, none⟩ = some (.int .i64 k) ∧ W.cell? ⟨w.heap.size, 1, none⟩ = some (.int .i64 m) ∧ W.cell? ⟨w.heap.size, 2, none⟩ = some (.string d) ∧ W.cell? ⟨w.heap.size, 3, none⟩ = some (.string t) ∧ W.cell? ⟨w.heap.size, 4, none⟩ = some (.slice a n c) ∧ W.cell? ⟨(w.heap.size + 1), 0, none⟩ = some (.int .i64 k2) ∧ W.cell? ⟨(w.heap.size + 1), 1, none⟩ = some (.int .i64 m2) ∧ W.cell? ⟨(w.heap.size + 1), 2, none⟩ = some (.string d2) ∧ W.cell? ⟨(w.heap.size + 1), 3, none⟩ = some (.string t2) ∧ W.cell? ⟨(w.heap.size + 1), 4, none⟩ = some (.slice a2 n2 c2) ∧ W.cell? ⟨w6.heap.size, 0, none⟩ = some (.int .i64 ka) ∧ W.cell? ⟨w6.heap.size, 1, none⟩ = some (.int .i64 ma) ∧ W.cell? ⟨w6.heap.size, 2, none⟩ = some (.string da) ∧ W.cell? ⟨w6.heap.size, 3, none⟩ = some (.string ta) ∧ W.cell? ⟨w6.heap.size, 4, none⟩ = some (.slice aa na ca) ∧ W.cell? ⟨w7.heap.size, 0, none⟩ = some (.int .i64 ka) ∧ W.cell? ⟨w7.heap.size, 1, none⟩ = some (.int .i64 ma) ∧ W.cell? ⟨w7.heap.size, 2, none⟩ = some (.string da) ∧ W.cell? ⟨w7.heap.size, 3, none⟩ = some (.string ta) ∧ W.cell? ⟨w7.heap.size, 4, none⟩ = some (.slice ab na cb) ∧ W.cell? ⟨w10.heap.size, 0, none⟩ = some (.int .i64 kc) ∧ W.cell? ⟨w10.heap.size, 1, none⟩ = some (.int .i64 mc) ∧ W.cell? ⟨w10.heap.size, 2, none⟩ = some (.string dc) ∧ W.cell? ⟨w10.heap.size, 3, none⟩ = some (.string tc) ∧ W.cell? ⟨w10.heap.size, 4, none⟩ = some (.slice ac nc cc) ∧ W.cell? ⟨w11.heap.size, 0, none⟩ = some (.int .i64 kc) ∧ W.cell? ⟨w11.heap.size, 1, none⟩ = some (.int .i64 mc) ∧ W.cell? ⟨w11.heap.size, 2, none⟩ = some (.string dc) ∧ W.cell? ⟨w11.heap.size, 3, none⟩ = some (.string tc) ∧ W.cell? ⟨w11.heap.size, 4, none⟩ = some (.slice ad nc cd) ∧ W.cell? ⟨w12.heap.size, 0, none⟩ = some (.int .i64 kv) ∧ W.cell? ⟨w12.heap.size, 1, none⟩ = some (.int .i64 mv) ∧ W.cell? ⟨w12.heap.size, 2, none⟩ = some (.string dv) ∧ W.cell? ⟨w12.heap.size, 3, none⟩ = some (.string tv) ∧ W.cell? ⟨w12.heap.size, 4, none⟩ = some (.slice av nw cv) ∧ W.cell? ⟨w13.heap.size, 0, none⟩ = some (.int .i64 kv) ∧ W.cell? ⟨w13.heap.size, 1, none⟩ = some (.int .i64 mv) ∧ W.cell? ⟨w13.heap.size, 2, none⟩ = some (.string dv) ∧ W.cell? ⟨w13.heap.size, 3, none⟩ = some (.string tv) ∧ W.cell? ⟨w13.heap.size, 4, none⟩ = some (.slice aw nw cw) ∧ Bks w L W from fun W h => ⟨cell_obj (NX.out W h).box 0, cell_obj (NX.out W h).box 1, cell_obj (NX.out W h).box 2, cell_obj (NX.out W h).box 3, cell_obj (NX.out W h).box 4, cell_obj (NY.out W h).box 0, cell_obj (NY.out W h).box 1, cell_obj (NY.out W h).box 2, cell_obj (NY.out W h).box 3, cell_obj (NY.out W h).box 4, cell_obj (NA.out W h).box 0, cell_obj (NA.out W h).box 1, cell_obj (NA.out W h).box 2, cell_obj (NA.out W h).box 3, cell_obj (NA.out W h).box 4, cell_obj (NB.out W h).box 0, cell_obj (NB.out W h).box 1, cell_obj (NB.out W h).box 2, cell_obj (NB.out W h).box 3, cell_obj (NB.out W h).box 4, cell_obj (NC.out W h).box 0, cell_obj (NC.out W h).box 1, cell_obj (NC.out W h).box 2, cell_obj (NC.out W h).box 3, cell_obj (NC.out W h).box 4, cell_obj (ND.out W h).box 0, cell_obj (ND.out W h).box 1, cell_obj (ND.out W h).box 2, cell_obj (ND.out W h).box 3, cell_obj (ND.out W h).box 4, cell_obj (NV.out W h).box 0, cell_obj (NV.out W h).box 1, cell_obj (NV.out W h).box 2, cell_obj (NV.out W h).box 3, cell_obj (NV.out W h).box 4, cell_obj (NW.out W h).box 0, cell_obj (NW.out W h).box 1, cell_obj (NW.out W h).box 2, cell_obj (NW.out W h).box 3, cell_obj (NW.out W h).box 4, h⟩)
  have GB := Lib.hid (show ∀ W, (W.cell? ⟨w.heap.size, 0, none⟩ = some (.int .i64 k) ∧ W.cell? ⟨w.heap.size, 1, none⟩ = some (.int .i64 m) ∧ W.cell? ⟨w.heap.size, 2, none⟩ = some (.string d) ∧ W.cell? ⟨w.heap.size, 3, none⟩ = some (.string t) ∧ W.cell? ⟨w.heap.size, 4, none⟩ = some (.slice a n c) ∧ W.cell? ⟨(w.heap.size + 1), 0, none⟩ = some (.int .i64 k2) ∧ W.cell? ⟨(w.heap.size + 1), 1, none⟩ = some (.int .i64 m2) ∧ W.cell? ⟨(w.heap.size + 1), 2, none⟩ = some (.string d2) ∧ W.cell? ⟨(w.heap.size + 1), 3, none⟩ = some (.string t2) ∧ W.cell? ⟨(w.heap.size + 1), 4, none⟩ = some (.slice a2 n2 c2) ∧ W.cell? ⟨w6.heap.size, 0, none⟩ = some (.int .i64 ka) ∧ W.cell? ⟨w6.heap.size, 1, none⟩ = some (.int .i64 ma) ∧ W.cell? ⟨w6.heap.size, 2, none⟩ = some (.string da) ∧ W.cell? ⟨w6.heap.size, 3, none⟩ = some (.string ta) ∧ W.cell? ⟨w6.heap.size, 4, none⟩ = some (.slice aa na ca) ∧ W.cell? ⟨w7.heap.size, 0, none⟩ = some (.int .i64 ka) ∧ W.cell? ⟨w7.heap.size, 1, none⟩ = some (.int .i64 ma) ∧ W.cell? ⟨w7.heap.size, 2, none⟩ = some (.string da) ∧ W.cell? ⟨w7.heap.size, 3, none⟩ = some (.string ta) ∧ W.cell? ⟨w7.heap.size, 4, none⟩ = some (.slice ab na cb) ∧ W.cell? ⟨w10.heap.size, 0, none⟩ = some (.int .i64 kc) ∧ W.cell? ⟨w10.heap.size, 1, none⟩ = some (.int .i64 mc) ∧ W.cell? ⟨w10.heap.size, 2, none⟩ = some (.string dc) ∧ W.cell? ⟨w10.heap.size, 3, none⟩ = some (.string tc) ∧ W.cell? ⟨w10.heap.size, 4, none⟩ = some (.slice ac nc cc) ∧ W.cell? ⟨w11.heap.size, 0, none⟩ = some (.int .i64 kc) ∧ W.cell? ⟨w11.heap.size, 1, none⟩ = some (.int .i64 mc) ∧ W.cell? ⟨w11.heap.size, 2, none⟩ = some (.string dc) ∧ W.cell? ⟨w11.heap.size, 3, none⟩ = some (.string tc) ∧ W.cell? ⟨w11.heap.size, 4, none⟩ = some (.slice ad nc cd) ∧ W.cell? ⟨w12.heap.size, 0, none⟩ = some (.int .i64 kv) ∧ W.cell? ⟨w12.heap.size, 1, none⟩ = some (.int .i64 mv) ∧ W.cell? ⟨w12.heap.size, 2, none⟩ = some (.string dv) ∧ W.cell? ⟨w12.heap.size, 3, none⟩ = some (.string tv) ∧ W.cell? ⟨w12.heap.size, 4, none⟩ = some (.slice av nw cv) ∧ W.cell? ⟨w13.heap.size, 0, none⟩ = some (.int .i64 kv) ∧ W.cell? ⟨w13.heap.size, 1, none⟩ = some (.int .i64 mv) ∧ W.cell? ⟨w13.heap.size, 2, none⟩ = some (.string dv) ∧ W.cell? ⟨w13.heap.size, 3, none⟩ = some (.string tv) ∧ W.cell? ⟨w13.heap.size, 4, none⟩ = some (.slice aw nw cw) ∧ Bks w L W) → Bks w L W from fun W h => h.2.2.2.2.2.2.2.2.2.2.2.2.2.2.2.2.2.2.2.2.2.2.2.2.2.2.2.2.2.2.2.2.2.2.2.2.2.2.2.2)
  clear hL hxne hxnf hx0 hx1 hx2 hx3 hx4
  go_region_held3 (fun W => W.cell? ⟨w.heap.size, 0, none⟩ = some (.int .i64 k) ∧ W.cell? ⟨w.heap.size, 1, none⟩ = some (.int .i64 m) ∧ W.cell? ⟨w.heap.size, 2, none⟩ = some (.string d) ∧ W.cell? ⟨w.heap.size, 3, none⟩ = some (.string t) ∧ W.cell? ⟨w.heap.size, 4, none⟩ = some (.slice a n c) ∧ W.cell? ⟨(w.heap.size + 1), 0, none⟩ = some (.int .i64 k2) ∧ W.cell? ⟨(w.heap.size + 1), 1, none⟩ = some (.int .i64 m2) ∧ W.cell? ⟨(w.heap.size + 1), 2, none⟩ = some (.string d2) ∧ W.cell? ⟨(w.heap.size + 1), 3, none⟩ = some (.string t2) ∧ W.cell? ⟨(w.heap.size + 1), 4, none⟩ = some (.slice a2 n2 c2) ∧ W.cell? ⟨w6.heap.size, 0, none⟩ = some (.int .i64 ka) ∧ W.cell? ⟨w6.heap.size, 1, none⟩ = some (.int .i64 ma) ∧ W.cell? ⟨w6.heap.size, 2, none⟩ = some (.string da) ∧ W.cell? ⟨w6.heap.size, 3, none⟩ = some (.string ta) ∧ W.cell? ⟨w6.heap.size, 4, none⟩ = some (.slice aa na ca) ∧ W.cell? ⟨w7.heap.size, 0, none⟩ = some (.int .i64 ka) ∧ W.cell? ⟨w7.heap.size, 1, none⟩ = some (.int .i64 ma) ∧ W.cell? ⟨w7.heap.size, 2, none⟩ = some (.string da) ∧ W.cell? ⟨w7.heap.size, 3, none⟩ = some (.string ta) ∧ W.cell? ⟨w7.heap.size, 4, none⟩ = some (.slice ab na cb) ∧ W.cell? ⟨w10.heap.size, 0, none⟩ = some (.int .i64 kc) ∧ W.cell? ⟨w10.heap.size, 1, none⟩ = some (.int .i64 mc) ∧ W.cell? ⟨w10.heap.size, 2, none⟩ = some (.string dc) ∧ W.cell? ⟨w10.heap.size, 3, none⟩ = some (.string tc) ∧ W.cell? ⟨w10.heap.size, 4, none⟩ = some (.slice ac nc cc) ∧ W.cell? ⟨w11.heap.size, 0, none⟩ = some (.int .i64 kc) ∧ W.cell? ⟨w11.heap.size, 1, none⟩ = some (.int .i64 mc) ∧ W.cell? ⟨w11.heap.size, 2, none⟩ = some (.string dc) ∧ W.cell? ⟨w11.heap.size, 3, none⟩ = some (.string tc) ∧ W.cell? ⟨w11.heap.size, 4, none⟩ = some (.slice ad nc cd) ∧ W.cell? ⟨w12.heap.size, 0, none⟩ = some (.int .i64 kv) ∧ W.cell? ⟨w12.heap.size, 1, none⟩ = some (.int .i64 mv) ∧ W.cell? ⟨w12.heap.size, 2, none⟩ = some (.string dv) ∧ W.cell? ⟨w12.heap.size, 3, none⟩ = some (.string tv) ∧ W.cell? ⟨w12.heap.size, 4, none⟩ = some (.slice av nw cv) ∧ W.cell? ⟨w13.heap.size, 0, none⟩ = some (.int .i64 kv) ∧ W.cell? ⟨w13.heap.size, 1, none⟩ = some (.int .i64 mv) ∧ W.cell? ⟨w13.heap.size, 2, none⟩ = some (.string dv) ∧ W.cell? ⟨w13.heap.size, 3, none⟩ = some (.string tv) ∧ W.cell? ⟨w13.heap.size, 4, none⟩ = some (.slice aw nw cw) ∧ Bks w L W)
    (first | exact HMK.out _ pA.out | exact HMK.out _ HP.out | assumption)
    (first
      | (go_at_call 19; (with_reducible refine (q_node _ (Nb.ents (NX.out _ (GB.out _ (by assumption)))) SX HR.out).mono ?_); rintro e wA ⟨rfl, hA⟩; have pA := Lib.hid (Bks.kept (GB.out _ (by assumption)) hA); clear hA)
      | (go_at_call 20; (with_reducible refine (q_rnode _ (Nb.ents (NX.out _ (GB.out _ (by assumption)))) SX HR.out).mono ?_); rintro e wA ⟨rfl, hA⟩; have pA := Lib.hid (Bks.kept (GB.out _ (by assumption)) hA); clear hA)
      | (go_at_call 21; (with_reducible refine (q_same _ (Nb.ents (NX.out _ (GB.out _ (by assumption)))) (Nb.ents (NY.out _ (GB.out _ (by assumption)))) SX.n80 SY.n80 HS.out).mono ?_); rintro e wA ⟨rfl, hA⟩; have pA := Lib.hid (Bks.kept (GB.out _ (by assumption)) hA); clear hA)
      | (go_at_call 22; (with_reducible refine (q_rsame _ (Nb.ents (NX.out _ (GB.out _ (by assumption)))) (Nb.ents (NY.out _ (GB.out _ (by assumption)))) SX.n80 SY.n80 HS.out).mono ?_); rintro e wA ⟨rfl, hA⟩; have pA := Lib.hid (Bks.kept (GB.out _ (by assumption)) hA); clear hA)
      | (go_at_call 22; (with_reducible refine (q_rsame _ (Nb.ents (NA.out _ (GB.out _ (by assumption)))) (Nb.ents (NB.out _ (GB.out _ (by assumption)))) (Nat.le_trans hla (by decide)) (Nat.le_trans hla (by decide)) (sameN_self ka ma da ta la)).mono ?_); rintro e wA ⟨rfl, hA⟩; have pA := Lib.hid (Bks.kept (GB.out _ (by assumption)) hA); clear hA)
      | (go_at_call 22; (with_reducible refine (q_rsame _ (Nb.ents (NC.out _ (GB.out _ (by assumption)))) (Nb.ents (ND.out _ (GB.out _ (by assumption)))) (Nat.le_trans hlc (by decide)) (Nat.le_trans hlc (by decide)) (sameN_self kc mc dc tc lc)).mono ?_); rintro e wA ⟨rfl, hA⟩; have pA := Lib.hid (Bks.kept (GB.out _ (by assumption)) hA); clear hA)
      | (go_at_call 22; (with_reducible refine (q_rsame _ (Nb.ents (NV.out _ (GB.out _ (by assumption)))) (Nb.ents (NW.out _ (GB.out _ (by assumption)))) (Nat.le_trans hlv SX.n80) (Nat.le_trans hlv SX.n80) (sameN_self kv mv dv tv lv)).mono ?_); rintro e wA ⟨rfl, hA⟩; have pA := Lib.hid (Bks.kept (GB.out _ (by assumption)) hA); clear hA))
  go_wp2_with fail
  go_ret
  exact ⟨rfl, pA.out.below⟩
end Go.Proofs.Yteieehjggiiljaa
