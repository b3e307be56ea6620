/- NodeBack, walked. -/
import Derived.Test.YteieehjggiiljaaAskB
namespace Go.Proofs.Yteieehjggiiljaa
set_option maxRecDepth 100000
open Go.RowKit Go.Less
attribute [local go_sem 9000] sem_eql sem_neq
set_option maxHeartbeats 16000000 in
theorem back_any (k m : Int) (d t : ByteArray) (a : Option Addr) (n c : Nat) (l : List En) (k2 m2 : Int) (d2 t2 : ByteArray) (a2 : Option Addr) (n2 c2 : Nat) (l2 : List En) (s : ByteArray) (w : World) (hE : EntsA a n l w) (hE2 : EntsA a2 n2 l2 w)
    (hd : d.size ≤ 140737488355328) (ht : t.size ≤ 140737488355328) (hd2 : d2.size ≤ 140737488355328) (ht2 : t2.size ≤ 140737488355328) (hs : s.size ≤ 140737488355328) :
    Calls Try.prog 4 #[nv k m d t a n c, nv k2 m2 d2 t2 a2 n2 c2, .string s] w fun e w' => e = .returned (.bool true) ∧ Below w.heap.size w w' := by
  have HF := Lib.hid (show Fits n l from ⟨hE.few, hE.size⟩)
  have HF2 := Lib.hid (show Fits n2 l2 from ⟨hE2.few, hE2.size⟩)
  have HX := Lib.hid ((nb_new (k := k) (m := m) (d := d) (t := t) (c := c) hE.ents).kept (below_one _ (.cells #[.int .i64 k2, .int .i64 m2, .string d2, .string t2, .slice a2 n2 c2] 24)))
  have HY := Lib.hid (nb_new (k := k2) (m := m2) (d := d2) (t := t2) (c := c2) (hE2.ents.below (below_one w (.cells #[.int .i64 k, .int .i64 m, .string d, .string t, .slice a n c] 24))))
  rw [show (w.alloc (.cells #[.int .i64 k, .int .i64 m, .string d, .string t, .slice a n c] 24)).heap.size = w.heap.size + 1 by simp] at HY
  have HB := Lib.hid ((below_one w (.cells #[.int .i64 k, .int .i64 m, .string d, .string t, .slice a n c] 24)).alloc (by simp) (.cells #[.int .i64 k2, .int .i64 m2, .string d2, .string t2, .slice a2 n2 c2] 24))
  have hsi : (s.size : Int) ≤ 140737488355328 := by omega
  have hlong : (6000 : Int) < (s.size : Int) ∨ ¬ (6000 : Int) < (s.size : Int) := by omega
  have hau := alike_refl
  have HCase := Lib.hid (parseR_cases s)
  clear hE hE2 hs
  go_enter Try.func4, Try.ntmps4
  go_wp2_with fail
  generalize (w.alloc (.cells #[.int .i64 k, .int .i64 m, .string d, .string t, .slice a n c] 24)).alloc (.cells #[.int .i64 k2, .int .i64 m2, .string d2, .string t2, .slice a2 n2 c2] 24) = S at HX HB HY ⊢
  refine (awake_any _).mono ?_
  rintro e w1 ⟨rfl, hb⟩
  have hbs := hb
  have HX := Lib.hid (HX.out.kept hbs)
  have HY := Lib.hid (HY.out.kept hbs)
  have HB := Lib.hid (HB.out.trans (hbs.mono HB.out.size))
  clear hb hbs
  dsimp only
  have hx0 : w1.cell? ⟨w.heap.size, 0, none⟩ = some (.int .i64 k) := cell_obj HX.out.box 0
  have hx1 : w1.cell? ⟨w.heap.size, 1, none⟩ = some (.int .i64 m) := cell_obj HX.out.box 1
  have hx2 : w1.cell? ⟨w.heap.size, 2, none⟩ = some (.string d) := cell_obj HX.out.box 2
  have hx3 : w1.cell? ⟨w.heap.size, 3, none⟩ = some (.string t) := cell_obj HX.out.box 3
  have hx4 : w1.cell? ⟨w.heap.size, 4, none⟩ = some (.slice a n c) := cell_obj HX.out.box 4
  go_wp2_with fail
  rcases Bool.eq_false_or_eq_true (fewB d t l) with hq | hq
  rotate_left
  · clear hlong
    refine (q_few _ HX.out.ents HF.out.few HF.out.size hd ht hq).mono ?_
    rintro e w99 ⟨rfl, hb⟩
    have HB := Lib.hid (HB.out.trans (hb.mono HB.out.size))
    clear hb
    dsimp only
    go_wp2_with fail
    go_ret
    exact ⟨rfl, HB.out⟩
  have SX := small_of HX.out.ents.count hq
  refine (q_few _ HX.out.ents HF.out.few HF.out.size hd ht hq).mono ?_
  rintro e w2 ⟨rfl, hb⟩
  have hbs := hb
  have HX := Lib.hid (HX.out.kept hbs)
  have HY := Lib.hid (HY.out.kept hbs)
  have HB := Lib.hid (HB.out.trans (hbs.mono HB.out.size))
  clear hb hbs hx0 hx1 hx2 hx3 hx4
  dsimp only
  clear hq
  have hy0 : w2.cell? ⟨(w.heap.size + 1), 0, none⟩ = some (.int .i64 k2) := cell_obj HY.out.box 0
  have hy1 : w2.cell? ⟨(w.heap.size + 1), 1, none⟩ = some (.int .i64 m2) := cell_obj HY.out.box 1
  have hy2 : w2.cell? ⟨(w.heap.size + 1), 2, none⟩ = some (.string d2) := cell_obj HY.out.box 2
  have hy3 : w2.cell? ⟨(w.heap.size + 1), 3, none⟩ = some (.string t2) := cell_obj HY.out.box 3
  have hy4 : w2.cell? ⟨(w.heap.size + 1), 4, none⟩ = some (.slice a2 n2 c2) := cell_obj HY.out.box 4
  go_wp2_with fail
  rcases Bool.eq_false_or_eq_true (fewB d2 t2 l2) with hq | hq
  rotate_left
  · clear hlong
    refine (q_few _ HY.out.ents HF2.out.few HF2.out.size hd2 ht2 hq).mono ?_
    rintro e w99 ⟨rfl, hb⟩
    have HB := Lib.hid (HB.out.trans (hb.mono HB.out.size))
    clear hb
    dsimp only
    go_wp2_with fail
    go_ret
    exact ⟨rfl, HB.out⟩
  have SY := small_of HY.out.ents.count hq
  have h2 := hq
  rcases hlong with h6 | h6
  · clear hq
    refine (q_few _ HY.out.ents HF2.out.few HF2.out.size hd2 ht2 h2).mono ?_
    rintro e w99 ⟨rfl, hb⟩
    have HB := Lib.hid (HB.out.trans (hb.mono HB.out.size))
    clear hb
    dsimp only
    go_wp2_with fail
    go_ret
    exact ⟨rfl, HB.out⟩
  have hs6 : s.size ≤ 100000 := by omega
  refine (q_few _ HY.out.ents HF2.out.few HF2.out.size hd2 ht2 h2).mono ?_
  rintro e w3 ⟨rfl, hb⟩
  have hbs := hb
  have HX := Lib.hid (HX.out.kept hbs)
  have HY := Lib.hid (HY.out.kept hbs)
  have HB := Lib.hid (HB.out.trans (hbs.mono HB.out.size))
  clear hb hbs hy0 hy1 hy2 hy3 hy4
  dsimp only
  clear hq h2
  go_wp2_with fail
  clear h6
  rcases HCase.out with ⟨xa, hxa, hra, hpa⟩ | hxa
  · clear HCase
    obtain ⟨ka, ma, da, ta, la⟩ := xa
    obtain ⟨na, hna⟩ : ∃ n, la.length = n := ⟨_, rfl⟩
    have SA := small_right hra hna
    have HRA := Lib.hid (ndr_right.2 hra)
    have HNA := Lib.hid hna
    have HPA := Lib.hid hpa
    have HA := Lib.hid hxa
    clear hra hna hpa hxa
    refine (q_parse _ hs6 HA.out HNA.out).mono ?_
    rintro e w4 ⟨aa, ca, rfl, he, hb⟩
    have hbs := hb
    have HX := Lib.hid (HX.out.kept hbs)
    have HY := Lib.hid (HY.out.kept hbs)
    have HB := Lib.hid (HB.out.trans (hbs.mono HB.out.size))
    clear hb hbs
    have HEA := Lib.hid he
    clear he
    dsimp only
    go_wp2_with fail
    refine (q_print _ (nb_new HEA.out).ents SA HPA.out).mono ?_
    rintro e w5 ⟨rfl, hb⟩
    have hbs := (below_one w4 (.cells #[.int .i64 ka, .int .i64 ma, .string da, .string ta, .slice aa na ca] 24)).trans (hb.mono (below_one w4 (.cells #[.int .i64 ka, .int .i64 ma, .string da, .string ta, .slice aa na ca] 24)).size)
    have HX := Lib.hid (HX.out.kept hbs)
    have HY := Lib.hid (HY.out.kept hbs)
    have HBA := Lib.hid ((nb_new (k := ka) (m := ma) (d := da) (t := ta) (c := ca) HEA.out).kept hb)
    have HB := Lib.hid (HB.out.trans (hbs.mono HB.out.size))
    clear hb hbs
    dsimp only
    have hba0 : w5.cell? ⟨w4.heap.size, 0, none⟩ = some (.int .i64 ka) := cell_obj HBA.out.box 0
    have hba1 : w5.cell? ⟨w4.heap.size, 1, none⟩ = some (.int .i64 ma) := cell_obj HBA.out.box 1
    have hba2 : w5.cell? ⟨w4.heap.size, 2, none⟩ = some (.string da) := cell_obj HBA.out.box 2
    have hba3 : w5.cell? ⟨w4.heap.size, 3, none⟩ = some (.string ta) := cell_obj HBA.out.box 3
    have hba4 : w5.cell? ⟨w4.heap.size, 4, none⟩ = some (.slice aa na ca) := cell_obj HBA.out.box 4
    go_wp2_with fail
    refine (q_node _ HBA.out.ents SA HRA.out).mono ?_
    rintro e w6 ⟨rfl, hb⟩
    have hbs := hb
    have HX := Lib.hid (HX.out.kept hbs)
    have HY := Lib.hid (HY.out.kept hbs)
    have HBA := Lib.hid (HBA.out.kept hbs)
    have HB := Lib.hid (HB.out.trans (hbs.mono HB.out.size))
    clear hb hbs hba0 hba1 hba2 hba3 hba4
    dsimp only
    have hx0 : w6.cell? ⟨w.heap.size, 0, none⟩ = some (.int .i64 k) := cell_obj HX.out.box 0
    have hx1 : w6.cell? ⟨w.heap.size, 1, none⟩ = some (.int .i64 m) := cell_obj HX.out.box 1
    have hx2 : w6.cell? ⟨w.heap.size, 2, none⟩ = some (.string d) := cell_obj HX.out.box 2
    have hx3 : w6.cell? ⟨w.heap.size, 3, none⟩ = some (.string t) := cell_obj HX.out.box 3
    have hx4 : w6.cell? ⟨w.heap.size, 4, none⟩ = some (.slice a n c) := cell_obj HX.out.box 4
    go_wp2_with fail
    rcases Bool.eq_false_or_eq_true (ndr k m d t l) with hrx | hrx
    · have HPX := Lib.hid (prt_right hrx)
      have HQX := Lib.hid (parse_prt hrx)
      have hux : (lstr (Nd.text ⟨k, m, d, t, l⟩)).size ≤ 100000 := by rw [lstr_size]; exact text_small (ndr_right.1 hrx)
      have HST := Lib.hid (fun h => same_texts (k' := k2) (m' := m2) (d' := d2) (t' := t2) (l' := l2) hrx h)
      clear hrx
      generalize lstr (Nd.text ⟨k, m, d, t, l⟩) = u at HPX HQX HST hux
      refine (q_print _ HX.out.ents SX HPX.out).mono ?_
      rintro e w7 ⟨rfl, hb⟩
      have hbs := hb
      have HX := Lib.hid (HX.out.kept hbs)
      have HY := Lib.hid (HY.out.kept hbs)
      have HBA := Lib.hid (HBA.out.kept hbs)
      have HB := Lib.hid (HB.out.trans (hbs.mono HB.out.size))
      clear hb hbs hx0 hx1 hx2 hx3 hx4
      dsimp only
      have hy0 : w7.cell? ⟨(w.heap.size + 1), 0, none⟩ = some (.int .i64 k2) := cell_obj HY.out.box 0
      have hy1 : w7.cell? ⟨(w.heap.size + 1), 1, none⟩ = some (.int .i64 m2) := cell_obj HY.out.box 1
      have hy2 : w7.cell? ⟨(w.heap.size + 1), 2, none⟩ = some (.string d2) := cell_obj HY.out.box 2
      have hy3 : w7.cell? ⟨(w.heap.size + 1), 3, none⟩ = some (.string t2) := cell_obj HY.out.box 3
      have hy4 : w7.cell? ⟨(w.heap.size + 1), 4, none⟩ = some (.slice a2 n2 c2) := cell_obj HY.out.box 4
      go_wp2_with fail
      rcases Bool.eq_false_or_eq_true (ndr k2 m2 d2 t2 l2) with hry | hry
      · have HPY := Lib.hid (prt_right hry)
        obtain ⟨bq, hbq⟩ : ∃ q, sameN k m d t l k2 m2 d2 t2 l2 = q := ⟨_, rfl⟩
        have hal : alike u (lstr (Nd.text ⟨k2, m2, d2, t2, l2⟩)) = bq := (HST.out hry).trans hbq
        have HSN := Lib.hid hbq
        clear hry HST hbq
        generalize lstr (Nd.text ⟨k2, m2, d2, t2, l2⟩) = u2 at HPY hal
        refine (q_print _ HY.out.ents SY HPY.out).mono ?_
        rintro e w8 ⟨rfl, hb⟩
        have hbs := hb
        have HX := Lib.hid (HX.out.kept hbs)
        have HY := Lib.hid (HY.out.kept hbs)
        have HBA := Lib.hid (HBA.out.kept hbs)
        have HB := Lib.hid (HB.out.trans (hbs.mono HB.out.size))
        clear hb hbs hy0 hy1 hy2 hy3 hy4
        dsimp only
        go_wp2_with fail
        refine (q_parse _ hux HQX.out HX.out.ents.count.symm).mono ?_
        rintro e w9 ⟨ap, cp, rfl, he, hb⟩
        have hbs := hb
        have HX := Lib.hid (HX.out.kept hbs)
        have HY := Lib.hid (HY.out.kept hbs)
        have HBA := Lib.hid (HBA.out.kept hbs)
        have HB := Lib.hid (HB.out.trans (hbs.mono HB.out.size))
        clear hb hbs
        have HEP := Lib.hid he
        clear he
        dsimp only
        have hxne : w.heap.size ≠ w9.heap.size := Nat.ne_of_lt (lt_of_obj HX.out.box)
        have hxnf : w9.heap.size ≠ w.heap.size := Ne.symm hxne
        have hx0 : (w9.alloc (.cells #[.int .i64 k, .int .i64 m, .string d, .string t, .slice ap n cp] 24)).cell? ⟨w.heap.size, 0, none⟩ = some (.int .i64 k) := cell_obj (HX.out.kept (below_one w9 _)).box 0
        have hx1 : (w9.alloc (.cells #[.int .i64 k, .int .i64 m, .string d, .string t, .slice ap n cp] 24)).cell? ⟨w.heap.size, 1, none⟩ = some (.int .i64 m) := cell_obj (HX.out.kept (below_one w9 _)).box 1
        have hx2 : (w9.alloc (.cells #[.int .i64 k, .int .i64 m, .string d, .string t, .slice ap n cp] 24)).cell? ⟨w.heap.size, 2, none⟩ = some (.string d) := cell_obj (HX.out.kept (below_one w9 _)).box 2
        have hx3 : (w9.alloc (.cells #[.int .i64 k, .int .i64 m, .string d, .string t, .slice ap n cp] 24)).cell? ⟨w.heap.size, 3, none⟩ = some (.string t) := cell_obj (HX.out.kept (below_one w9 _)).box 3
        have hx4 : (w9.alloc (.cells #[.int .i64 k, .int .i64 m, .string d, .string t, .slice ap n cp] 24)).cell? ⟨w.heap.size, 4, none⟩ = some (.slice a n c) := cell_obj (HX.out.kept (below_one w9 _)).box 4
        go_wp2_with fail
        refine (q_same _ (nb_new HEP.out).ents (HX.out.ents.below (below_one _ _)) SX.n80 SX.n80 (sameN_self k m d t l)).mono ?_
        rintro e w10 ⟨rfl, hb⟩
        have hbs := (below_one w9 (.cells #[.int .i64 k, .int .i64 m, .string d, .string t, .slice ap n cp] 24)).trans (hb.mono (below_one w9 (.cells #[.int .i64 k, .int .i64 m, .string d, .string t, .slice ap n cp] 24)).size)
        have HX := Lib.hid (HX.out.kept hbs)
        have HY := Lib.hid (HY.out.kept hbs)
        have HBA := Lib.hid (HBA.out.kept hbs)
        have HBP := Lib.hid ((nb_new (k := k) (m := m) (d := d) (t := t) (c := cp) HEP.out).kept hb)
        have HB := Lib.hid (HB.out.trans (hbs.mono HB.out.size))
        clear hb hbs hxne hxnf hx0 hx1 hx2 hx3 hx4
        dsimp only
        have hx0 : w10.cell? ⟨w.heap.size, 0, none⟩ = some (.int .i64 k) := cell_obj HX.out.box 0
        have hx1 : w10.cell? ⟨w.heap.size, 1, none⟩ = some (.int .i64 m) := cell_obj HX.out.box 1
        have hx2 : w10.cell? ⟨w.heap.size, 2, none⟩ = some (.string d) := cell_obj HX.out.box 2
        have hx3 : w10.cell? ⟨w.heap.size, 3, none⟩ = some (.string t) := cell_obj HX.out.box 3
        have hx4 : w10.cell? ⟨w.heap.size, 4, none⟩ = some (.slice a n c) := cell_obj HX.out.box 4
        have hy0 : w10.cell? ⟨(w.heap.size + 1), 0, none⟩ = some (.int .i64 k2) := cell_obj HY.out.box 0
        have hy1 : w10.cell? ⟨(w.heap.size + 1), 1, none⟩ = some (.int .i64 m2) := cell_obj HY.out.box 1
        have hy2 : w10.cell? ⟨(w.heap.size + 1), 2, none⟩ = some (.string d2) := cell_obj HY.out.box 2
        have hy3 : w10.cell? ⟨(w.heap.size + 1), 3, none⟩ = some (.string t2) := cell_obj HY.out.box 3
        have hy4 : w10.cell? ⟨(w.heap.size + 1), 4, none⟩ = some (.slice a2 n2 c2) := cell_obj HY.out.box 4
        go_wp2_with fail
        refine (q_same _ HX.out.ents HY.out.ents SX.n80 SY.n80 HSN.out).mono ?_
        rintro e w11 ⟨rfl, hb⟩
        have hbs := hb
        have HX := Lib.hid (HX.out.kept hbs)
        have HY := Lib.hid (HY.out.kept hbs)
        have HBA := Lib.hid (HBA.out.kept hbs)
        have HBP := Lib.hid (HBP.out.kept hbs)
        have HB := Lib.hid (HB.out.trans (hbs.mono HB.out.size))
        clear hb hbs hx0 hx1 hx2 hx3 hx4 hy0 hy1 hy2 hy3 hy4
        dsimp only
        go_wp2_with fail
        go_ret
        exact ⟨rfl, HB.out⟩
      · have HPY := Lib.hid (prt_wrong hry)
        clear hry HST
        refine (q_print _ HY.out.ents SY HPY.out).mono ?_
        rintro e w8 ⟨rfl, hb⟩
        have hbs := hb
        have HX := Lib.hid (HX.out.kept hbs)
        have HY := Lib.hid (HY.out.kept hbs)
        have HBA := Lib.hid (HBA.out.kept hbs)
        have HB := Lib.hid (HB.out.trans (hbs.mono HB.out.size))
        clear hb hbs hy0 hy1 hy2 hy3 hy4
        dsimp only
        go_wp2_with fail
        refine (q_parse _ hux HQX.out HX.out.ents.count.symm).mono ?_
        rintro e w9 ⟨ap, cp, rfl, he, hb⟩
        have hbs := hb
        have HX := Lib.hid (HX.out.kept hbs)
        have HY := Lib.hid (HY.out.kept hbs)
        have HBA := Lib.hid (HBA.out.kept hbs)
        have HB := Lib.hid (HB.out.trans (hbs.mono HB.out.size))
        clear hb hbs
        have HEP := Lib.hid he
        clear he
        dsimp only
        have hxne : w.heap.size ≠ w9.heap.size := Nat.ne_of_lt (lt_of_obj HX.out.box)
        have hxnf : w9.heap.size ≠ w.heap.size := Ne.symm hxne
        have hx0 : (w9.alloc (.cells #[.int .i64 k, .int .i64 m, .string d, .string t, .slice ap n cp] 24)).cell? ⟨w.heap.size, 0, none⟩ = some (.int .i64 k) := cell_obj (HX.out.kept (below_one w9 _)).box 0
        have hx1 : (w9.alloc (.cells #[.int .i64 k, .int .i64 m, .string d, .string t, .slice ap n cp] 24)).cell? ⟨w.heap.size, 1, none⟩ = some (.int .i64 m) := cell_obj (HX.out.kept (below_one w9 _)).box 1
        have hx2 : (w9.alloc (.cells #[.int .i64 k, .int .i64 m, .string d, .string t, .slice ap n cp] 24)).cell? ⟨w.heap.size, 2, none⟩ = some (.string d) := cell_obj (HX.out.kept (below_one w9 _)).box 2
        have hx3 : (w9.alloc (.cells #[.int .i64 k, .int .i64 m, .string d, .string t, .slice ap n cp] 24)).cell? ⟨w.heap.size, 3, none⟩ = some (.string t) := cell_obj (HX.out.kept (below_one w9 _)).box 3
        have hx4 : (w9.alloc (.cells #[.int .i64 k, .int .i64 m, .string d, .string t, .slice ap n cp] 24)).cell? ⟨w.heap.size, 4, none⟩ = some (.slice a n c) := cell_obj (HX.out.kept (below_one w9 _)).box 4
        go_wp2_with fail
        refine (q_same _ (nb_new HEP.out).ents (HX.out.ents.below (below_one _ _)) SX.n80 SX.n80 (sameN_self k m d t l)).mono ?_
        rintro e w10 ⟨rfl, hb⟩
        have hbs := (below_one w9 (.cells #[.int .i64 k, .int .i64 m, .string d, .string t, .slice ap n cp] 24)).trans (hb.mono (below_one w9 (.cells #[.int .i64 k, .int .i64 m, .string d, .string t, .slice ap n cp] 24)).size)
        have HX := Lib.hid (HX.out.kept hbs)
        have HY := Lib.hid (HY.out.kept hbs)
        have HBA := Lib.hid (HBA.out.kept hbs)
        have HBP := Lib.hid ((nb_new (k := k) (m := m) (d := d) (t := t) (c := cp) HEP.out).kept hb)
        have HB := Lib.hid (HB.out.trans (hbs.mono HB.out.size))
        clear hb hbs hxne hxnf hx0 hx1 hx2 hx3 hx4
        dsimp only
        go_wp2_with fail
        go_ret
        exact ⟨rfl, HB.out⟩
    · have HPX := Lib.hid (prt_wrong hrx)
      have HRX := Lib.hid hrx
      clear hrx
      refine (q_print _ HX.out.ents SX HPX.out).mono ?_
      rintro e w7 ⟨rfl, hb⟩
      have hbs := hb
      have HX := Lib.hid (HX.out.kept hbs)
      have HY := Lib.hid (HY.out.kept hbs)
      have HBA := Lib.hid (HBA.out.kept hbs)
      have HB := Lib.hid (HB.out.trans (hbs.mono HB.out.size))
      clear hb hbs hx0 hx1 hx2 hx3 hx4
      dsimp only
      have hy0 : w7.cell? ⟨(w.heap.size + 1), 0, none⟩ = some (.int .i64 k2) := cell_obj HY.out.box 0
      have hy1 : w7.cell? ⟨(w.heap.size + 1), 1, none⟩ = some (.int .i64 m2) := cell_obj HY.out.box 1
      have hy2 : w7.cell? ⟨(w.heap.size + 1), 2, none⟩ = some (.string d2) := cell_obj HY.out.box 2
      have hy3 : w7.cell? ⟨(w.heap.size + 1), 3, none⟩ = some (.string t2) := cell_obj HY.out.box 3
      have hy4 : w7.cell? ⟨(w.heap.size + 1), 4, none⟩ = some (.slice a2 n2 c2) := cell_obj HY.out.box 4
      go_wp2_with fail
      rcases hpy : prt ⟨k2, m2, d2, t2, l2⟩ with ⟨u2, r2⟩
      have HPY := Lib.hid hpy
      clear hpy
      refine (q_print _ HY.out.ents SY HPY.out).mono ?_
      rintro e w8 ⟨rfl, hb⟩
      have hbs := hb
      have HX := Lib.hid (HX.out.kept hbs)
      have HY := Lib.hid (HY.out.kept hbs)
      have HBA := Lib.hid (HBA.out.kept hbs)
      have HB := Lib.hid (HB.out.trans (hbs.mono HB.out.size))
      clear hb hbs hy0 hy1 hy2 hy3 hy4
      dsimp only
      have hx0 : w8.cell? ⟨w.heap.size, 0, none⟩ = some (.int .i64 k) := cell_obj HX.out.box 0
      have hx1 : w8.cell? ⟨w.heap.size, 1, none⟩ = some (.int .i64 m) := cell_obj HX.out.box 1
      have hx2 : w8.cell? ⟨w.heap.size, 2, none⟩ = some (.string d) := cell_obj HX.out.box 2
      have hx3 : w8.cell? ⟨w.heap.size, 3, none⟩ = some (.string t) := cell_obj HX.out.box 3
      have hx4 : w8.cell? ⟨w.heap.size, 4, none⟩ = some (.slice a n c) := cell_obj HX.out.box 4
      go_wp2_with fail
      refine (q_node _ HX.out.ents SX HRX.out).mono ?_
      rintro e w9 ⟨rfl, hb⟩
      have hbs := hb
      have HX := Lib.hid (HX.out.kept hbs)
      have HY := Lib.hid (HY.out.kept hbs)
      have HBA := Lib.hid (HBA.out.kept hbs)
      have HB := Lib.hid (HB.out.trans (hbs.mono HB.out.size))
      clear hb hbs hx0 hx1 hx2 hx3 hx4
      dsimp only
      go_wp2_with fail
      go_ret
      exact ⟨rfl, HB.out⟩
  · clear HCase
    have HA := Lib.hid hxa
    clear hxa
    refine (q_parse (k := 0) (m := 0) (d := ⟨#[]⟩) (t := ⟨#[]⟩) (l := []) (n := 0) _ hs6 HA.out rfl).mono ?_
    rintro e w4 ⟨aa, ca, rfl, he, hb⟩
    have hbs := hb
    have HX := Lib.hid (HX.out.kept hbs)
    have HY := Lib.hid (HY.out.kept hbs)
    have HB := Lib.hid (HB.out.trans (hbs.mono HB.out.size))
    clear hb hbs
    have HEA := Lib.hid he
    clear he
    dsimp only
    have hxne : w.heap.size ≠ w4.heap.size := Nat.ne_of_lt (lt_of_obj HX.out.box)
    have hxnf : w4.heap.size ≠ w.heap.size := Ne.symm hxne
    have hx0 : (w4.alloc (.cells #[.int .i64 0, .int .i64 0, .string ⟨#[]⟩, .string ⟨#[]⟩, .slice aa 0 ca] 24)).cell? ⟨w.heap.size, 0, none⟩ = some (.int .i64 k) := cell_obj (HX.out.kept (below_one w4 _)).box 0
    have hx1 : (w4.alloc (.cells #[.int .i64 0, .int .i64 0, .string ⟨#[]⟩, .string ⟨#[]⟩, .slice aa 0 ca] 24)).cell? ⟨w.heap.size, 1, none⟩ = some (.int .i64 m) := cell_obj (HX.out.kept (below_one w4 _)).box 1
    have hx2 : (w4.alloc (.cells #[.int .i64 0, .int .i64 0, .string ⟨#[]⟩, .string ⟨#[]⟩, .slice aa 0 ca] 24)).cell? ⟨w.heap.size, 2, none⟩ = some (.string d) := cell_obj (HX.out.kept (below_one w4 _)).box 2
    have hx3 : (w4.alloc (.cells #[.int .i64 0, .int .i64 0, .string ⟨#[]⟩, .string ⟨#[]⟩, .slice aa 0 ca] 24)).cell? ⟨w.heap.size, 3, none⟩ = some (.string t) := cell_obj (HX.out.kept (below_one w4 _)).box 3
    have hx4 : (w4.alloc (.cells #[.int .i64 0, .int .i64 0, .string ⟨#[]⟩, .string ⟨#[]⟩, .slice aa 0 ca] 24)).cell? ⟨w.heap.size, 4, none⟩ = some (.slice a n c) := cell_obj (HX.out.kept (below_one w4 _)).box 4
    go_wp2_with fail
    rcases Bool.eq_false_or_eq_true (ndr k m d t l) with hrx | hrx
    · have HPX := Lib.hid (prt_right hrx)
      have HQX := Lib.hid (parse_prt hrx)
      have hux : (lstr (Nd.text ⟨k, m, d, t, l⟩)).size ≤ 100000 := by rw [lstr_size]; exact text_small (ndr_right.1 hrx)
      have HST := Lib.hid (fun h => same_texts (k' := k2) (m' := m2) (d' := d2) (t' := t2) (l' := l2) hrx h)
      clear hrx
      generalize lstr (Nd.text ⟨k, m, d, t, l⟩) = u at HPX HQX HST hux
      refine (q_print _ (HX.out.ents.below (below_one _ _)) SX HPX.out).mono ?_
      rintro e w5 ⟨rfl, hb⟩
      have hbs := (below_one w4 (.cells #[.int .i64 0, .int .i64 0, .string ⟨#[]⟩, .string ⟨#[]⟩, .slice aa 0 ca] 24)).trans (hb.mono (below_one w4 (.cells #[.int .i64 0, .int .i64 0, .string ⟨#[]⟩, .string ⟨#[]⟩, .slice aa 0 ca] 24)).size)
      have HX := Lib.hid (HX.out.kept hbs)
      have HY := Lib.hid (HY.out.kept hbs)
      have HBA := Lib.hid ((nb_new (k := 0) (m := 0) (d := ⟨#[]⟩) (t := ⟨#[]⟩) (c := ca) HEA.out).kept hb)
      have HB := Lib.hid (HB.out.trans (hbs.mono HB.out.size))
      clear hb hbs hxne hxnf hx0 hx1 hx2 hx3 hx4
      dsimp only
      have hy0 : w5.cell? ⟨(w.heap.size + 1), 0, none⟩ = some (.int .i64 k2) := cell_obj HY.out.box 0
      have hy1 : w5.cell? ⟨(w.heap.size + 1), 1, none⟩ = some (.int .i64 m2) := cell_obj HY.out.box 1
      have hy2 : w5.cell? ⟨(w.heap.size + 1), 2, none⟩ = some (.string d2) := cell_obj HY.out.box 2
      have hy3 : w5.cell? ⟨(w.heap.size + 1), 3, none⟩ = some (.string t2) := cell_obj HY.out.box 3
      have hy4 : w5.cell? ⟨(w.heap.size + 1), 4, none⟩ = some (.slice a2 n2 c2) := cell_obj HY.out.box 4
      go_wp2_with fail
      rcases Bool.eq_false_or_eq_true (ndr k2 m2 d2 t2 l2) with hry | hry
      · have HPY := Lib.hid (prt_right hry)
        obtain ⟨bq, hbq⟩ : ∃ q, sameN k m d t l k2 m2 d2 t2 l2 = q := ⟨_, rfl⟩
        have hal : alike u (lstr (Nd.text ⟨k2, m2, d2, t2, l2⟩)) = bq := (HST.out hry).trans hbq
        have HSN := Lib.hid hbq
        clear hry HST hbq
        generalize lstr (Nd.text ⟨k2, m2, d2, t2, l2⟩) = u2 at HPY hal
        refine (q_print _ HY.out.ents SY HPY.out).mono ?_
        rintro e w6 ⟨rfl, hb⟩
        have hbs := hb
        have HX := Lib.hid (HX.out.kept hbs)
        have HY := Lib.hid (HY.out.kept hbs)
        have HBA := Lib.hid (HBA.out.kept hbs)
        have HB := Lib.hid (HB.out.trans (hbs.mono HB.out.size))
        clear hb hbs hy0 hy1 hy2 hy3 hy4
        dsimp only
        go_wp2_with fail
        refine (q_parse _ hux HQX.out HX.out.ents.count.symm).mono ?_
        rintro e w7 ⟨ap, cp, rfl, he, hb⟩
        have hbs := hb
        have HX := Lib.hid (HX.out.kept hbs)
        have HY := Lib.hid (HY.out.kept hbs)
        have HBA := Lib.hid (HBA.out.kept hbs)
        have HB := Lib.hid (HB.out.trans (hbs.mono HB.out.size))
        clear hb hbs
        have HEP := Lib.hid he
        clear he
        dsimp only
        have hxne : w.heap.size ≠ w7.heap.size := Nat.ne_of_lt (lt_of_obj HX.out.box)
        have hxnf : w7.heap.size ≠ w.heap.size := Ne.symm hxne
        have hx0 : (w7.alloc (.cells #[.int .i64 k, .int .i64 m, .string d, .string t, .slice ap n cp] 24)).cell? ⟨w.heap.size, 0, none⟩ = some (.int .i64 k) := cell_obj (HX.out.kept (below_one w7 _)).box 0
        have hx1 : (w7.alloc (.cells #[.int .i64 k, .int .i64 m, .string d, .string t, .slice ap n cp] 24)).cell? ⟨w.heap.size, 1, none⟩ = some (.int .i64 m) := cell_obj (HX.out.kept (below_one w7 _)).box 1
        have hx2 : (w7.alloc (.cells #[.int .i64 k, .int .i64 m, .string d, .string t, .slice ap n cp] 24)).cell? ⟨w.heap.size, 2, none⟩ = some (.string d) := cell_obj (HX.out.kept (below_one w7 _)).box 2
        have hx3 : (w7.alloc (.cells #[.int .i64 k, .int .i64 m, .string d, .string t, .slice ap n cp] 24)).cell? ⟨w.heap.size, 3, none⟩ = some (.string t) := cell_obj (HX.out.kept (below_one w7 _)).box 3
        have hx4 : (w7.alloc (.cells #[.int .i64 k, .int .i64 m, .string d, .string t, .slice ap n cp] 24)).cell? ⟨w.heap.size, 4, none⟩ = some (.slice a n c) := cell_obj (HX.out.kept (below_one w7 _)).box 4
        go_wp2_with fail
        refine (q_same _ (nb_new HEP.out).ents (HX.out.ents.below (below_one _ _)) SX.n80 SX.n80 (sameN_self k m d t l)).mono ?_
        rintro e w8 ⟨rfl, hb⟩
        have hbs := (below_one w7 (.cells #[.int .i64 k, .int .i64 m, .string d, .string t, .slice ap n cp] 24)).trans (hb.mono (below_one w7 (.cells #[.int .i64 k, .int .i64 m, .string d, .string t, .slice ap n cp] 24)).size)
        have HX := Lib.hid (HX.out.kept hbs)
        have HY := Lib.hid (HY.out.kept hbs)
        have HBA := Lib.hid (HBA.out.kept hbs)
        have HBP := Lib.hid ((nb_new (k := k) (m := m) (d := d) (t := t) (c := cp) HEP.out).kept hb)
        have HB := Lib.hid (HB.out.trans (hbs.mono HB.out.size))
        clear hb hbs hxne hxnf hx0 hx1 hx2 hx3 hx4
        dsimp only
        have hx0 : w8.cell? ⟨w.heap.size, 0, none⟩ = some (.int .i64 k) := cell_obj HX.out.box 0
        have hx1 : w8.cell? ⟨w.heap.size, 1, none⟩ = some (.int .i64 m) := cell_obj HX.out.box 1
        have hx2 : w8.cell? ⟨w.heap.size, 2, none⟩ = some (.string d) := cell_obj HX.out.box 2
        have hx3 : w8.cell? ⟨w.heap.size, 3, none⟩ = some (.string t) := cell_obj HX.out.box 3
        have hx4 : w8.cell? ⟨w.heap.size, 4, none⟩ = some (.slice a n c) := cell_obj HX.out.box 4
        have hy0 : w8.cell? ⟨(w.heap.size + 1), 0, none⟩ = some (.int .i64 k2) := cell_obj HY.out.box 0
        have hy1 : w8.cell? ⟨(w.heap.size + 1), 1, none⟩ = some (.int .i64 m2) := cell_obj HY.out.box 1
        have hy2 : w8.cell? ⟨(w.heap.size + 1), 2, none⟩ = some (.string d2) := cell_obj HY.out.box 2
        have hy3 : w8.cell? ⟨(w.heap.size + 1), 3, none⟩ = some (.string t2) := cell_obj HY.out.box 3
        have hy4 : w8.cell? ⟨(w.heap.size + 1), 4, none⟩ = some (.slice a2 n2 c2) := cell_obj HY.out.box 4
        go_wp2_with fail
        refine (q_same _ HX.out.ents HY.out.ents SX.n80 SY.n80 HSN.out).mono ?_
        rintro e w9 ⟨rfl, hb⟩
        have hbs := hb
        have HX := Lib.hid (HX.out.kept hbs)
        have HY := Lib.hid (HY.out.kept hbs)
        have HBA := Lib.hid (HBA.out.kept hbs)
        have HBP := Lib.hid (HBP.out.kept hbs)
        have HB := Lib.hid (HB.out.trans (hbs.mono HB.out.size))
        clear hb hbs hx0 hx1 hx2 hx3 hx4 hy0 hy1 hy2 hy3 hy4
        dsimp only
        go_wp2_with fail
        go_ret
        exact ⟨rfl, HB.out⟩
      · have HPY := Lib.hid (prt_wrong hry)
        clear hry HST
        refine (q_print _ HY.out.ents SY HPY.out).mono ?_
        rintro e w6 ⟨rfl, hb⟩
        have hbs := hb
        have HX := Lib.hid (HX.out.kept hbs)
        have HY := Lib.hid (HY.out.kept hbs)
        have HBA := Lib.hid (HBA.out.kept hbs)
        have HB := Lib.hid (HB.out.trans (hbs.mono HB.out.size))
        clear hb hbs hy0 hy1 hy2 hy3 hy4
        dsimp only
        go_wp2_with fail
        refine (q_parse _ hux HQX.out HX.out.ents.count.symm).mono ?_
        rintro e w7 ⟨ap, cp, rfl, he, hb⟩
        have hbs := hb
        have HX := Lib.hid (HX.out.kept hbs)
        have HY := Lib.hid (HY.out.kept hbs)
        have HBA := Lib.hid (HBA.out.kept hbs)
        have HB := Lib.hid (HB.out.trans (hbs.mono HB.out.size))
        clear hb hbs
        have HEP := Lib.hid he
        clear he
        dsimp only
        have hxne : w.heap.size ≠ w7.heap.size := Nat.ne_of_lt (lt_of_obj HX.out.box)
        have hxnf : w7.heap.size ≠ w.heap.size := Ne.symm hxne
        have hx0 : (w7.alloc (.cells #[.int .i64 k, .int .i64 m, .string d, .string t, .slice ap n cp] 24)).cell? ⟨w.heap.size, 0, none⟩ = some (.int .i64 k) := cell_obj (HX.out.kept (below_one w7 _)).box 0
        have hx1 : (w7.alloc (.cells #[.int .i64 k, .int .i64 m, .string d, .string t, .slice ap n cp] 24)).cell? ⟨w.heap.size, 1, none⟩ = some (.int .i64 m) := cell_obj (HX.out.kept (below_one w7 _)).box 1
        have hx2 : (w7.alloc (.cells #[.int .i64 k, .int .i64 m, .string d, .string t, .slice ap n cp] 24)).cell? ⟨w.heap.size, 2, none⟩ = some (.string d) := cell_obj (HX.out.kept (below_one w7 _)).box 2
        have hx3 : (w7.alloc (.cells #[.int .i64 k, .int .i64 m, .string d, .string t, .slice ap n cp] 24)).cell? ⟨w.heap.size, 3, none⟩ = some (.string t) := cell_obj (HX.out.kept (below_one w7 _)).box 3
        have hx4 : (w7.alloc (.cells #[.int .i64 k, .int .i64 m, .string d, .string t, .slice ap n cp] 24)).cell? ⟨w.heap.size, 4, none⟩ = some (.slice a n c) := cell_obj (HX.out.kept (below_one w7 _)).box 4
        go_wp2_with fail
        refine (q_same _ (nb_new HEP.out).ents (HX.out.ents.below (below_one _ _)) SX.n80 SX.n80 (sameN_self k m d t l)).mono ?_
        rintro e w8 ⟨rfl, hb⟩
        have hbs := (below_one w7 (.cells #[.int .i64 k, .int .i64 m, .string d, .string t, .slice ap n cp] 24)).trans (hb.mono (below_one w7 (.cells #[.int .i64 k, .int .i64 m, .string d, .string t, .slice ap n cp] 24)).size)
        have HX := Lib.hid (HX.out.kept hbs)
        have HY := Lib.hid (HY.out.kept hbs)
        have HBA := Lib.hid (HBA.out.kept hbs)
        have HBP := Lib.hid ((nb_new (k := k) (m := m) (d := d) (t := t) (c := cp) HEP.out).kept hb)
        have HB := Lib.hid (HB.out.trans (hbs.mono HB.out.size))
        clear hb hbs hxne hxnf hx0 hx1 hx2 hx3 hx4
        dsimp only
        go_wp2_with fail
        go_ret
        exact ⟨rfl, HB.out⟩
    · have HPX := Lib.hid (prt_wrong hrx)
      have HRX := Lib.hid hrx
      clear hrx
      refine (q_print _ (HX.out.ents.below (below_one _ _)) SX HPX.out).mono ?_
      rintro e w5 ⟨rfl, hb⟩
      have hbs := (below_one w4 (.cells #[.int .i64 0, .int .i64 0, .string ⟨#[]⟩, .string ⟨#[]⟩, .slice aa 0 ca] 24)).trans (hb.mono (below_one w4 (.cells #[.int .i64 0, .int .i64 0, .string ⟨#[]⟩, .string ⟨#[]⟩, .slice aa 0 ca] 24)).size)
      have HX := Lib.hid (HX.out.kept hbs)
      have HY := Lib.hid (HY.out.kept hbs)
      have HBA := Lib.hid ((nb_new (k := 0) (m := 0) (d := ⟨#[]⟩) (t := ⟨#[]⟩) (c := ca) HEA.out).kept hb)
      have HB := Lib.hid (HB.out.trans (hbs.mono HB.out.size))
      clear hb hbs hxne hxnf hx0 hx1 hx2 hx3 hx4
      dsimp only
      have hy0 : w5.cell? ⟨(w.heap.size + 1), 0, none⟩ = some (.int .i64 k2) := cell_obj HY.out.box 0
      have hy1 : w5.cell? ⟨(w.heap.size + 1), 1, none⟩ = some (.int .i64 m2) := cell_obj HY.out.box 1
      have hy2 : w5.cell? ⟨(w.heap.size + 1), 2, none⟩ = some (.string d2) := cell_obj HY.out.box 2
      have hy3 : w5.cell? ⟨(w.heap.size + 1), 3, none⟩ = some (.string t2) := cell_obj HY.out.box 3
      have hy4 : w5.cell? ⟨(w.heap.size + 1), 4, none⟩ = some (.slice a2 n2 c2) := cell_obj HY.out.box 4
      go_wp2_with fail
      rcases hpy : prt ⟨k2, m2, d2, t2, l2⟩ with ⟨u2, r2⟩
      have HPY := Lib.hid hpy
      clear hpy
      refine (q_print _ HY.out.ents SY HPY.out).mono ?_
      rintro e w6 ⟨rfl, hb⟩
      have hbs := hb
      have HX := Lib.hid (HX.out.kept hbs)
      have HY := Lib.hid (HY.out.kept hbs)
      have HBA := Lib.hid (HBA.out.kept hbs)
      have HB := Lib.hid (HB.out.trans (hbs.mono HB.out.size))
      clear hb hbs hy0 hy1 hy2 hy3 hy4
      dsimp only
      have hx0 : w6.cell? ⟨w.heap.size, 0, none⟩ = some (.int .i64 k) := cell_obj HX.out.box 0
      have hx1 : w6.cell? ⟨w.heap.size, 1, none⟩ = some (.int .i64 m) := cell_obj HX.out.box 1
      have hx2 : w6.cell? ⟨w.heap.size, 2, none⟩ = some (.string d) := cell_obj HX.out.box 2
      have hx3 : w6.cell? ⟨w.heap.size, 3, none⟩ = some (.string t) := cell_obj HX.out.box 3
      have hx4 : w6.cell? ⟨w.heap.size, 4, none⟩ = some (.slice a n c) := cell_obj HX.out.box 4
      go_wp2_with fail
      refine (q_node _ HX.out.ents SX HRX.out).mono ?_
      rintro e w7 ⟨rfl, hb⟩
      have hbs := hb
      have HX := Lib.hid (HX.out.kept hbs)
      have HY := Lib.hid (HY.out.kept hbs)
      have HBA := Lib.hid (HBA.out.kept hbs)
      have HB := Lib.hid (HB.out.trans (hbs.mono HB.out.size))
      clear hb hbs hx0 hx1 hx2 hx3 hx4
      dsimp only
      go_wp2_with fail
      go_ret
      exact ⟨rfl, HB.out⟩
end Go.Proofs.Yteieehjggiiljaa
