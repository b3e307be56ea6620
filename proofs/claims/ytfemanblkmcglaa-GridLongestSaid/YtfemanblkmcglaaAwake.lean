/- The laws' own first question. -/
import Derived.Test.YtfemanblkmcglaaApply
import Derived.Test.YtfemanblkmcglaaPath
import Derived.Test.YtfemanblkmcglaaFew
namespace Go.Proofs.Ytfemanblkmcglaa
open Go.RowKit Grid

def ta : ByteArray := ⟨#[97]⟩
def tb : ByteArray := ⟨#[98]⟩
def tc : ByteArray := ⟨#[99]⟩
def td : ByteArray := ⟨#[100]⟩
theorem way_four : path [ta, tb, tc] [ta, tc, td] = [0, 1, 0, 2] := by decide +kernel
theorem comes_one_d : comes [0, 1, 0, 2] [ta, tc, td] = [td] := rfl
theorem apply_d : apply [0, 1, 0, 2] [ta, tb, tc] [td] = some [ta, tc, td] := rfl
theorem apply_nil : apply [0, 1, 0, 2] [ta, tb, tc] [] = none := rfl
theorem fb_three : fb 3 = 4613937818241073152 := by decide +kernel
theorem strs_three (g : Nat) (x y z : ByteArray) (w : World) (h : w.heap[g]? = some (.cells #[.string x, .string y, .string z] 9)) : Strs (some ⟨g, 0, none⟩) 3 [x, y, z] w := by
  refine ⟨rfl, fun i hi => ⟨g, 0, rfl, ?_⟩⟩
  unfold World.cell?
  rw [h]
  match i, hi with
  | 0, _ => rfl
  | 1, _ => rfl
  | 2, _ => rfl
theorem strs_lone (g : Nat) (x : ByteArray) (w : World) (h : w.heap[g]? = some (.cells #[.string x] 9)) : Strs (some ⟨g, 0, none⟩) 1 [x] w := by
  refine ⟨rfl, fun i hi => ⟨g, 0, rfl, ?_⟩⟩
  unfold World.cell?
  rw [h]
  match i, hi with
  | 0, _ => rfl

theorem small_in {l : List ByteArray} (h : ∀ s ∈ l, s.size ≤ 1) : ∀ s ∈ l, s.size ≤ 140737488355328 := fun s hs => Nat.le_trans (h s hs) (by decide)
theorem small_at {l : List ByteArray} (h : ∀ s ∈ l, s.size ≤ 140737488355328) (i : Nat) : (l.getD i ByteArray.empty).size ≤ 140737488355328 := by
  rcases Nat.lt_or_ge i l.length with h1 | h1
  · rw [getD_at h1]; exact h _ (List.getElem_mem h1)
  · rw [List.getD, List.getElem?_eq_none h1]; decide
theorem found_four {w w' : World} {e : Ending} (h : Found [ta, tb, tc] [ta, tc, td] w e w') : ∃ ao cap, e = .returned (.tuple #[.slice ao 4 cap, .int .i64 0]) ∧ Steps ao 4 [0, 1, 0, 2] w' ∧ Below w.heap.size w w' := by
  obtain ⟨ao, cap, h1, h2, h3⟩ := h
  rw [way_four] at h1 h2
  exact ⟨ao, cap, h1, h2, h3⟩
theorem steps_four {ao : Option Addr} {w : World} (h : Steps ao 4 [0, 1, 0, 2] w) : ∃ b off, ao = some ⟨b, off, none⟩ ∧ w.cell? ⟨b, off, none⟩ = some (sv 0) ∧ w.cell? ⟨b, off + 1, none⟩ = some (sv 1) ∧ w.cell? ⟨b, off + 2, none⟩ = some (sv 0) ∧ w.cell? ⟨b, off + 3, none⟩ = some (sv 2) := by
  obtain ⟨b, off, h1, c0⟩ := h.cell 0 (by omega)
  obtain ⟨b', off', h2, c1⟩ := h.cell 1 (by omega)
  obtain ⟨b'', off'', h3, c2⟩ := h.cell 2 (by omega)
  obtain ⟨b3, off3, h4, c3⟩ := h.cell 3 (by omega)
  subst h1
  injection h2 with h2; injection h2 with e1 e2; subst e1; subst e2
  injection h3 with h3; injection h3 with e1 e2; subst e1; subst e2
  injection h4 with h4; injection h4 with e1 e2; subst e1; subst e2
  exact ⟨b, off, rfl, c0, c1, c2, c3⟩
theorem pts_last {ao : Option Addr} {w : World} (h : Pts ao 5 [0, 1, 0, 2] w) : ∃ b off, ao = some ⟨b, off, none⟩ ∧ w.cell? ⟨b, off + 4, none⟩ = some (pv 3 3) := by
  obtain ⟨b, off, h1, c4⟩ := h.cell 4 (by omega)
  exact ⟨b, off, h1, c4⟩
theorem three_eql (w : World) (t : TypeId) : (binOp .eql t (pv 3 3) (.complex .f64 4613937818241073152 4613937818241073152)).run Try.prog w = .ok (.bool true) w := by
  have h := pt_eql (P := Try.prog) w t (x := 3) (y := 3) (u := 3) (v := 3) (by omega) (by omega) (by omega) (by omega)
  rw [show pv 3 3 = .complex .f64 4613937818241073152 4613937818241073152 from by show Value.complex .f64 (fb 3) (fb 3) = _; rw [fb_three]] at h ⊢
  exact h
attribute [local go_sem 9000] three_eql
attribute [local go_sem 9000] sem_stralike eql_stay eql_goes eql_comes
set_option maxRecDepth 100000 in
set_option maxHeartbeats 4000000 in
theorem awake_any (w : World) : Calls Try.prog 8 #[] w fun e w' => e = .returned (.bool true) ∧ Below w.heap.size w w' := by
  have b0 := (Below.refl w.heap.size w).alloc (Nat.le_refl _) (.cells #[.string ta, .string tb, .string tc] 9)
  have b1 := b0.alloc b0.size (.cells #[.string ta, .string tc, .string td] 9)
  have s0 : Strs (some ⟨w.heap.size, 0, none⟩) 3 [ta, tb, tc] ((w.alloc (.cells #[.string ta, .string tb, .string tc] 9)).alloc (.cells #[.string ta, .string tc, .string td] 9)) :=
    (strs_three _ _ _ _ _ (heap_alloc_new w _)).below ((Below.refl _ _).alloc (Nat.le_refl _) _)
  have s1 : Strs (some ⟨w.heap.size + 1, 0, none⟩) 3 [ta, tc, td] ((w.alloc (.cells #[.string ta, .string tb, .string tc] 9)).alloc (.cells #[.string ta, .string tc, .string td] 9)) := by
    have h := strs_three (w.alloc (.cells #[.string ta, .string tb, .string tc] 9)).heap.size ta tc td _ (heap_alloc_new (w.alloc (.cells #[.string ta, .string tb, .string tc] 9)) _)
    rw [World.size_alloc] at h
    exact h
  have HB := Lib.hid b1
  have HS0 := Lib.hid s0
  have HS1 := Lib.hid s1
  clear b0 b1 s0 s1
  go_enter Try.func8, Try.ntmps8
  go_wp2_with fail
  refine (path_any _ _ 3 3 3 3 [ta, tb, tc] [ta, tc, td] _ HS0.out HS1.out (by omega) (by omega)).mono ?_
  intro e w1 h
  obtain ⟨ao, cap, rfl, hP, hw1⟩ := found_four h
  clear h
  dsimp only
  have hA1 := HS0.out.below hw1
  have hC1 := HS1.out.below hw1
  have hB1 := HB.out.trans (hw1.mono HB.out.size)
  clear HB HS0 HS1 hw1
  generalize w.heap.size + 1 = g1 at hC1 ⊢
  have hal := (Below.refl w1.heap.size w1).alloc (Nat.le_refl _) (.cells #[.string td] 9)
  have HD := Lib.hid (show Wait [td] (some ⟨w1.heap.size, 0, none⟩) 1 1 (w1.alloc (.cells #[.string td] 9)) from ⟨strs_lone _ _ _ (heap_alloc_new w1 _), Nat.le_refl _, small_in (by decide), by omega⟩)
  have HA2 := Lib.hid (show Wait [ta, tb, tc] (some ⟨w.heap.size, 0, none⟩) 3 3 (w1.alloc (.cells #[.string td] 9)) from ⟨hA1.below hal, Nat.le_refl _, small_in (by decide), by omega⟩)
  have HC2 := Lib.hid (hC1.below hal)
  have HP2 := Lib.hid (hP.below hal)
  have HB2 := Lib.hid (hB1.alloc hB1.size (.cells #[.string td] 9))
  clear hA1 hC1 hP hB1 hal
  go_wp2_with fail
  refine (apply_any _ _ _ 3 3 4 _ 1 1 [ta, tb, tc] [td] [0, 1, 0, 2] _ HA2.out HP2.out HD.out (by omega) (by decide)).mono ?_
  intro e w2 h
  rw [apply_d] at h
  obtain ⟨ro, rc, rfl, hR, hw2⟩ := h
  dsimp only
  have HA3 := Lib.hid (HA2.out.below hw2)
  have HC3 := Lib.hid (HC2.out.below hw2)
  have HP3 := Lib.hid (HP2.out.below hw2)
  have HB3 := Lib.hid (HB2.out.trans (hw2.mono HB2.out.size))
  have HR3 := Lib.hid hR
  clear HA2 HC2 HP2 HB2 HD hR hw2
  go_wp2_with fail
  refine (apply_any _ _ none 3 3 4 _ 0 0 [ta, tb, tc] [] [0, 1, 0, 2] _ HA3.out HP3.out ⟨⟨rfl, fun i hi => by omega⟩, Nat.le_refl _, (fun s hs => by cases hs), by omega⟩ (by omega) (by decide)).mono ?_
  intro e w3 h
  rw [apply_nil] at h
  obtain ⟨rfl, hw3⟩ := h
  dsimp only
  have HC4 := Lib.hid (HC3.out.below hw3)
  have HP4 := Lib.hid (HP3.out.below hw3)
  have HB4 := Lib.hid (HB3.out.trans (hw3.mono HB3.out.size))
  have HR4 := Lib.hid (HR3.out.below hw3)
  clear HA3 HC3 HP3 HB3 HR3 hw3
  go_wp2_with fail
  refine (points_any _ 4 _ [0, 1, 0, 2] _ HP4.out (by omega)).mono ?_
  rintro e w4 ⟨qo, qc, rfl, hQ, hw4⟩
  dsimp only
  have HC5 := Lib.hid (HC4.out.below hw4)
  have HP5 := Lib.hid (HP4.out.below hw4)
  have HB5 := Lib.hid (HB4.out.trans (hw4.mono HB4.out.size))
  have HR5 := Lib.hid (HR4.out.below hw4)
  have HQ5 := Lib.hid hQ
  clear HC4 HP4 HB4 HR4 hQ hw4
  go_wp2_with fail
  refine (comes_any _ _ 3 3 4 _ [ta, tc, td] [0, 1, 0, 2] _ HC5.out HP5.out (by omega) (by omega) (small_at (small_in (by decide))) (by decide) (by decide)).mono ?_
  rintro e w5 ⟨co, cc, rfl, hC, -, hw5⟩
  dsimp only
  rw [comes_one_d] at hC ⊢
  have hP6 := HP5.out.below hw5
  have hR6 := HR5.out.below hw5
  have hQ6 := HQ5.out.below hw5
  have hD6 := HC5.out.below hw5
  have HB6 := Lib.hid (HB5.out.trans (hw5.mono HB5.out.size))
  have HP6 := Lib.hid hP6
  have HR6 := Lib.hid hR6
  have HD6 := Lib.hid hD6
  obtain ⟨pb, po, rfl, p0, p1, p2, p3⟩ := steps_four hP6
  obtain ⟨qb, qf, rfl, q4⟩ := pts_last hQ6
  obtain ⟨cb, cf, rfl, c0⟩ := hC.cell 0 (by simp)
  clear HC5 HP5 HB5 HR5 HQ5 hw5 hP6 hR6 hQ6 hD6 hC
  have hc0 : w5.cell? ⟨cb, cf, none⟩ = some (.string td) := c0
  clear c0
  go_wp2_with fail
  refine (texts_any _ _ 3 _ 3 _ [ta, tc, td] [ta, tc, td] _ HR6.out HD6.out (by omega) (by omega)).mono ?_
  rintro e w6 ⟨rfl, n, rfl⟩
  rw [show rowsAlike [ta, tc, td] [ta, tc, td] = true from decide_eq_true rfl]
  dsimp only
  have HPn := Lib.hid (show Steps (some ⟨pb, po, none⟩) 4 [0, 1, 0, 2] (w5.drewN n) from ⟨HP6.out.count, HP6.out.cell⟩)
  go_wp2_with fail
  refine (same_any _ 4 _ [0, 1, 0, 2] _ HPn.out (by omega)).mono ?_
  rintro e w7 ⟨rfl, rfl⟩
  rw [show List.count 0 [0, 1, 0, 2] = 2 from rfl]
  dsimp only
  go_wp2_with fail
  have ha : alike td ⟨#[100]⟩ = true := decide_eq_true rfl
  go_ret
  exact ⟨rfl, below_drewN HB6.out n⟩
end Go.Proofs.Ytfemanblkmcglaa
