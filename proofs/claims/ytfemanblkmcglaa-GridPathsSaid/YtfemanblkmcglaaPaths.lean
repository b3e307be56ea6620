/- GridPaths walked. -/
import Derived.Test.YtfemanblkmcglaaAwake
namespace Go.Proofs.Ytfemanblkmcglaa
open Go.RowKit Grid

theorem sv_same (w : World) (t : TypeId) (k : Nat) : (binOp .neq t (sv k) (sv k)).run Try.prog w = .ok (.bool false) w := by
  have h1 := gx_le k
  have h2 := gy_le k
  show (binOp .neq t (.complex .f64 (sre k) (sim k)) (.complex .f64 (sre k) (sim k))).run Try.prog w = _
  rw [sre_gx, sim_gy, run_cneq w t (by unfold lim; omega) (by unfold lim; omega) (by unfold lim; omega) (by unfold lim; omega)]
  simp
attribute [local go_sem 9000] neq_stay neq_goes neq_comes eql_stay sem_strnot
set_option maxRecDepth 100000 in
set_option maxHeartbeats 20000000 in
theorem paths_any (a b : Option Addr) (la ca lb cb : Nat) (sa sb : List ByteArray) (w : World) (hA : Strs a la sa w) (hB : Strs b lb sb w) (hrA : ∀ s ∈ sa, s.size ≤ 140737488355328) (hrB : ∀ s ∈ sb, s.size ≤ 140737488355328) (hla : la ≤ 140737488355328) (hlb : lb ≤ 140737488355328) :
    Calls Try.prog 6 #[.slice a la ca, .slice b lb cb] w fun e w' => e = .returned (.bool true) ∧ Below w.heap.size w w' := by
  have HRA := Lib.hid (small_at hrA)
  have HRB := Lib.hid (small_at hrB)
  have HLA := Lib.hid hla
  have HLB := Lib.hid hlb
  clear hrA hrB hla hlb
  go_enter Try.func6, Try.ntmps6
  go_wp2_with fail
  refine (awake_any _).mono ?_
  rintro e w1 ⟨rfl, hw1⟩
  have HA := Lib.hid (hA.below hw1)
  have HB := Lib.hid (hB.below hw1)
  have HW := Lib.hid hw1
  clear hA hB hw1
  dsimp only
  go_wp2_with fail
  refine (few_any a la ca sa _ HA.out (fun i _ => HRA.out i) HLA.out).mono ?_
  rintro e w2 (⟨rfl, rfl⟩ | ⟨rfl, rfl, h60⟩)
  · dsimp only
    go_wp2_with fail
    go_ret
    exact ⟨rfl, HW.out⟩
  · dsimp only
    go_wp2_with fail
    refine (few_any b lb cb sb _ HB.out (fun i _ => HRB.out i) HLB.out).mono ?_
    rintro e w2 (⟨rfl, rfl⟩ | ⟨rfl, rfl, h61⟩)
    · dsimp only
      go_wp2_with fail
      go_ret
      exact ⟨rfl, HW.out⟩
    · dsimp only
      have hla : (la : Int) ≤ 60 := by omega
      have hlb : (lb : Int) ≤ 60 := by omega
      go_wp2_with fail
      refine (path_any a b la ca lb cb sa sb _ HA.out HB.out (by omega) (by omega)).mono ?_
      rintro e w3 ⟨ao, cap, rfl, hP, hw3⟩
      have HA3 := Lib.hid (HA.out.below hw3)
      have HB3 := Lib.hid (HB.out.below hw3)
      have HW3 := Lib.hid (HW.out.trans (hw3.mono HW.out.size))
      have HG := Lib.hid (path_good sa sb)
      have hpl := path_le sa sb
      rw [← HA.out.count, ← HB.out.count] at hpl
      generalize path sa sb = p at hP HG hpl ⊢
      have hpl : (p.length : Int) ≤ 120 := by omega
      have HP3 := Lib.hid hP
      clear HA HB HW hP hw3
      dsimp only
      go_wp2_with fail
      refine (points_any ao p.length cap p _ HP3.out (by omega)).mono ?_
      rintro e w4 ⟨qo, qc, rfl, hQ, hw4⟩
      have HA4 := Lib.hid (HA3.out.below hw4)
      have HB4 := Lib.hid (HB3.out.below hw4)
      have HP4 := Lib.hid (HP3.out.below hw4)
      have HW4 := Lib.hid (HW3.out.trans (hw4.mono HW3.out.size))
      have HQ4 := Lib.hid hQ
      clear HA3 HB3 HP3 HW3 hQ hw4
      dsimp only
      go_wp2_with fail
      go_loopw [8] (fun i wr => ∃ k n : Nat, k ≤ p.length ∧ i = .int .i64 k ∧ wr = w4.drewN n) (fun i _ => p.length - (intOf i).toNat)
      case atStart => exact ⟨0, 0, Nat.zero_le _, rfl, rfl⟩
      case round =>
        obtain ⟨k, n, hk, rfl, rfl⟩ := hrel
        by_cases hlt : k < p.length
        · obtain ⟨gt1, gt2, gt3⟩ := good_take HG.out k
          have hsm := good_small HG.out p[k] (List.getElem_mem hlt)
          obtain ⟨b1, o1, rfl, c1⟩ := HP4.out.cell k hlt
          obtain ⟨b2, o2, rfl, c2⟩ := HQ4.out.cell k (by omega)
          obtain ⟨b3, o3, hq3, c3⟩ := HQ4.out.cell (k + 1) (by omega)
          injection hq3 with hq3; injection hq3 with e1 e2; subst e1; subst e2
          rw [xs_next hlt, ys_next hlt, getD_at hlt] at c3
          rw [getD_at hlt] at c1
          replace gt3 := gt3 hlt
          have hd : p[k] = 0 ∨ p[k] = 1 ∨ p[k] = 2 := by omega
          generalize p[k] = d at c1 c3 gt3 hd
          rw [← HA4.out.count] at gt1
          rw [← HB4.out.count] at gt2
          generalize xs (p.take k) = X at c2 c3 gt1 gt3
          generalize ys (p.take k) = Y at c2 c3 gt2 gt3
          have hsub := fun w => pt_sub (P := Try.prog) w 34 (x := X) (y := Y) d (by omega) (by omega)
          have hf1 := fun w => float_int (n := X) w (by omega)
          have hf2 := fun w => float_int (n := Y) w (by omega)
          have hself := fun w => sv_same w 34 d
          have hX : (X : Int) ≤ (la : Int) := by omega
          have hY : (Y : Int) ≤ (lb : Int) := by omega
          have k1 : (k : Int) < (p.length : Int) := by omega
          have k2 : (k : Int) + 1 < (p.length : Int) + 1 := by omega
          have k3 : (0 : Int) ≤ (k : Int) + 1 := by omega
          have kw : IntKind.i64.wrap ((k : Int) + 1) = (k : Int) + 1 := IntWalk.i64_in _ (by omega)
          have kt : ((k : Int) + 1).toNat = k + 1 := by omega
          have k4 : (k : Int) < (p.length : Int) + 1 := by omega
          have zx : decide ((X : Int) < 0) = false := decide_eq_false (by omega)
          have zy : decide ((Y : Int) < 0) = false := decide_eq_false (by omega)
          have n5 : decide (la < X) = false := decide_eq_false (by omega)
          have n6 : decide (lb < Y) = false := decide_eq_false (by omega)
          clear hsm
          rcases hd with rfl | rfl | rfl
          · obtain ⟨gx1, gy1, heq⟩ := gt3 rfl
            obtain ⟨b4, o4, rfl, c4⟩ := HA4.out.cell X (by rw [HA4.out.count]; exact gx1)
            obtain ⟨b5, o5, rfl, c5⟩ := HB4.out.cell Y (by rw [HB4.out.count]; exact gy1)
            rw [getD_at gx1] at c4
            rw [getD_at gy1] at c5
            have ha : alike sa[X] sb[Y] = true := decide_eq_true heq
            have hX1 : (X : Int) < (la : Int) := by have := HA4.out.count; omega
            have hY1 : (Y : Int) < (lb : Int) := by have := HB4.out.count; omega
            generalize sa[X] = u at c4 ha
            generalize sb[Y] = v at c5 ha
            have n1 : decide (la ≤ X) = false := decide_eq_false (by omega)
            have n2 : decide (lb ≤ Y) = false := decide_eq_false (by omega)
            clear gt3 heq gx1 gy1
            go_wp2_with fail
            go_quiet (fail)
            go_wp2_with fail
            go_quiet (fail)
            go_wp2_with fail
            go_quiet (fail)
            go_wp2_with fail
            go_roundw
            case rel => exact ⟨k + 1, _, by omega, by go_num, by first | rfl | rw [drewN_add, drewN_add, drewN_add]⟩
            case measure => simp [intOf]; omega
          · clear gt3
            go_wp2_with fail
            go_quiet (fail)
            go_wp2_with fail
            go_quiet (fail)
            go_wp2_with fail
            go_quiet (fail)
            go_wp2_with fail
            go_roundw
            case rel => exact ⟨k + 1, _, by omega, by go_num, by first | rfl | rw [drewN_add, drewN_add, drewN_add]⟩
            case measure => simp [intOf]; omega
          · clear gt3
            go_wp2_with fail
            go_quiet (fail)
            go_wp2_with fail
            go_quiet (fail)
            go_wp2_with fail
            go_quiet (fail)
            go_wp2_with fail
            go_roundw
            case rel => exact ⟨k + 1, _, by omega, by go_num, by first | rfl | rw [drewN_add, drewN_add, drewN_add]⟩
            case measure => simp [intOf]; omega
        · obtain rfl : k = p.length := by omega
          go_wp2_with fail
          go_ret
          exact ⟨rfl, below_drewN HW4.out n⟩
end Go.Proofs.Ytfemanblkmcglaa
