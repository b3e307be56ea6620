/- GridLongest walked. -/
import Derived.Test.YtfemanblkmcglaaLaid
import Derived.BigQuiet
namespace Go.Proofs.Ytfemanblkmcglaa
open Go.RowKit Grid

set_option maxRecDepth 100000 in
set_option maxHeartbeats 8000000 in
theorem longest_any (ac pa pb am : Option Addr) (lc cc la ca lb cb lm cm : Nat) (cs ms : List ByteArray) (na nb : List Nat) (w : World) (hC : Strs ac lc cs w) (hM : Strs am lm ms w) (hA : Bts pa la na w) (hB : Bts pb lb nb w) (hrC : ∀ s ∈ cs, s.size ≤ 140737488355328) (hrM : ∀ s ∈ ms, s.size ≤ 140737488355328) (hlc : lc ≤ 140737488355328) (hlm : lm ≤ 140737488355328) (hla : la ≤ 140737488355328) (hlb : lb ≤ 140737488355328) :
    Calls Try.prog 5 #[.slice ac lc cc, .slice pa la ca, .slice pb lb cb, .slice am lm cm] w fun e w' => e = .returned (.bool true) ∧ Below w.heap.size w w' := by
  have HRC := Lib.hid (small_at hrC)
  have HRM := Lib.hid (small_at hrM)
  have HLC := Lib.hid hlc
  have HLM := Lib.hid hlm
  have hla' : (la : Int) ≤ 140737488355328 := by omega
  have hlb' : (lb : Int) ≤ 140737488355328 := by omega
  have b0 := (Below.refl w.heap.size w).alloc (Nat.le_refl _) (.cells #[.slice ac lc cc] 22)
  have b1 := b0.alloc b0.size (.cells #[.slice am lm cm] 22)
  have c0 : ((w.alloc (.cells #[.slice ac lc cc] 22)).alloc (.cells #[.slice am lm cm] 22)).cell? ⟨w.heap.size, 0, none⟩ = some (.slice ac lc cc) := by simp
  have c1 : ((w.alloc (.cells #[.slice ac lc cc] 22)).alloc (.cells #[.slice am lm cm] 22)).cell? ⟨w.heap.size + 1, 0, none⟩ = some (.slice am lm cm) := by simp
  have HC := Lib.hid (hC.below b1)
  have HM := Lib.hid (hM.below b1)
  have HA := Lib.hid (hA.below b1)
  have HB := Lib.hid (hB.below b1)
  have H0 := Lib.hid c0
  have H1 := Lib.hid c1
  have HW := Lib.hid b1
  clear hrC hrM hlc hlm b0 b1 c0 c1 hC hM hA hB
  go_enter Try.func5, Try.ntmps5
  go_wp2_with fail
  generalize w.heap.size + 1 = g1 at H1 ⊢
  generalize ((w.alloc (.cells #[.slice ac lc cc] 22)).alloc (.cells #[.slice am lm cm] 22)) = w0 at HC HM HA HB H0 H1 HW ⊢
  refine (awake_any _).mono ?_
  rintro e w1 ⟨rfl, hw1⟩
  have HC1 := Lib.hid (HC.out.below hw1)
  have HM1 := Lib.hid (HM.out.below hw1)
  have HA1 := Lib.hid (HA.out.below hw1)
  have HB1 := Lib.hid (HB.out.below hw1)
  have hc0 := (hw1.cell (p := ⟨w.heap.size, 0, none⟩) (block_lt_of_cell H0.out)).trans H0.out
  have hc1 := (hw1.cell (p := ⟨g1, 0, none⟩) (block_lt_of_cell H1.out)).trans H1.out
  have HW1 := Lib.hid (HW.out.trans (hw1.mono HW.out.size))
  clear HC HM HA HB H0 H1 HW hw1
  dsimp only
  go_wp2_with fail
  refine (few_any ac lc cc cs _ HC1.out (fun i _ => HRC.out i) HLC.out).mono ?_
  rintro e w2 (⟨rfl, rfl⟩ | ⟨rfl, rfl, h60⟩)
  · dsimp only
    go_wp2_with fail
    go_ret
    exact ⟨rfl, HW1.out⟩
  · dsimp only
    go_wp2_with fail
    refine (few_any am lm cm ms _ HM1.out (fun i _ => HRM.out i) HLM.out).mono ?_
    rintro e w2 (⟨rfl, rfl⟩ | ⟨rfl, rfl, h61⟩)
    · dsimp only
      go_wp2_with fail
      go_ret
      exact ⟨rfl, HW1.out⟩
    · dsimp only
      by_cases h1 : la ≤ 30
      · have h1' : (la : Int) ≤ 30 := by omega
        by_cases h2 : lb ≤ 30
        · have h2' : (lb : Int) ≤ 30 := by omega
          by_cases h3 : lc ≤ 30
          · have h3' : (lc : Int) ≤ 30 := by omega
            go_wp2_with fail
            refine (laid_any pa ac am la ca lc cc lm cm w.heap.size g1 na cs ms _ HA1.out HC1.out HM1.out hc0 hc1 h1 h3 h61).mono ?_
            rintro e w2 ⟨ra, ra_, rac, rfl, hRA, hsa, hra, hw2⟩
            have HC2 := Lib.hid (HC1.out.below hw2)
            have HM2 := Lib.hid (HM1.out.below hw2)
            have HB2 := Lib.hid (HB1.out.below hw2)
            have hd0 := (hw2.cell (p := ⟨w.heap.size, 0, none⟩) (block_lt_of_cell hc0)).trans hc0
            have hd1 := (hw2.cell (p := ⟨g1, 0, none⟩) (block_lt_of_cell hc1)).trans hc1
            have HW2 := Lib.hid (HW1.out.trans (hw2.mono HW1.out.size))
            have HRA2 := Lib.hid hRA
            have HSA := Lib.hid hsa
            clear HC1 HM1 HA1 HB1 HW1 hc0 hc1 hw2 hRA hsa
            dsimp only
            go_wp2_with fail
            refine (laid_any pb ac am lb cb lc cc lm cm w.heap.size g1 nb cs ms _ HB2.out HC2.out HM2.out hd0 hd1 h2 h3 h61).mono ?_
            rintro e w3 ⟨rb, rb_, rbc, rfl, hRB, hsb, hrb, hw3⟩
            have HRA3 := Lib.hid (HRA2.out.below hw3)
            have hf0 := (hw3.cell (p := ⟨w.heap.size, 0, none⟩) (block_lt_of_cell hd0)).trans hd0
            have HW3 := Lib.hid (HW2.out.trans (hw3.mono HW2.out.size))
            have HRB3 := Lib.hid hRB
            have HSB := Lib.hid hsb
            have HCnt := Lib.hid HC2.out.count
            clear HC2 HM2 HB2 HW2 HRA2 hd0 hd1 hw3 hRB hsb
            dsimp only
            go_wp2_with fail
            refine (path_any ra_ rb_ ra.length rac rb.length rbc ra rb _ HRA3.out HRB3.out (by omega) (by omega)).mono ?_
            rintro e w4 ⟨ao, cap, rfl, hP, hw4⟩
            have hg0 := (hw4.cell (p := ⟨w.heap.size, 0, none⟩) (block_lt_of_cell hf0)).trans hf0
            have HW4 := Lib.hid (HW3.out.trans (hw4.mono HW3.out.size))
            have hpl := path_le ra rb
            have hst := path_stays ra rb
            have hmost := lcs_most HSA.out HSB.out
            rw [← HCnt.out, ← hst] at hmost
            clear hst
            generalize path ra rb = p at hP hpl hmost ⊢
            have HS := Lib.hid (fun n => (same_any ao p.length cap p (w4.drewN n) ⟨hP.count, hP.cell⟩ (by omega)).mono (R' := fun e w' => e = .returned (.int .i64 (p.count 0 : Nat)) ∧ w' = w4.drewN n) (fun _ _ h => ⟨h.1, h.2.symm⟩))
            have hpl' : p.length ≤ 120 := by omega
            generalize p.count 0 = L at HS hmost
            have hL : (lc : Int) ≤ (L : Int) := by omega
            clear hf0 hw4 HW3 HRA3 HRB3 hpl hP
            dsimp only
            go_wp2_with fail
            go_quiet (first | (go_at_call 15; refine Calls.quiet_of_same (HS.out _)))
            go_wp2_with fail
            go_ret
            exact ⟨rfl, below_drewN HW4.out _⟩
          · have h3' : (30 : Int) < (lc : Int) := by omega
            go_wp2_with fail
            go_ret
            exact ⟨rfl, HW1.out⟩
        · have h2' : (30 : Int) < (lb : Int) := by omega
          go_wp2_with fail
          go_ret
          exact ⟨rfl, HW1.out⟩
      · have h1' : (30 : Int) < (la : Int) := by omega
        go_wp2_with fail
        go_ret
        exact ⟨rfl, HW1.out⟩
end Go.Proofs.Ytfemanblkmcglaa
