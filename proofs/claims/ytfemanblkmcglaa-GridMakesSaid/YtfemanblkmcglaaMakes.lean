/- GridMakes walked. -/
import Derived.Test.YtfemanblkmcglaaAwake
namespace Go.Proofs.Ytfemanblkmcglaa
open Go.RowKit Grid

theorem comes_mem {p : List Nat} {b : List ByteArray} {s : ByteArray} (h : s ∈ comes p b) : s ∈ b := by
  induction p generalizing b with
  | nil => unfold comes at h; cases h
  | cons k p ih =>
    unfold comes at h
    split at h
    · exact ih h
    · split at h
      · cases b with
        | nil => cases h
        | cons y b =>
          rcases List.mem_cons.1 h with rfl | h
          · exact List.mem_cons_self ..
          · exact List.mem_cons_of_mem _ (ih h)
      · exact (List.drop_sublist 1 b).subset (ih h)
theorem zero_eql (w : World) (t : TypeId) : (binOp .eql t (pv 0 0) (.complex .f64 0 0)).run Try.prog w = .ok (.bool true) w := by
  have h := pt_eql (P := Try.prog) w t (x := 0) (y := 0) (u := 0) (v := 0) (by omega) (by omega) (by omega) (by omega)
  rw [pv_zero] at h ⊢
  exact h
attribute [local go_sem 9000] zero_eql
set_option maxRecDepth 100000 in
set_option maxHeartbeats 4000000 in
theorem makes_any (a b : Option Addr) (la ca lb cb : Nat) (sa sb : List ByteArray) (w : World) (hA : Strs a la sa w) (hB : Strs b lb sb w) (hca : la ≤ ca) (hrA : ∀ s ∈ sa, s.size ≤ 140737488355328) (hrB : ∀ s ∈ sb, s.size ≤ 140737488355328) (hla : la ≤ 140737488355328) (hlb : lb ≤ 140737488355328) :
    Calls Try.prog 3 #[.slice a la ca, .slice b lb cb] w fun e w' => e = .returned (.bool true) ∧ Below w.heap.size w w' := by
  have HRA := Lib.hid hrA
  have HRB := Lib.hid hrB
  have HLA := Lib.hid hla
  have HLB := Lib.hid hlb
  have HCA := Lib.hid hca
  clear hrA hrB hla hlb hca
  go_enter Try.func3, Try.ntmps3
  go_wp2_with fail
  refine (awake_any _).mono ?_
  rintro e w1 ⟨rfl, hw1⟩
  have HA := Lib.hid (hA.below hw1)
  have HB := Lib.hid (hB.below hw1)
  have HW := Lib.hid hw1
  clear hA hB hw1
  dsimp only
  go_wp2_with fail
  refine (few_any a la ca sa _ HA.out (fun i _ => small_at HRA.out i) HLA.out).mono ?_
  rintro e w2 (⟨rfl, rfl⟩ | ⟨rfl, rfl, h60⟩)
  · dsimp only
    go_wp2_with fail
    go_ret
    exact ⟨rfl, HW.out⟩
  · dsimp only
    go_wp2_with fail
    refine (few_any b lb cb sb _ HB.out (fun i _ => small_at HRB.out i) HLB.out).mono ?_
    rintro e w2 (⟨rfl, rfl⟩ | ⟨rfl, rfl, h61⟩)
    · dsimp only
      go_wp2_with fail
      go_ret
      exact ⟨rfl, HW.out⟩
    · dsimp only
      have hla : (la : Int) ≤ 60 := by omega
      have hlb : (lb : Int) ≤ 60 := by omega
      have HNA := Lib.hid HA.out.count
      have HNB := Lib.hid HB.out.count
      go_wp2_with fail
      refine (path_any a b la ca lb cb sa sb _ HA.out HB.out (by omega) (by omega)).mono ?_
      rintro e w3 ⟨ao, cap, rfl, hP, hw3⟩
      have HA3 := Lib.hid (HA.out.below hw3)
      have HB3 := Lib.hid (HB.out.below hw3)
      have HW3 := Lib.hid (HW.out.trans (hw3.mono HW.out.size))
      have HG := Lib.hid (path_good sa sb)
      have hpl := path_le sa sb
      rw [← HNA.out, ← HNB.out] at hpl
      generalize path sa sb = p at hP HG hpl ⊢
      have hpl' : (p.length : Int) ≤ 120 := by omega
      have HP3 := Lib.hid hP
      have HM := Lib.hid (good_makes HG.out)
      have HCo := Lib.hid (good_comes HG.out)
      have HLe := Lib.hid (good_length HG.out)
      clear HA HB HW hP hw3
      dsimp only
      go_wp2_with fail
      refine (comes_any b ao lb cb p.length cap sb p _ HB3.out HP3.out (by omega) (by omega) (small_at HRB.out) (good_small HG.out) (by rw [good_ys HG.out]; exact Nat.le_refl _)).mono ?_
      rintro e w4 ⟨co, cc, rfl, hC, hcc, hw4⟩
      have HA4 := Lib.hid (HA3.out.below hw4)
      have HB4 := Lib.hid (HB3.out.below hw4)
      have HP4 := Lib.hid (HP3.out.below hw4)
      have HW4 := Lib.hid (HW3.out.trans (hw4.mono HW3.out.size))
      have HRC := Lib.hid (show ∀ s ∈ comes p sb, s.size ≤ 140737488355328 from fun s hs => HRB.out s (comes_mem hs))
      have hcl : (comes p sb).length ≤ 60 := by have := HCo.out; have := HNB.out; omega
      generalize comes p sb = k at hC hcc HM HCo HRC hcl ⊢
      have HC4 := Lib.hid hC
      have HCC := Lib.hid hcc
      clear HA3 HB3 HP3 HW3 hC hw4 hcc
      dsimp only
      go_wp2_with fail
      refine (apply_any a ao co la ca p.length cap k.length cc sa k p _ ⟨HA4.out, HCA.out, HRA.out, by omega⟩ HP4.out ⟨HC4.out, HCC.out, HRC.out, by omega⟩ (by omega) (good_small HG.out)).mono ?_
      intro e w5 h
      rw [HM.out] at h
      obtain ⟨ro, rc, rfl, hR, hw5⟩ := h
      have HA5 := Lib.hid (HA4.out.below hw5)
      have HB5 := Lib.hid (HB4.out.below hw5)
      have HP5 := Lib.hid (HP4.out.below hw5)
      have HW5 := Lib.hid (HW4.out.trans (hw5.mono HW4.out.size))
      have HR5 := Lib.hid hR
      clear HA4 HB4 HP4 HW4 HC4 hR hw5
      dsimp only
      go_wp2_with fail
      refine (points_any ao p.length cap p _ HP5.out (by omega)).mono ?_
      rintro e w6 ⟨qo, qc, rfl, hQ, hw6⟩
      have HB6 := Lib.hid (HB5.out.below hw6)
      have HP6 := Lib.hid (HP5.out.below hw6)
      have HR6 := Lib.hid (HR5.out.below hw6)
      have HW6 := Lib.hid (HW5.out.trans (hw6.mono HW5.out.size))
      have HQ6 := Lib.hid hQ
      clear HA5 HB5 HP5 HR5 HW5 hQ hw6
      dsimp only
      go_wp2_with fail
      refine (texts_any ro b sb.length _ lb cb sb sb _ HR6.out HB6.out (by have := HNB.out; omega) (by omega)).mono ?_
      rintro e w7 ⟨rfl, n, rfl⟩
      rw [show rowsAlike sb sb = true from decide_eq_true rfl]
      dsimp only
      have HPn := Lib.hid (show Steps ao p.length p (w6.drewN n) from ⟨HP6.out.count, HP6.out.cell⟩)
      have hS := fun w => fun hS : Steps ao p.length p w => same_any ao p.length cap p w hS (by omega)
      have HSame := Lib.hid hS
      clear hS
      obtain ⟨b1, o1, rfl, c1⟩ := HQ6.out.cell 0 (by omega)
      obtain ⟨b2, o2, hq2, c2⟩ := HQ6.out.cell p.length (by omega)
      injection hq2 with hq2; injection hq2 with e1 e2; subst e1; subst e2
      rw [List.take_length, good_xs HG.out, good_ys HG.out, ← HNA.out, ← HNB.out] at c2
      have c1 : w6.cell? ⟨b1, o1, none⟩ = some (pv 0 0) := c1
      have hend := fun w => pt_eql (P := Try.prog) w 34 (x := la) (y := lb) (u := la) (v := lb) (by omega) (by omega) (by omega) (by omega)
      have i1 := fun w => int_float w la
      have i2 := fun w => int_float w lb
      have hle := HLe.out
      have hco := HCo.out
      rw [← HNA.out, ← HNB.out] at hle
      rw [← HNB.out] at hco
      generalize p.count 0 = c0 at hle hco HSame
      have hc0 : (c0 : Int) ≤ 120 := by omega
      have q1 : ((p.length : Int) == (la : Int) + (lb : Int) - (c0 : Int)) = true := by rw [beq_iff_eq]; omega
      have q2 : ((k.length : Int) == (lb : Int) - (c0 : Int)) = true := by rw [beq_iff_eq]; omega
      have hk : (k.length : Int) ≤ 60 := by omega
      clear hle hco
      go_wp2_with (go_at_call 15; ((with_reducible refine (HSame.out _ HPn.out).mono ?_); rintro e w8 ⟨rfl, rfl⟩))
      go_ret
      exact ⟨rfl, below_drewN HW6.out n⟩
end Go.Proofs.Ytfemanblkmcglaa
