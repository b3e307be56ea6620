/- GridTurned walked. -/
import Derived.Test.YtfemanblkmcglaaAwake
namespace Go.Proofs.Ytfemanblkmcglaa
open Go.RowKit Grid
attribute [local go_sem 9000] sem_stralike

/-- Some text of the one row stands in the other. -/
def meets (sa sb : List ByteArray) : Bool := sa.any fun x => sb.any (alike x)
theorem meets_iff (sa sb : List ByteArray) : meets sa sb = true ↔ ∃ x, x ∈ sa ∧ x ∈ sb := by
  unfold meets
  rw [List.any_eq_true]
  constructor
  · rintro ⟨x, h1, h2⟩
    obtain ⟨y, h3, h4⟩ := List.any_eq_true.1 h2
    have h5 : x = y := of_decide_eq_true h4
    exact ⟨x, h1, h5 ▸ h3⟩
  · rintro ⟨x, h1, h2⟩
    exact ⟨x, h1, List.any_eq_true.2 ⟨x, h2, decide_eq_true rfl⟩⟩
def meetsAt (sa sb : List ByteArray) (k m : Nat) : Bool := meets (sa.take k) sb || (sb.take m).any (alike (sa.getD k ByteArray.empty))
theorem meets_step (sa sb : List ByteArray) {k : Nat} (h : k < sa.length) : meets (sa.take (k + 1)) sb = meetsAt sa sb k sb.length := by
  unfold meetsAt meets
  rw [List.take_succ_eq_append_getElem h, List.any_append, List.take_length, getD_at h, List.any_cons, List.any_nil, Bool.or_false]
theorem meetsAt_step (sa sb : List ByteArray) (k : Nat) {m : Nat} (h : m < sb.length) : meetsAt sa sb k (m + 1) = (meetsAt sa sb k m || alike (sa.getD k ByteArray.empty) (sb.getD m ByteArray.empty)) := by
  unfold meetsAt
  rw [List.take_succ_eq_append_getElem h, getD_at h, Bool.or_assoc, List.any_append, List.any_cons, List.any_nil, Bool.or_false]
theorem meetsAt_zero (sa sb : List ByteArray) (k : Nat) : meetsAt sa sb k 0 = meets (sa.take k) sb := by
  unfold meetsAt
  rw [List.take_zero, List.any_nil, Bool.or_false]
theorem meets_lcs (sa sb : List ByteArray) : meets sa sb = decide (0 < lcs sa sb) := by
  rw [Bool.eq_iff_iff, decide_eq_true_eq, meets_iff, lcs_pos]
theorem path_count (sa sb : List ByteArray) : (path sa sb).count 0 = lcs sa sb := path_stays sa sb

set_option maxRecDepth 100000 in
set_option maxHeartbeats 8000000 in
theorem turned_any (a b : Option Addr) (la ca lb cb : Nat) (sa sb : List ByteArray) (w : World) (hA : Strs a la sa w) (hB : Strs b lb sb w) (hrA : ∀ s ∈ sa, s.size ≤ 140737488355328) (hrB : ∀ s ∈ sb, s.size ≤ 140737488355328) (hla : la ≤ 140737488355328) (hlb : lb ≤ 140737488355328) :
    Calls Try.prog 4 #[.slice a la ca, .slice b lb cb] w fun e w' => e = .returned (.bool true) ∧ Below w.heap.size w w' := by
  have HRA := Lib.hid hrA
  have HRB := Lib.hid hrB
  have HLA := Lib.hid hla
  have HLB := Lib.hid hlb
  clear hrA hrB hla hlb
  go_enter Try.func4, Try.ntmps4
  go_wp2_with fail
  refine (awake_any _).mono ?_
  rintro e w1 ⟨rfl, hw1⟩
  have HA := Lib.hid (hA.below hw1)
  have HB := Lib.hid (hB.below hw1)
  have HW := Lib.hid hw1
  clear hA hB hw1
  dsimp only
  go_wp2_with fail
  refine (few_any a la ca sa _ HA.out (fun i _ => small_at HRA.out i) HLA.out).mono ?_
  rintro e w2 (⟨rfl, rfl⟩ | ⟨rfl, rfl, h60⟩)
  · dsimp only
    go_wp2_with fail
    go_ret
    exact ⟨rfl, HW.out⟩
  · dsimp only
    go_wp2_with fail
    refine (few_any b lb cb sb _ HB.out (fun i _ => small_at HRB.out i) HLB.out).mono ?_
    rintro e w2 (⟨rfl, rfl⟩ | ⟨rfl, rfl, h61⟩)
    · dsimp only
      go_wp2_with fail
      go_ret
      exact ⟨rfl, HW.out⟩
    · dsimp only
      have hla : (la : Int) ≤ 60 := by omega
      have hlb : (lb : Int) ≤ 60 := by omega
      have HNA := Lib.hid HA.out.count
      have HNB := Lib.hid HB.out.count
      go_wp2_with fail
      refine (path_any a b la ca lb cb sa sb _ HA.out HB.out (by omega) (by omega)).mono ?_
      rintro e w3 ⟨ao, cap, rfl, hP, hw3⟩
      have HA3 := Lib.hid (HA.out.below hw3)
      have HB3 := Lib.hid (HB.out.below hw3)
      have HW3 := Lib.hid (HW.out.trans (hw3.mono HW.out.size))
      have hpl := path_le sa sb
      rw [← HNA.out, ← HNB.out] at hpl
      have HC1 := Lib.hid (path_count sa sb)
      generalize path sa sb = p at hP hpl HC1 ⊢
      have HP3 := Lib.hid hP
      clear HA HB HW hP hw3
      dsimp only
      go_wp2_with fail
      refine (path_any b a lb cb la ca sb sa _ HB3.out HA3.out (by omega) (by omega)).mono ?_
      rintro e w4 ⟨ao4, cap4, rfl, hP4, hw4⟩
      have HA4 := Lib.hid (HA3.out.below hw4)
      have HB4 := Lib.hid (HB3.out.below hw4)
      have HP4 := Lib.hid (HP3.out.below hw4)
      have HW4 := Lib.hid (HW3.out.trans (hw4.mono HW3.out.size))
      have hql := path_le sb sa
      rw [← HNA.out, ← HNB.out] at hql
      have HC2 := Lib.hid (path_count sb sa)
      generalize path sb sa = q at hP4 hql HC2 ⊢
      have HQ4 := Lib.hid hP4
      clear HA3 HB3 HW3 HP3 hP4 hw4
      dsimp only
      go_wp2_with fail
      refine (path_any a a la ca la ca sa sa _ HA4.out HA4.out (by omega) (by omega)).mono ?_
      rintro e w5 ⟨ao5, cap5, rfl, hP5, hw5⟩
      have HA5 := Lib.hid (HA4.out.below hw5)
      have HB5 := Lib.hid (HB4.out.below hw5)
      have HP5 := Lib.hid (HP4.out.below hw5)
      have HQ5 := Lib.hid (HQ4.out.below hw5)
      have HW5 := Lib.hid (HW4.out.trans (hw5.mono HW4.out.size))
      have hrl := path_le sa sa
      rw [← HNA.out] at hrl
      have HC3 := Lib.hid (path_count sa sa)
      have HL3 := Lib.hid (good_length (path_good sa sa))
      generalize path sa sa = r at hP5 hrl HC3 HL3 ⊢
      have HR5 := Lib.hid hP5
      clear HA4 HB4 HW4 HP4 HQ4 hP5 hw5
      dsimp only
      go_wp2_with fail
      go_loopw [11, 12] (fun c i wr => ∃ k n : Nat, k ≤ la ∧ i = .int .i64 k ∧ c = .bool (meets (sa.take k) sb) ∧ wr = w5.drewN n) (fun _ i _ => la - (intOf i).toNat)
      case atStart => exact ⟨0, 0, Nat.zero_le _, rfl, rfl, rfl⟩
      case round =>
        obtain ⟨k, n, hk, rfl, rfl, rfl⟩ := hrel
        by_cases hlt : k < la
        · obtain ⟨b1, o1, rfl, c1⟩ := HA5.out.cell k hlt
          have k1 : (k : Int) < (la : Int) := by omega
          have HZ := Lib.hid (meetsAt_zero sa sb k)
          have HS := Lib.hid (meets_step sa sb (k := k) (by rw [← HNA.out]; exact hlt))
          rw [← HZ.out]
          go_wp2_with fail
          go_loopw [11, 13] (fun c i wr => ∃ m n : Nat, m ≤ lb ∧ i = .int .i64 m ∧ c = .bool (meetsAt sa sb k m) ∧ wr = w5.drewN n) (fun _ i _ => lb - (intOf i).toNat)
          case atStart => exact ⟨0, n, Nat.zero_le _, rfl, rfl, rfl⟩
          case round =>
            obtain ⟨m, n', hm, rfl, rfl, rfl⟩ := hrel
            by_cases hlm : m < lb
            · obtain ⟨b2, o2, rfl, c2⟩ := HB5.out.cell m hlm
              have m1 : (m : Int) < (lb : Int) := by omega
              have HN := Lib.hid (meetsAt_step sa sb k (m := m) (by rw [← HNB.out]; exact hlm))
              generalize sa.getD k ByteArray.empty = x at c1 HN
              generalize sb.getD m ByteArray.empty = y at c2 HN
              cases hc : meetsAt sa sb k m with
              | true =>
                rw [hc] at HN
                go_wp2_with fail
                go_quiet (fail)
                go_wp2_with fail
                go_roundw
                case rel => exact ⟨m + 1, _, by omega, by go_num, by rw [HN.out]; rfl, by first | rfl | rw [drewN_add]⟩
                case measure => simp [intOf]; omega
              | false =>
                rw [hc] at HN
                go_wp2_with fail
                go_quiet (fail)
                go_wp2_with fail
                go_roundw
                case rel => exact ⟨m + 1, _, by omega, by go_num, by rw [HN.out, Bool.false_or], by first | rfl | rw [drewN_add]⟩
                case measure => simp [intOf]; omega
            · obtain rfl : m = lb := by omega
              go_wp2_with fail
              go_roundw
              case rel => exact ⟨k + 1, n', by omega, by go_num, by rw [HS.out, HNB.out], rfl⟩
              case measure => simp [intOf]; omega
        · obtain rfl : k = la := by omega
          have HE := Lib.hid (show meets (sa.take k) sb = decide (0 < lcs sa sb) from by rw [HNA.out, List.take_length, meets_lcs])
          have hq : q.count 0 = lcs sa sb := HC2.out.trans (lcs_comm _ _)
          have hr : r.count 0 = k := HC3.out.trans ((lcs_self _).trans HNA.out.symm)
          have hl : r.length = k := by have := HL3.out; have := HNA.out; omega
          have hp := HC1.out
          have hL1 := lcs_le_left sa sb
          rw [← HNA.out] at hL1
          have S1 := Lib.hid (fun w (h : Steps ao p.length p w) => same_any ao p.length cap p w h (by omega))
          have S2 := Lib.hid (fun w (h : Steps ao4 q.length q w) => same_any ao4 q.length cap4 q w h (by omega))
          have S3 := Lib.hid (fun w (h : Steps ao5 r.length r w) => same_any ao5 r.length cap5 r w h (by omega))
          rw [hp] at S1
          rw [hq] at S2
          rw [hr] at S3
          have HP := Lib.hid (show Steps ao p.length p (w5.drewN n) from ⟨HP5.out.count, HP5.out.cell⟩)
          have HQ := Lib.hid (show Steps ao4 q.length q (w5.drewN n) from ⟨HQ5.out.count, HQ5.out.cell⟩)
          have HR := Lib.hid (show Steps ao5 r.length r (w5.drewN n) from ⟨HR5.out.count, HR5.out.cell⟩)
          rw [HE.out]
          clear HE HC1 HC2 HC3 HL3 hp hq hr
          rw [hl] at S3 HR ⊢
          generalize lcs sa sb = L at S1 S2 hL1 ⊢
          have hLi : (L : Int) ≤ 60 := by omega
          rcases Nat.eq_zero_or_pos L with h0 | h0
          · subst h0
            rw [show decide ((0 : Nat) < 0) = false from rfl]
            go_wp2_with (go_at_call 15; first
              | ((with_reducible refine (S1.out _ HP.out).mono ?_); rintro e w8 ⟨rfl, rfl⟩)
              | ((with_reducible refine (S2.out _ HQ.out).mono ?_); rintro e w8 ⟨rfl, rfl⟩)
              | ((with_reducible refine (S3.out _ HR.out).mono ?_); rintro e w8 ⟨rfl, rfl⟩))
            go_ret
            exact ⟨rfl, below_drewN HW5.out n⟩
          · rw [show decide (0 < L) = true from decide_eq_true h0]
            have hL0 : (0 : Int) < (L : Int) := by omega
            go_wp2_with (go_at_call 15; first
              | ((with_reducible refine (S1.out _ HP.out).mono ?_); rintro e w8 ⟨rfl, rfl⟩)
              | ((with_reducible refine (S2.out _ HQ.out).mono ?_); rintro e w8 ⟨rfl, rfl⟩)
              | ((with_reducible refine (S3.out _ HR.out).mono ?_); rintro e w8 ⟨rfl, rfl⟩))
            go_ret
            exact ⟨rfl, below_drewN HW5.out n⟩
end Go.Proofs.Ytfemanblkmcglaa
