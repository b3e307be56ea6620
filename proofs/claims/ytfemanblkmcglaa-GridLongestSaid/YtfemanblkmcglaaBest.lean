/- The step of a point. -/
import Derived.Test.YtfemanblkmcglaaMost
import Derived.Test.YtfemanblkmcglaaTexts
namespace Go.Proofs.Ytfemanblkmcglaa
open Go.RowKit Grid
attribute [local go_sem 9000] sem_stralike sem_strnot

/-- The best step from a place. -/
def nxt (sa sb : List ByteArray) (x y : Nat) : Nat :=
  if x < sa.length ∧ y < sb.length ∧ sa.getD x ByteArray.empty = sb.getD y ByteArray.empty then 0 else if x < sa.length ∧ at_ sa sb (x + 1) y = at_ sa sb x y then 1 else 2
theorem nxt_path {sa sb : List ByteArray} {x y : Nat} (hx : x ≤ sa.length) (hy : y ≤ sb.length) (hne : ¬ (x = sa.length ∧ y = sb.length)) :
    path_at sa sb x y = nxt sa sb x y :: path_at sa sb (x + gx (nxt sa sb x y)) (y + gy (nxt sa sb x y)) ∧ x + gx (nxt sa sb x y) ≤ sa.length ∧ y + gy (nxt sa sb x y) ≤ sb.length ∧ nxt sa sb x y < 3 := by
  unfold nxt
  by_cases h1 : x < sa.length ∧ y < sb.length ∧ sa.getD x ByteArray.empty = sb.getD y ByteArray.empty
  · rw [if_pos h1]
    obtain ⟨a1, a2, a3⟩ := h1
    exact ⟨path_stay a1 a2 (by rw [getD_get a1, getD_get a2] at a3; exact a3), a1, a2, by decide⟩
  · rw [if_neg h1]
    by_cases h2 : x < sa.length
    · by_cases h3 : y < sb.length
      · have hd : sa[x] ≠ sb[y] := fun e => h1 ⟨h2, h3, by rw [getD_get h2, getD_get h3]; exact e⟩
        have ho := at_other h2 h3 hd
        by_cases h4 : at_ sa sb (x + 1) y = at_ sa sb x y
        · rw [if_pos ⟨h2, h4⟩]
          exact ⟨path_goes h2 fun _ => ⟨fun _ => hd, by omega⟩, h2, hy, by decide⟩
        · rw [if_neg (fun h => h4 h.2)]
          exact ⟨path_comes h3 fun _ => ⟨fun _ => hd, by omega⟩, hx, h3, by decide⟩
      · have e1 := at_right (a := sa) (x + 1) (Nat.le_of_not_lt h3)
        have e2 := at_right (a := sa) x (Nat.le_of_not_lt h3)
        rw [if_pos ⟨h2, by rw [e1, e2]⟩]
        exact ⟨path_goes h2 fun h => absurd h h3, h2, hy, by decide⟩
    · have h3 : y < sb.length := by omega
      rw [if_neg (fun h => h2 h.1)]
      exact ⟨path_comes h3 fun h => absurd h h2, hx, h3, by decide⟩

set_option maxRecDepth 100000 in
set_option maxHeartbeats 1000000 in
theorem best_any (a b : Option Addr) (la ca lb cb g x y : Nat) (sa sb : List ByteArray) (w : World) (hA : Strs a la sa w) (hB : Strs b lb sb w) (hT : Tab g (at_ sa sb) w) (hla : la ≤ 256) (hlb : lb ≤ 256) (hx : x ≤ la) (hy : y ≤ lb) (hne : ¬ (x = la ∧ y = lb)) :
    Calls Try.prog 18 #[.slice a la ca, .slice b lb cb, .pointer (some ⟨g, 0, none⟩), pv x y] w fun e w' => e = .returned (sv (nxt sa sb x y)) ∧ ∃ n, w' = w.drewN n := by
  have hl1 : (la : Int) ≤ 256 := by omega
  have hl2 : (lb : Int) ≤ 256 := by omega
  have f1 := fun w => float_int (n := x) w (by omega)
  have f2 := fun w => float_int (n := y) w (by omega)
  have hcA := hA.count
  have hcB := hB.count
  by_cases h1 : x < la
  · have h1' : (x : Int) < (la : Int) := by omega
    have h10 := hT.cell (x + 1) y (by omega) (by omega)
    have h00 := hT.cell x y (by omega) (by omega)
    obtain ⟨b1, o1, rfl, hc1⟩ := hA.cell x h1
    by_cases h2 : y < lb
    · have h2' : (y : Int) < (lb : Int) := by omega
      obtain ⟨b2, o2, rfl, hc2⟩ := hB.cell y h2
      by_cases he : sa.getD x ByteArray.empty = sb.getD y ByteArray.empty
      · have HN := Lib.hid (show nxt sa sb x y = 0 from by unfold nxt; rw [if_pos ⟨by omega, by omega, he⟩])
        have ha : alike (sa.getD x ByteArray.empty) (sb.getD y ByteArray.empty) = true := decide_eq_true he
        rw [HN.out]
        generalize sa.getD x ByteArray.empty = u at hc1 ha he
        generalize sb.getD y ByteArray.empty = v at hc2 ha he
        clear he hcA hcB hne
        go_enter Try.func18, Try.ntmps18
        go_wp2_with fail
        go_quiet (fail)
        go_wp2_with fail
        go_ret
        exact ⟨rfl, _, rfl⟩
      · have ha : alike (sa.getD x ByteArray.empty) (sb.getD y ByteArray.empty) = false := decide_eq_false he
        have hg : ¬ (x < sa.length ∧ y < sb.length ∧ sa.getD x ByteArray.empty = sb.getD y ByteArray.empty) := fun h => he h.2.2
        generalize sa.getD x ByteArray.empty = u at hc1 ha
        generalize sb.getD y ByteArray.empty = v at hc2 ha
        have x1 : (x : Int) + 1 < 257 := by omega
        have y2 : (y : Int) < 257 := by omega
        have x2 : (x : Int) < 257 := by omega
        have x3 : (0 : Int) ≤ (x : Int) + 1 := by omega
        by_cases h4 : at_ sa sb (x + 1) y = at_ sa sb x y
        · have HN := Lib.hid (show nxt sa sb x y = 1 from by unfold nxt; rw [if_neg (fun h => he h.2.2), if_pos ⟨by omega, h4⟩])
          rw [h4] at h10
          generalize at_ sa sb x y = n at h10 h00
          rw [HN.out]
          clear he hcA hcB hne h4 hg hT
          have xw : IntKind.i64.wrap ((x : Int) + 1) = (x : Int) + 1 := IntWalk.i64_in _ (by omega)
          have xt : ((x : Int) + 1).toNat = x + 1 := by omega
          go_enter Try.func18, Try.ntmps18
          go_wp2_with fail
          go_quiet (fail)
          go_wp2_with fail
          go_quiet (fail)
          go_wp2_with fail
          go_ret
          exact ⟨rfl, _, drewN_add _ _ _⟩
        · have HN := Lib.hid (show nxt sa sb x y = 2 from by unfold nxt; rw [if_neg (fun h => he h.2.2), if_neg (fun h => h4 h.2)])
          have h5 : ¬ (at_ sa sb (x + 1) y : Int) = (at_ sa sb x y : Int) := by omega
          generalize at_ sa sb x y = n at h10 h00 h5
          generalize at_ sa sb (x + 1) y = m at h10 h00 h5
          rw [HN.out]
          clear he hcA hcB hne h4 hg hT
          have xw : IntKind.i64.wrap ((x : Int) + 1) = (x : Int) + 1 := IntWalk.i64_in _ (by omega)
          have xt : ((x : Int) + 1).toNat = x + 1 := by omega
          go_enter Try.func18, Try.ntmps18
          go_wp2_with fail
          go_quiet (fail)
          go_wp2_with fail
          go_quiet (fail)
          go_wp2_with fail
          go_ret
          exact ⟨rfl, _, drewN_add _ _ _⟩
    · have h2' : ¬ (y : Int) < (lb : Int) := by omega
      have e1 := at_right (a := sa) (b := sb) (x + 1) (y := y) (by omega)
      have e2 := at_right (a := sa) (b := sb) x (y := y) (by omega)
      have HN := Lib.hid (show nxt sa sb x y = 1 from by unfold nxt; rw [if_neg (fun h => by omega), if_pos ⟨by omega, by rw [e1, e2]⟩])
      rw [e1] at h10
      rw [e2] at h00
      rw [HN.out]
      have x1 : (x : Int) + 1 < 257 := by omega
      have y2 : (y : Int) < 257 := by omega
      have x2 : (x : Int) < 257 := by omega
      have x3 : (0 : Int) ≤ (x : Int) + 1 := by omega
      clear hcA hcB hne hT e1 e2
      have xw : IntKind.i64.wrap ((x : Int) + 1) = (x : Int) + 1 := IntWalk.i64_in _ (by omega)
      have xt : ((x : Int) + 1).toNat = x + 1 := by omega
      go_enter Try.func18, Try.ntmps18
      go_wp2_with fail
      go_quiet (fail)
      go_wp2_with fail
      go_quiet (fail)
      go_wp2_with fail
      go_ret
      exact ⟨rfl, _, drewN_add _ _ _⟩
  · have h1' : ¬ (x : Int) < (la : Int) := by omega
    have h2' : (y : Int) < (lb : Int) := by omega
    have HN := Lib.hid (show nxt sa sb x y = 2 from by unfold nxt; rw [if_neg (fun h => by omega), if_neg (fun h => by omega)])
    rw [HN.out]
    clear hcA hcB hne hT
    go_enter Try.func18, Try.ntmps18
    go_wp2_with fail
    go_quiet (fail)
    go_wp2_with fail
    go_quiet (fail)
    go_wp2_with fail
    go_ret
    exact ⟨rfl, _, drewN_add _ _ _⟩
end Go.Proofs.Ytfemanblkmcglaa
