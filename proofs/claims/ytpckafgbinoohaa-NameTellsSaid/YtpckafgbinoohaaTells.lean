/- NameTells, walked. -/
import Derived.Test.YtpckafgbinoohaaBack
namespace Go.Proofs.Ytpckafgbinoohaa
set_option maxRecDepth 100000
open Go.RowKit
theorem vast_any (H : Names) (a b : ByteArray) (la : Option Addr) (ln lc : Nat) (w : World) (ha : a.size ≤ 140737488355328) (hb : b.size ≤ 140737488355328) (hl : ln ≤ 140737488355328) (hL : ¬ (a.size ≤ 500 ∧ b.size ≤ 500 ∧ ln ≤ 30)) : Calls Try.prog 3 #[.string a, .string b, .slice la ln lc] w (Yes w) := by
  have hai : (a.size : Int) ≤ 140737488355328 := by omega
  have hbi : (b.size : Int) ≤ 140737488355328 := by omega
  have hli : (ln : Int) ≤ 140737488355328 := by omega
  go_enter Try.func3, Try.ntmps3
  go_wp2_with fail
  refine (awake_any H _).mono ?_
  rintro e w1 ⟨rfl, hB1⟩
  dsimp only
  rcases Nat.lt_or_ge 500 a.size with h1 | h1
  · have g1 : (500 : Int) < (a.size : Int) := by omega
    clear hL
    go_wp2_with fail
    go_ret
    exact ⟨rfl, hB1⟩
  have g1 : (a.size : Int) ≤ 500 := by omega
  rcases Nat.lt_or_ge 500 b.size with h2 | h2
  · have g2 : (500 : Int) < (b.size : Int) := by omega
    clear hL
    go_wp2_with fail
    go_ret
    exact ⟨rfl, hB1⟩
  have g2 : (b.size : Int) ≤ 500 := by omega
  have g3 : (30 : Int) < (ln : Int) := by omega
  clear hL
  go_wp2_with fail
  go_ret
  exact ⟨rfl, hB1⟩
/-- Both splittings of one path. -/
theorem both (H : Names) (a : ByteArray) (w : World) (ha : a.size ≤ 500) : Calls Try.prog 7 #[.string a] w fun e w1 => ∃ v n, e = .returned (.tuple #[v, .int .i64 n]) ∧ Below w.heap.size w w1 ∧
    Calls Try.prog 8 #[.string a] w1 fun e w2 => ∃ u, e = .returned (.tuple #[u, .int .i64 n]) ∧ Below w1.heap.size w1 w2 ∧
      ∀ w', Below w2.heap.size w2 w' → Calls Try.prog 15 #[v, u] w' fun e w3 => e = .returned (.bool true) ∧ Below w'.heap.size w' w3 := by
  refine (H.split a w (by omega)).mono ?_
  intro e w1 hX
  cases hs : Nm.split a.data.toList with
  | none =>
    refine ⟨_, _, hX.no hs, hX.below, ?_⟩
    refine (refSplit_any a w1 (by omega)).mono ?_
    intro e w2 hY
    refine ⟨_, hY.no hs, hY.below, ?_⟩
    intro w' hb
    have hS : Strs none 0 [] w' := ⟨rfl, fun i hi => by omega⟩
    refine (texts_any none none 0 0 0 0 [] [] w' hS hS (by omega) (by omega)).mono ?_
    rintro e w3 ⟨rfl, n, rfl⟩
    exact ⟨by unfold rowsAlike; simp, below_draws (Below.refl _ _)⟩
  | some ns =>
    obtain ⟨ao, cap, rfl, hT⟩ := hX.yes ns hs
    have h8 := (split_shape hs).1
    have hS := trow_strs hT rfl
    refine ⟨_, _, rfl, hX.below, ?_⟩
    refine (refSplit_any a w1 (by omega)).mono ?_
    intro e w2 hY
    obtain ⟨ao2, cap2, rfl, hT2⟩ := hY.yes ns hs
    have hS2 := trow_strs hT2 rfl
    have hS := hS.below hY.below
    refine ⟨_, rfl, hY.below, ?_⟩
    intro w' hb
    refine (texts_any ao ao2 _ cap _ cap2 _ _ w' (hS.below hb) (hS2.below hb) (by omega) (by omega)).mono ?_
    rintro e w3 ⟨rfl, n, rfl⟩
    exact ⟨by unfold rowsAlike; simp, below_draws (Below.refl _ _)⟩
set_option maxHeartbeats 4000000 in
theorem tells_any (H : Names) (a b : ByteArray) (la : Option Addr) (ln lc : Nat) (ss : List ByteArray) (w : World) (ha : a.size ≤ 140737488355328) (hb : b.size ≤ 140737488355328) (hlc : ln ≤ lc) (h : Listed la ln ss w) : Calls Try.prog 3 #[.string a, .string b, .slice la ln lc] w (Yes w) := by
  by_cases hL : a.size ≤ 500 ∧ b.size ≤ 500 ∧ ln ≤ 30
  case neg => exact vast_any H a b la ln lc w ha hb h.few hL
  obtain ⟨h1, h2, h3⟩ := hL
  have HL := Lib.hid h
  have HC := Lib.hid (fun w' (hb : Below w.heap.size w w') k hk => (h.below hb).strs.cell k hk)
  have HSZ := Lib.hid (fun k (hk : k < ln) => h.size k (by rw [← h.strs.count]; exact hk))
  have HLC := Lib.hid hlc
  clear h ha hb hlc
  have g1 : (a.size : Int) ≤ 500 := by omega
  have g2 : (b.size : Int) ≤ 500 := by omega
  have g3 : (ln : Int) ≤ 30 := by omega
  go_enter Try.func3, Try.ntmps3
  go_wp2_with fail
  refine (awake_any H _).mono ?_
  rintro e w1 ⟨rfl, hB1⟩
  dsimp only
  have HB := Lib.hid hB1
  clear hB1
  go_wp2_with fail
  go_loop [7] (fun i => ∃ k : Nat, k ≤ ln ∧ i = .int .i64 (k : Int)) (fun i => ln - (intOf i).toNat)
  case atStart => exact ⟨0, Nat.zero_le _, rfl⟩
  case round =>
    obtain ⟨k, hk, rfl⟩ := hrel
    by_cases hlt : k < ln
    · have k0 : (k : Int) < (ln : Int) := by omega
      have hk0 : (0 : Int) ≤ (k : Int) := by omega
      obtain ⟨ba, off, rfl, hc⟩ := HC.out w1 HB.out k hlt
      have hy := HSZ.out k hlt
      generalize ss.getD k ByteArray.empty = y at hc hy
      have hyi : (y.size : Int) ≤ 140737488355328 := by omega
      rcases Nat.lt_or_ge 100 y.size with h | h
      · have g4 : (100 : Int) < (y.size : Int) := by omega
        go_wp2_with fail
        go_ret
        exact ⟨rfl, HB.out⟩
      · have g4 : (y.size : Int) ≤ 100 := by omega
        go_wp2_with fail
        go_round
        case rel => exact ⟨k + 1, by omega, by go_num⟩
        case measure => simp [intOf] <;> omega
    · obtain rfl : k = ln := by omega
      have hB1 := HB.out
      have HSB := Lib.hid (both H a w1 h1)
      go_wp2_with fail
      refine HSB.out.mono ?_
      rintro e w2 ⟨v, n, rfl, hB2, h8⟩
      have hB2 := hB1.trans (hB2.mono hB1.size)
      have H8 := Lib.hid h8
      clear hB1 h8 HSB HB HC HSZ
      dsimp only
      go_wp2_with fail
      refine H8.out.mono ?_
      rintro e w3 ⟨u, rfl, hB3, hT⟩
      have hB3 := hB2.trans (hB3.mono hB2.size)
      have HTX := Lib.hid (fun (w4 : World) (hb : Below w3.heap.size w3 w4) => hT w4 hb)
      clear hT hB2 H8
      have hQ3 := Below.refl w3.heap.size w3
      dsimp only
      have HJ1 := Lib.hid (fun (w' : World) (hb : Below w.heap.size w w') => jn H HLC.out (HL.out.below hb))
      have HJ2 := Lib.hid (fun (w' : World) (hb : Below w.heap.size w w') => refJoin_any la k lc ss w' (HL.out.below hb).strs HL.out.few HL.out.size)
      unfold JoinPost at HJ2
      generalize joinR (dat ss) = jr at HJ1 HJ2
      obtain ⟨js, jn⟩ := jr
      dsimp only at HJ1 HJ2
      generalize lstr js = jx at HJ1 HJ2
      clear HL
      go_wp2_with fail
      refine (HJ1.out _ hB3).mono ?_
      rintro e w4 ⟨rfl, hB4⟩
      have hQ4 := hQ3.trans (hB4.mono hQ3.size)
      have hB4 := hB3.trans (hB4.mono hB3.size)
      clear hB3 hQ3
      dsimp only
      clear HJ1
      go_wp2_with fail
      refine (HJ2.out _ hB4).mono ?_
      rintro e w5 ⟨rfl, hw5⟩
      subst hw5
      dsimp only
      have hB5 := hB4
      have hQ5 := hQ4
      clear hB4 hQ4
      clear HJ2
      have HP1 := Lib.hid (fun (w' : World) => H.parent a w' (by omega))
      have HP2 := Lib.hid (fun (w' : World) => refParent_any a w' (by omega))
      unfold ParentPost at HP1 HP2
      generalize parentR a.data.toList = pr at HP1 HP2
      obtain ⟨pp, pn, pe⟩ := pr
      dsimp only at HP1 HP2
      generalize lstr pp = px at HP1 HP2
      generalize lstr pn = nx at HP1 HP2
      go_wp2_with fail
      refine (HP1.out _).mono ?_
      rintro e w6 ⟨rfl, hB6⟩
      have hQ6 := hQ5.trans (hB6.mono hQ5.size)
      have hB6 := hB5.trans (hB6.mono hB5.size)
      clear hB5 hQ5
      dsimp only
      clear HP1
      go_wp2_with fail
      refine (HP2.out _).mono ?_
      rintro e w7 ⟨rfl, hB7⟩
      have hQ7 := hQ6.trans (hB7.mono hQ6.size)
      have hB7 := hB6.trans (hB7.mono hB6.size)
      clear hB6 hQ6
      dsimp only
      clear HP2
      have HR1 := Lib.hid (fun (w' : World) => H.right a w' (by omega))
      have HR2 := Lib.hid (fun (w' : World) => refRight_any a w' (by omega))
      unfold RightPost at HR2
      generalize Nm.right a.data.toList = rr at HR1 HR2
      have HW1 := Lib.hid (fun (w' : World) => H.within a b w' (by omega) (by omega))
      have HW2 := Lib.hid (fun (w' : World) => refWithin_any a b w' (by omega) (by omega))
      unfold WithinPost at HW1 HW2
      generalize Nm.within a.data.toList b.data.toList = wr at HW1 HW2
      go_wp2_with fail
      refine (HR1.out _).mono ?_
      rintro e w8 ⟨rfl, hB8⟩
      have hQ8 := hQ7.trans (hB8.mono hQ7.size)
      have hB8 := hB7.trans (hB8.mono hB7.size)
      clear hB7 hQ7
      dsimp only
      clear HR1
      go_wp2_with fail
      refine (HR2.out _).mono ?_
      rintro e w9 ⟨rfl, hw9⟩
      subst hw9
      dsimp only
      have hB9 := hB8
      have hQ9 := hQ8
      clear hB8 hQ8
      clear HR2
      go_wp2_with fail
      refine (HTX.out _ hQ9).mono ?_
      rintro e w10 ⟨rfl, hB10⟩
      have hQ10 := hQ9.trans (hB10.mono hQ9.size)
      have hB10 := hB9.trans (hB10.mono hB9.size)
      clear hB9 hQ9
      dsimp only
      clear HTX
      go_wp2_with fail
      refine (HW1.out _).mono ?_
      rintro e w11 ⟨rfl, hB11⟩
      have hQ11 := hQ10.trans (hB11.mono hQ10.size)
      have hB11 := hB10.trans (hB11.mono hB10.size)
      clear hB10 hQ10
      dsimp only
      clear HW1
      go_wp2_with fail
      refine (HW2.out _).mono ?_
      rintro e w12 ⟨rfl, hB12⟩
      have hQ12 := hQ11.trans (hB12.mono hQ11.size)
      have hB12 := hB11.trans (hB12.mono hB11.size)
      clear hB11 hQ11
      dsimp only
      clear HW2
      go_wp2_with fail
      go_ret
      exact ⟨rfl, hB12⟩
end Go.Proofs.Ytpckafgbinoohaa
