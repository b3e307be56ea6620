/- The program's Within: slices.Equal of a beginning. -/
import Derived.Test.YtpckafgbinoohaaParent
import Derived.Test.YtpckafgbinoohaaTexts
import Derived.Test.YtpckafgbinoohaaAwake
namespace Go.Proofs.Ytpckafgbinoohaa
set_option maxRecDepth 100000
open Go.RowKit
attribute [local go_sem 9000] sem_stralike sem_strnot
set_option maxRecDepth 100000 in
set_option maxHeartbeats 1000000 in
theorem equal_any (a b : Option Addr) (la ca lb cb : Nat) (sa sb : List ByteArray) (w : World) (hA : Strs a la sa w) (hB : Strs b lb sb w) (hla : la ≤ 140737488355328) (hlb : lb ≤ 140737488355328) :
    Calls Try.prog 25 #[.slice a la ca, .slice b lb cb] w fun e w' => e = .returned (.bool (rowsAlike sa sb)) ∧ ∃ n, w' = w.drewN n := by
  have hl1 : (la : Int) ≤ 140737488355328 := by omega
  have hl2 : (lb : Int) ≤ 140737488355328 := by omega
  by_cases hne : la = lb
  · subst hne
    go_enter Try.func25, Try.ntmps25
    go_wp2
    go_loopw [13] (fun i wr => ∃ k n : Nat, k ≤ la ∧ i = .int .i64 k ∧ wr = w.drewN n ∧ ∀ i, i < k → sa.getD i ByteArray.empty = sb.getD i ByteArray.empty) (fun i _ => la - (intOf i).toNat)
    case atStart => exact ⟨0, 0, by omega, rfl, rfl, fun i hi => by omega⟩
    case round =>
      obtain ⟨k, n, hk, rfl, rfl, hall⟩ := hrel
      have HA := Lib.hid hall
      clear hall
      by_cases hlt : k < la
      · obtain ⟨b1, o1, rfl, hc1⟩ := hA.cell k hlt
        obtain ⟨b2, o2, rfl, hc2⟩ := hB.cell k hlt
        have hk0 : (k : Int) < (la : Int) := by omega
        by_cases he : sa.getD k ByteArray.empty = sb.getD k ByteArray.empty
        · have HN := Lib.hid (show ∀ i, i < k + 1 → sa.getD i ByteArray.empty = sb.getD i ByteArray.empty from fun i hi => by
            rcases Nat.lt_or_ge i k with h | h
            · exact HA.out i h
            · obtain rfl : i = k := by omega
              exact he)
          have ha : alike (sa.getD k ByteArray.empty) (sb.getD k ByteArray.empty) = true := decide_eq_true he
          generalize sa.getD k ByteArray.empty = x at hc1 ha
          generalize sb.getD k ByteArray.empty = y at hc2 ha
          clear he
          go_wp2_with fail
          go_quiet (fail)
          go_wp2_with fail
          go_roundw
          case rel => exact ⟨k + 1, _, by omega, by go_num, rfl, HN.out⟩
          case measure => simp [intOf]; omega
        · have HD := Lib.hid (show rowsAlike sa sb = false from decide_eq_false fun e => he (by rw [e]))
          have ha : alike (sa.getD k ByteArray.empty) (sb.getD k ByteArray.empty) = false := decide_eq_false he
          generalize sa.getD k ByteArray.empty = x at hc1 ha
          generalize sb.getD k ByteArray.empty = y at hc2 ha
          clear he
          go_wp2_with fail
          go_quiet (fail)
          go_wp2_with fail
          go_ret
          exact ⟨ret_bool HD.out, _, drewN_add _ _ _⟩
      · obtain rfl : k = la := by omega
        have HD := Lib.hid (show rowsAlike sa sb = true from decide_eq_true (getD_ext (by rw [← hA.count, ← hB.count]) fun i hi => HA.out i (by rw [hA.count]; exact hi)))
        go_wp2_with fail
        go_ret
        exact ⟨ret_bool HD.out, _, rfl⟩
  · have hne' : ¬ (la : Int) = (lb : Int) := by omega
    have HD := Lib.hid (show rowsAlike sa sb = false from decide_eq_false fun e => hne (by rw [hA.count, hB.count, e]))
    go_enter Try.func25, Try.ntmps25
    go_wp2
    go_ret
    exact ⟨ret_bool HD.out, 0, rfl⟩
theorem prefix_take {xs ys : List (List UInt8)} (hl : xs.length ≤ ys.length) : xs.isPrefixOf ys = rowsAlike ((ys.map lstr).take xs.length) (xs.map lstr) := by
  unfold rowsAlike
  rw [← List.map_take]
  have hinj : ∀ u v : List (List UInt8), u.map lstr = v.map lstr ↔ u = v := fun u v => by
    constructor
    · intro h
      have := congrArg dat h
      rwa [dat_lstr, dat_lstr] at this
    · intro h; rw [h]
  rw [decide_eq_decide.2 (hinj _ _)]
  by_cases h : ys.take xs.length = xs
  · have e := List.take_append_drop xs.length ys
    rw [h] at e
    rw [decide_eq_true h, (Nm.isPrefixOf_iff xs ys).2 ⟨ys.drop xs.length, e.symm⟩]
  · rw [decide_eq_false h, Bool.eq_false_iff]
    intro h2
    obtain ⟨z, rfl⟩ := (Nm.isPrefixOf_iff xs ys).1 h2
    exact h (by simp)
set_option maxHeartbeats 4000000 in
theorem inside_any (a b : ByteArray) (w : World) (ha : a.size ≤ 100000) (hb : b.size ≤ 100000) : Calls Try.prog 16 #[.string a, .string b] w (WithinPost a.data.toList b.data.toList w) := by
  go_enter Try.func16, Try.ntmps16
  go_wp2_with fail
  refine (split_any a w ha).mono ?_
  rintro e w1 hX
  have HB := Lib.hid hX.below
  have HY := Lib.hid (split_any b w1 hb)
  cases hsa : Nm.split a.data.toList with
  | none =>
    obtain rfl := hX.no hsa
    have HP := Lib.hid (within_post (a := a.data.toList) (b := b.data.toList) (show Nm.within a.data.toList b.data.toList = false from by unfold Nm.within; rw [hsa]) HB.out)
    clear hX hsa
    dsimp only
    go_wp2_with fail
    go_ret
    exact HP.out
  | some xs =>
    obtain ⟨ao, cap, rfl, hT⟩ := hX.yes xs hsa
    have h8 := (split_shape hsa).1
    have HS := Lib.hid (trow_strs hT rfl)
    clear hX hT
    have hxl : (xs.length : Int) ≤ 8 := by omega
    dsimp only
    go_wp2_with fail
    refine HY.out.mono ?_
    rintro e w2 hX2
    have HB2 := Lib.hid (HB.out.trans (hX2.below.mono HB.out.size))
    have HS2 := Lib.hid (HS.out.below hX2.below)
    clear HS
    cases hsb : Nm.split b.data.toList with
    | none =>
      obtain rfl := hX2.no hsb
      have HP := Lib.hid (within_post (a := a.data.toList) (b := b.data.toList) (show Nm.within a.data.toList b.data.toList = false from by unfold Nm.within; rw [hsa, hsb]) HB2.out)
      clear hX2 hsa hsb
      dsimp only
      go_wp2_with fail
      go_ret
      exact HP.out
    | some ys =>
      obtain ⟨ao2, cap2, rfl, hT2⟩ := hX2.yes ys hsb
      have h82 := (split_shape hsb).1
      have hcap := trow_cap hT2
      have HT := Lib.hid (trow_strs hT2 rfl)
      have hW : Nm.within a.data.toList b.data.toList = xs.isPrefixOf ys := by unfold Nm.within; rw [hsa, hsb]
      have HW := Lib.hid hW
      clear hX2 hT2 hsa hsb hW
      have hyl : (ys.length : Int) ≤ 8 := by omega
      dsimp only
      rcases Nat.lt_or_ge ys.length xs.length with hl | hl
      · have hli : (ys.length : Int) < (xs.length : Int) := by omega
        have HP := Lib.hid (within_post (HW.out.trans (prefix_long hl)) HB2.out)
        clear hl
        generalize xs.length = lx at *
        generalize ys.length = ly at *
        go_wp2_with fail
        go_ret
        exact HP.out
      · have hli : ¬ (ys.length : Int) < (xs.length : Int) := by omega
        have hci : (xs.length : Int) ≤ (cap2 : Int) := by omega
        have HE := Lib.hid (equal_any ao2 ao xs.length cap2 xs.length cap _ _ w2 (strs_take HT.out hl) HS2.out (by omega) (by omega))
        have HP := Lib.hid (fun (w' : World) (hb : Below w.heap.size w w') => within_post (HW.out.trans (prefix_take hl)) hb)
        clear HT HS2 HW hl
        generalize rowsAlike ((ys.map lstr).take xs.length) (xs.map lstr) = r at *
        generalize xs.length = lx at *
        generalize ys.length = ly at *
        go_wp2_with fail
        refine HE.out.mono ?_
        rintro e w3 ⟨rfl, n, rfl⟩
        dsimp only
        go_wp2_with fail
        go_ret
        exact HP.out _ (below_draws HB2.out)
theorem names : Names := ⟨right_any, split_any, join_any, parent_any, inside_any⟩
end Go.Proofs.Ytpckafgbinoohaa
