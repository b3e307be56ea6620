/- The document's Within. -/
import Derived.Test.YtpckafgbinoohaaRefParent
namespace Go.Proofs.Ytpckafgbinoohaa
set_option maxRecDepth 100000
open Go.RowKit
theorem lstr_inj {a b : List UInt8} (h : lstr a = lstr b) : a = b := by
  have := congrArg (fun x : ByteArray => x.data.toList) h
  exact this
theorem prefix_no {xs ys : List (List UInt8)} {k : Nat} (hx : k < xs.length) (hy : k < ys.length) (h : xs.getD k [] ≠ ys.getD k []) : xs.isPrefixOf ys = false := by
  induction xs generalizing ys k with
  | nil => simp at hx
  | cons x xs ih =>
    cases ys with
    | nil => simp at hy
    | cons y ys =>
      cases k with
      | zero =>
        simp only [List.getD_cons_zero] at h
        show (x == y && _) = false
        rw [show (x == y) = false from by rw [beq_eq_false_iff_ne]; exact h]; rfl
      | succ k =>
        simp only [List.getD_cons_succ, List.length_cons] at h hx hy
        show (x == y && xs.isPrefixOf ys) = false
        rw [ih (by omega) (by omega) h, Bool.and_false]
theorem prefix_long {xs ys : List (List UInt8)} (h : ys.length < xs.length) : xs.isPrefixOf ys = false := by
  induction xs generalizing ys with
  | nil => simp at h
  | cons x xs ih =>
    cases ys with
    | nil => rfl
    | cons y ys =>
      simp only [List.length_cons] at h
      show (x == y && xs.isPrefixOf ys) = false
      rw [ih (by omega), Bool.and_false]
theorem prefix_yes {xs ys : List (List UInt8)} (hl : xs.length ≤ ys.length) (h : ∀ k, k < xs.length → xs.getD k [] = ys.getD k []) : xs.isPrefixOf ys = true := by
  induction xs generalizing ys with
  | nil => rfl
  | cons x xs ih =>
    cases ys with
    | nil => simp at hl
    | cons y ys =>
      simp only [List.length_cons] at hl
      show (x == y && xs.isPrefixOf ys) = true
      have h0 := h 0 (by simp)
      simp only [List.getD_cons_zero] at h0
      rw [h0, ih (by omega) (fun k hk => by have := h (k + 1) (by simp; omega); simpa using this)]
      simp
def WithinPost (a b : List UInt8) (w : World) (e : Ending) (w' : World) : Prop := e = .returned (.bool (Nm.within a b)) ∧ Below w.heap.size w w'
theorem within_post {a b : List UInt8} {w w' : World} {r : Bool} (h : Nm.within a b = r) (hb : Below w.heap.size w w') : WithinPost a b w (.returned (.bool r)) w' := by
  unfold WithinPost; rw [h]; exact ⟨rfl, hb⟩
set_option maxHeartbeats 4000000 in
theorem refWithin_any (a b : ByteArray) (w : World) (ha : a.size ≤ 100000) (hb : b.size ≤ 100000) : Calls Try.prog 17 #[.string a, .string b] w (WithinPost a.data.toList b.data.toList w) := by
  go_enter Try.func17, Try.ntmps17
  go_wp2_with fail
  refine (refSplit_any a w ha).mono ?_
  rintro e w1 hX
  have HB := Lib.hid hX.below
  have HY := Lib.hid (refSplit_any b w1 hb)
  cases hsa : Nm.split a.data.toList with
  | none =>
    obtain rfl := hX.no hsa
    have HN := Lib.hid (show Nm.within a.data.toList b.data.toList = false from by unfold Nm.within; rw [hsa])
    clear hX hsa
    dsimp only
    go_wp2_with fail
    refine HY.out.mono ?_
    rintro e w2 hX2
    have HP := Lib.hid (within_post HN.out (HB.out.trans (hX2.below.mono HB.out.size)))
    cases hsb : Nm.split b.data.toList with
    | none =>
      obtain rfl := hX2.no hsb
      clear hX2 hsb
      dsimp only
      go_wp2_with fail
      go_ret
      exact HP.out
    | some ys =>
      obtain ⟨ao, cap, rfl, _⟩ := hX2.yes ys hsb
      clear hX2 hsb
      dsimp only
      go_wp2_with fail
      go_ret
      exact HP.out
  | some xs =>
    obtain ⟨ao, cap, rfl, hT⟩ := hX.yes xs hsa
    have h8 := (split_shape hsa).1
    have HS := Lib.hid (trow_strs hT rfl)
    clear hX hT
    have hxl : (xs.length : Int) ≤ 8 := by omega
    dsimp only
    go_wp2_with fail
    refine HY.out.mono ?_
    rintro e w2 hX2
    have HB2 := Lib.hid (HB.out.trans (hX2.below.mono HB.out.size))
    have HS2 := Lib.hid (HS.out.below hX2.below)
    clear HS
    cases hsb : Nm.split b.data.toList with
    | none =>
      obtain rfl := hX2.no hsb
      have HP := Lib.hid (within_post (a := a.data.toList) (b := b.data.toList) (show Nm.within a.data.toList b.data.toList = false from by unfold Nm.within; rw [hsa, hsb]) HB2.out)
      clear hX2 hsa hsb
      dsimp only
      go_wp2_with fail
      go_ret
      exact HP.out
    | some ys =>
      obtain ⟨ao2, cap2, rfl, hT2⟩ := hX2.yes ys hsb
      have h82 := (split_shape hsb).1
      have HT := Lib.hid (trow_strs hT2 rfl)
      have hW : Nm.within a.data.toList b.data.toList = xs.isPrefixOf ys := by unfold Nm.within; rw [hsa, hsb]
      have HW := Lib.hid hW
      clear hX2 hT2 hsa hsb hW
      have hyl : (ys.length : Int) ≤ 8 := by omega
      dsimp only
      rcases Nat.lt_or_ge ys.length xs.length with hl | hl
      · have hli : (ys.length : Int) < (xs.length : Int) := by omega
        have HP := Lib.hid (within_post (HW.out.trans (prefix_long hl)) HB2.out)
        clear hl
        generalize xs.length = lx at *
        generalize ys.length = ly at *
        go_wp2_with fail
        go_ret
        exact HP.out
      · have hli : (xs.length : Int) ≤ (ys.length : Int) := by omega
        have HNO := Lib.hid (fun k (hx : k < xs.length) (hy : k < ys.length) h => HW.out.trans (prefix_no hx hy h))
        have HYES := Lib.hid (fun h => HW.out.trans (prefix_yes hl h))
        have HCX := Lib.hid (fun k (hk : k < xs.length) => HS2.out.cell k hk)
        have HCY := Lib.hid (fun k (hk : k < ys.length) => HT.out.cell k hk)
        have HMX := Lib.hid (fun k (hk : k < xs.length) => show (xs.map lstr).getD k ByteArray.empty = lstr (xs.getD k []) from by rw [List.getD, List.getElem?_map, List.getD, List.getElem?_eq_getElem hk]; rfl)
        have HMY := Lib.hid (fun k (hk : k < ys.length) => show (ys.map lstr).getD k ByteArray.empty = lstr (ys.getD k []) from by rw [List.getD, List.getElem?_map, List.getD, List.getElem?_eq_getElem hk]; rfl)
        clear HS2 HT HW HY
        generalize hlx : xs.length = lx at *
        generalize hly : ys.length = ly at *
        clear hlx hly
        go_wp2_with fail
        go_loopw [9] (fun i wr => ∃ k : Nat, k ≤ lx ∧ i = .int .i64 (k : Int) ∧ (∀ j, j < k → xs.getD j [] = ys.getD j []) ∧ Below w2.heap.size w2 wr) (fun i _ => lx - (intOf i).toNat)
        case atStart => exact ⟨0, Nat.zero_le _, rfl, (fun j hj => by omega), Below.refl _ _⟩
        case round =>
          obtain ⟨k, hk, rfl, hsame, hWr⟩ := hrel
          have HWR := Lib.hid hWr
          have HSM := Lib.hid hsame
          clear hWr hsame
          by_cases hlt : k < lx
          · have k0 : (k : Int) < (lx : Int) := by omega
            have hky : k < ly := by omega
            have k1 : (k : Int) < (ly : Int) := by omega
            have hk0 : (0 : Int) ≤ (k : Int) := by omega
            obtain ⟨b1, o1, rfl, hc1⟩ := HCX.out k hlt
            obtain ⟨b2, o2, rfl, hc2⟩ := HCY.out k hky
            rw [HMX.out k hlt] at hc1
            rw [HMY.out k hky] at hc2
            have hc1 := (HWR.out.cell (p := ⟨b1, o1 + k, none⟩) (block_lt_of_cell hc1)).trans hc1
            have hc2 := (HWR.out.cell (p := ⟨b2, o2 + k, none⟩) (block_lt_of_cell hc2)).trans hc2
            by_cases he : xs.getD k [] = ys.getD k []
            · have HSM2 := Lib.hid (fun j (hj : j < k + 1) => show xs.getD j [] = ys.getD j [] from by
                rcases Nat.eq_or_lt_of_le (Nat.le_of_lt_succ hj) with e | e
                · rw [e]; exact he
                · exact HSM.out j e)
              rw [he] at hc1
              generalize lstr (ys.getD k []) = z at hc1 hc2
              have hzz : (z.toList == z.toList) = true := by simp
              clear he
              go_wp2_with fail
              go_quiet (fail)
              go_wp2_with fail
              go_roundw
              case rel => exact ⟨k + 1, by omega, by go_num, HSM2.out, below_draws HWR.out⟩
              case measure => simp [intOf] <;> omega
            · have HP := Lib.hid (fun (w' : World) (hb : Below w.heap.size w w') => within_post (HNO.out k hlt hky he) hb)
              have hzz : ((lstr (xs.getD k [])).toList == (lstr (ys.getD k [])).toList) = false := by
                rw [beq_eq_false_iff_ne, Lib.toList_data, Lib.toList_data, lstr_data, lstr_data]; exact he
              clear he
              generalize lstr (xs.getD k []) = y at hc1 hzz
              generalize lstr (ys.getD k []) = z at hc2 hzz
              have hzn : (y.toList != z.toList) = true := by rw [bne, hzz]; rfl
              go_wp2_with fail
              go_quiet (fail)
              go_wp2_with fail
              go_ret
              exact HP.out _ (below_draws (HB2.out.trans (HWR.out.mono HB2.out.size)))
          · obtain rfl : k = lx := by omega
            have HP := Lib.hid (within_post (HYES.out HSM.out) (HB2.out.trans (HWR.out.mono HB2.out.size)))
            go_wp2_with fail
            go_ret
            exact HP.out
end Go.Proofs.Ytpckafgbinoohaa
