/- NameWithin, walked. -/
import Derived.Test.YtpckafgbinoohaaAwake
namespace Go.Proofs.Ytpckafgbinoohaa
set_option maxRecDepth 100000
open Go.RowKit
def Yes (w : World) (e : Ending) (w' : World) : Prop := e = .returned (.bool true) ∧ Below w.heap.size w w'
theorem long_any (H : Names) (a b c : ByteArray) (w : World) (ha : a.size ≤ 140737488355328) (hb : b.size ≤ 140737488355328) (hc : c.size ≤ 140737488355328) (hL : ¬ (a.size ≤ 500 ∧ b.size ≤ 500 ∧ c.size ≤ 500)) : Calls Try.prog 5 #[.string a, .string b, .string c] w (Yes w) := by
  have hai : (a.size : Int) ≤ 140737488355328 := by omega
  have hbi : (b.size : Int) ≤ 140737488355328 := by omega
  have hci : (c.size : Int) ≤ 140737488355328 := by omega
  go_enter Try.func5, Try.ntmps5
  go_wp2_with fail
  refine (awake_any H _).mono ?_
  rintro e w1 ⟨rfl, hB1⟩
  dsimp only
  rcases Nat.lt_or_ge 500 a.size with h1 | h1
  · have g1 : (500 : Int) < (a.size : Int) := by omega
    clear hL
    go_wp2_with fail
    go_ret
    exact ⟨rfl, hB1⟩
  have g1 : (a.size : Int) ≤ 500 := by omega
  rcases Nat.lt_or_ge 500 b.size with h2 | h2
  · have g2 : (500 : Int) < (b.size : Int) := by omega
    clear hL
    go_wp2_with fail
    go_ret
    exact ⟨rfl, hB1⟩
  have g2 : (b.size : Int) ≤ 500 := by omega
  have g3 : (500 : Int) < (c.size : Int) := by omega
  clear hL
  go_wp2_with fail
  go_ret
  exact ⟨rfl, hB1⟩
theorem wi (H : Names) (a b : ByteArray) (r : Bool) (w : World) (ha : a.size ≤ 500) (hb : b.size ≤ 500) (hr : Nm.within a.data.toList b.data.toList = r) : Calls Try.prog 16 #[.string a, .string b] w fun e w' => e = .returned (.bool r) ∧ Below w.heap.size w w' := aw_within H a b r w (by omega) (by omega) hr
theorem head_is {a b : ByteArray} (hl : a.data.toList.length ≤ b.data.toList.length) (h : b.data.toList.take a.data.toList.length = a.data.toList) : (b.extract 0 a.size).toList = a.toList := by
  have hl2 : a.size ≤ b.size := by rw [Array.length_toList, Array.length_toList] at hl; exact hl
  have e := cut_text b 0 a.size (by omega)
  rw [Nat.zero_add] at e
  rw [e, Lib.toList_data, Lib.toList_data, lstr_data, List.drop_zero]
  rw [Array.length_toList] at h
  exact h
theorem head_next {a b : ByteArray} (hl : a.data.toList.length ≤ b.data.toList.length) (h : b.data.toList.length = a.data.toList.length ∨ b.data.toList.getD a.data.toList.length 0 = 47) : (b.size : Int) = (a.size : Int) ∨ ∃ hx : a.size < b.size, ((b[a.size]'hx).toNat : Int) = 47 := by
  rw [Array.length_toList, Array.length_toList] at hl
  rw [Array.length_toList, Array.length_toList] at h
  have hl : a.size ≤ b.size := hl
  rcases Nat.eq_or_lt_of_le hl with e | e
  · left; omega
  · right
    refine ⟨e, ?_⟩
    rcases h with h | h
    · exact absurd (show b.size = a.size from h) (by omega)
    · have e2 : b[a.size]'e = b.data.toList.getD a.data.size 0 := by
        rw [List.getD, List.getElem?_eq_getElem (by rw [Array.length_toList]; exact e), Option.getD_some, Array.getElem_toList]; rfl
      rw [e2, h]; rfl
theorem sp (H : Names) (a : ByteArray) (w : World) (ha : a.size ≤ 500) : Calls Try.prog 7 #[.string a] w fun e w' => ∃ v n, e = .returned (.tuple #[v, .int .i64 n]) ∧ (n = if (Nm.split a.data.toList).isSome then 0 else 14) ∧ Below w.heap.size w w' := by
  refine (H.split a w (by omega)).mono ?_
  intro e w' h
  cases hs : Nm.split a.data.toList with
  | none => exact ⟨_, _, h.no hs, rfl, h.below⟩
  | some ns =>
    obtain ⟨ao, cap, rfl, _⟩ := h.yes ns hs
    exact ⟨_, _, rfl, rfl, h.below⟩
set_option maxHeartbeats 4000000 in
theorem within_any (H : Names) (a b c : ByteArray) (w : World) (ha : a.size ≤ 140737488355328) (hb : b.size ≤ 140737488355328) (hc : c.size ≤ 140737488355328) : Calls Try.prog 5 #[.string a, .string b, .string c] w (Yes w) := by
  by_cases hL : a.size ≤ 500 ∧ b.size ≤ 500 ∧ c.size ≤ 500
  case neg => exact long_any H a b c w ha hb hc hL
  obtain ⟨h1, h2, h3⟩ := hL
  clear ha hb hc
  have g1 : (a.size : Int) ≤ 500 := by omega
  have g2 : (b.size : Int) ≤ 500 := by omega
  have g3 : (c.size : Int) ≤ 500 := by omega
  have F1 := Lib.hid (fun (x : Nm.within a.data.toList b.data.toList = true) (y : Nm.within b.data.toList a.data.toList = true) => Nm.within_same x y)
  have F2 := Lib.hid (fun (x : Nm.within a.data.toList b.data.toList = true) (y : Nm.within b.data.toList c.data.toList = true) => Nm.within_trans x y)
  have F3 := Lib.hid (Nm.within_self a.data.toList)
  have F4 := Lib.hid (fun (x : Nm.within a.data.toList b.data.toList = true) => Nm.within_head x)
  have F5 := Lib.hid (fun (x : Nm.within a.data.toList b.data.toList = true) => show (Nm.split a.data.toList).isSome = true from by obtain ⟨y, z, e, _⟩ := (Nm.within_iff _ _).1 x; rw [e]; rfl)
  have CAB := Lib.hid (fun w => wi H a b _ w h1 h2 rfl)
  have CBA := Lib.hid (fun w => wi H b a _ w h2 h1 rfl)
  have CBC := Lib.hid (fun w => wi H b c _ w h2 h3 rfl)
  have CAC := Lib.hid (fun w => wi H a c _ w h1 h3 rfl)
  have CAA := Lib.hid (fun w => wi H a a _ w h1 h1 F3.out)
  have CS := Lib.hid (fun w => sp H a w h1)
  generalize (Nm.split a.data.toList).isSome = so at *
  generalize Nm.within a.data.toList b.data.toList = ab at *
  generalize Nm.within b.data.toList a.data.toList = ba at *
  generalize Nm.within b.data.toList c.data.toList = bc at *
  generalize hac : Nm.within a.data.toList c.data.toList = ac at *
  clear F3
  go_enter Try.func5, Try.ntmps5
  go_wp2_with fail
  refine (awake_any H _).mono ?_
  rintro e w1 ⟨rfl, hB1⟩
  dsimp only
  go_wp2_with fail
  refine (CS.out _).mono ?_
  rintro e w2 ⟨v, n, rfl, hn, hB2⟩
  have hB2 := hB1.trans (hB2.mono hB1.size)
  have HN := Lib.hid hn
  clear hB1 CS hn
  dsimp only
  go_wp2_with fail
  refine (CAB.out _).mono ?_
  rintro e w3 ⟨rfl, hB3⟩
  have hB3 := hB2.trans (hB3.mono hB2.size)
  clear hB2 CAB
  dsimp only
  go_wp2_with fail
  refine (CBA.out _).mono ?_
  rintro e w4 ⟨rfl, hB4⟩
  have hB4 := hB3.trans (hB4.mono hB3.size)
  clear hB3 CBA
  dsimp only
  go_wp2_with fail
  refine (CBC.out _).mono ?_
  rintro e w5 ⟨rfl, hB5⟩
  have hB5 := hB4.trans (hB5.mono hB4.size)
  clear hB4 CBC
  dsimp only
  have CAA := Lib.hid (fun w => CAA.out w)
  cases ab
  · clear F1 F2 F4 F5 CAC
    cases so
    · obtain rfl : n = 14 := HN.out
      go_wp2_with fail
      refine (CAA.out _).mono ?_
      rintro e w6 ⟨rfl, hB6⟩
      have hB6 := hB5.trans (hB6.mono hB5.size)
      dsimp only
      go_wp2_with fail
      go_ret
      exact ⟨rfl, hB6⟩
    · obtain rfl : n = 0 := HN.out
      go_wp2_with fail
      refine (CAA.out _).mono ?_
      rintro e w6 ⟨rfl, hB6⟩
      have hB6 := hB5.trans (hB6.mono hB5.size)
      dsimp only
      go_wp2_with fail
      go_ret
      exact ⟨rfl, hB6⟩
  · obtain rfl : so = true := F5.out rfl
    obtain rfl : n = 0 := HN.out
    have G1 := Lib.hid (fun y => F1.out rfl y)
    have G2 := Lib.hid (fun y => F2.out rfl y)
    have G4 := Lib.hid (F4.out rfl)
    clear F5 HN F1 F2 F4
    cases ba
    · clear G1
      cases bc
      · clear G2 CAC
        go_wp2_with fail
        refine (CAA.out _).mono ?_
        rintro e w6 ⟨rfl, hB6⟩
        have hB6 := hB5.trans (hB6.mono hB5.size)
        clear hB5
        clear CAA
        dsimp only
        rcases G4.out with h | h
        · obtain rfl : a = ⟨#[47]⟩ := by apply ByteArray.ext; apply Array.ext'; exact h
          clear G4
          go_wp2_with fail
          go_ret
          exact ⟨rfl, hB6⟩
        · have EX := Lib.hid (head_is h.1 h.2.1)
          have EY := Lib.hid (head_next h.1 h.2.2)
          have hl := h.1
          rw [Array.length_toList, Array.length_toList] at hl
          have hl : a.size ≤ b.size := hl
          have hli : (a.size : Int) ≤ (b.size : Int) := by omega
          clear G4 h
          go_wp2_with fail
          all_goals first
            | (exfalso; exact absurd EX.out (by assumption))
            | (go_ret; exact ⟨rfl, hB6⟩)
            | (go_ret; refine ⟨?_, hB6⟩; rcases EY.out with h | ⟨h, h47⟩; (exact absurd h (by assumption)); (congr 2; simp [h47]))
      · obtain rfl : ac = true := G2.out rfl
        clear G2
        go_wp2_with fail
        refine (CAC.out _).mono ?_
        rintro e w6 ⟨rfl, hB6⟩
        have hB6 := hB5.trans (hB6.mono hB5.size)
        clear hB5
        clear CAC
        dsimp only
        go_wp2_with fail
        refine (CAA.out _).mono ?_
        rintro e w7 ⟨rfl, hB7⟩
        have hB7 := hB6.trans (hB7.mono hB6.size)
        clear hB6
        clear CAA
        dsimp only
        rcases G4.out with h | h
        · obtain rfl : a = ⟨#[47]⟩ := by apply ByteArray.ext; apply Array.ext'; exact h
          clear G4
          go_wp2_with fail
          go_ret
          exact ⟨rfl, hB7⟩
        · have EX := Lib.hid (head_is h.1 h.2.1)
          have EY := Lib.hid (head_next h.1 h.2.2)
          have hl := h.1
          rw [Array.length_toList, Array.length_toList] at hl
          have hl : a.size ≤ b.size := hl
          have hli : (a.size : Int) ≤ (b.size : Int) := by omega
          clear G4 h
          go_wp2_with fail
          all_goals first
            | (exfalso; exact absurd EX.out (by assumption))
            | (go_ret; exact ⟨rfl, hB7⟩)
            | (go_ret; refine ⟨?_, hB7⟩; rcases EY.out with h | ⟨h, h47⟩; (exact absurd h (by assumption)); (congr 2; simp [h47]))
    · obtain rfl : a = b := by apply ByteArray.ext; apply Array.ext'; exact G1.out rfl
      clear G1
      cases bc
      · clear G2 CAC
        go_wp2_with fail
        refine (CAA.out _).mono ?_
        rintro e w6 ⟨rfl, hB6⟩
        have hB6 := hB5.trans (hB6.mono hB5.size)
        clear hB5
        clear CAA G4
        dsimp only
        go_wp2_with fail
        all_goals (go_ret; exact ⟨rfl, hB6⟩)
      · obtain rfl : ac = true := G2.out rfl
        clear G2
        go_wp2_with fail
        refine (CAC.out _).mono ?_
        rintro e w6 ⟨rfl, hB6⟩
        have hB6 := hB5.trans (hB6.mono hB5.size)
        clear hB5
        clear CAC
        dsimp only
        go_wp2_with fail
        refine (CAA.out _).mono ?_
        rintro e w7 ⟨rfl, hB7⟩
        have hB7 := hB6.trans (hB7.mono hB6.size)
        clear hB6
        clear CAA G4
        dsimp only
        go_wp2_with fail
        all_goals (go_ret; exact ⟨rfl, hB7⟩)
end Go.Proofs.Ytpckafgbinoohaa
