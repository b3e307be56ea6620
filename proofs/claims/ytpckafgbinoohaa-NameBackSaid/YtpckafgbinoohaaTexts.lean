/- The document's Texts: two rows of texts. -/
import Derived.Test.YtpckafgbinoohaaRefWithin
namespace Go.Proofs.Ytpckafgbinoohaa
set_option maxRecDepth 100000
open Go.RowKit
attribute [local go_sem 9000] sem_stralike sem_strnot
theorem getD_ext {α : Type} {l m : List α} {d : α} (hl : l.length = m.length) (h : ∀ i, i < l.length → l.getD i d = m.getD i d) : l = m := by
  apply List.ext_getElem hl
  intro i h1 h2
  have := h i h1
  rwa [List.getD, List.getD, List.getElem?_eq_getElem h1, List.getElem?_eq_getElem h2] at this
theorem drewN_add (w : World) (m n : Nat) : (w.drewN m).drewN n = w.drewN (m + n) := by unfold World.drewN; simp only [Nat.add_assoc]
theorem ret_bool {a b : Bool} (h : b = a) : Ending.returned (.bool a) = .returned (.bool b) := by rw [h]
/-- Two rows alike? Closed to the walk's simp. -/
def rowsAlike (a b : List ByteArray) : Bool := decide (a = b)
set_option maxRecDepth 100000 in
set_option maxHeartbeats 1000000 in
theorem texts_any (a b : Option Addr) (la ca lb cb : Nat) (sa sb : List ByteArray) (w : World) (hA : Strs a la sa w) (hB : Strs b lb sb w) (hla : la ≤ 140737488355328) (hlb : lb ≤ 140737488355328) :
    Calls Try.prog 15 #[.slice a la ca, .slice b lb cb] w fun e w' => e = .returned (.bool (rowsAlike sa sb)) ∧ ∃ n, w' = w.drewN n := by
  have hl1 : (la : Int) ≤ 140737488355328 := by omega
  have hl2 : (lb : Int) ≤ 140737488355328 := by omega
  by_cases hne : la = lb
  · subst hne
    go_enter Try.func15, Try.ntmps15
    go_wp2
    go_loopw [5] (fun i wr => ∃ k n : Nat, k ≤ la ∧ i = .int .i64 k ∧ wr = w.drewN n ∧ ∀ i, i < k → sa.getD i ByteArray.empty = sb.getD i ByteArray.empty) (fun i _ => la - (intOf i).toNat)
    case atStart => exact ⟨0, 0, by omega, rfl, rfl, fun i hi => by omega⟩
    case round =>
      obtain ⟨k, n, hk, rfl, rfl, hall⟩ := hrel
      have HA := Lib.hid hall
      clear hall
      by_cases hlt : k < la
      · obtain ⟨b1, o1, rfl, hc1⟩ := hA.cell k hlt
        obtain ⟨b2, o2, rfl, hc2⟩ := hB.cell k hlt
        have hk0 : (k : Int) < (la : Int) := by omega
        by_cases he : sa.getD k ByteArray.empty = sb.getD k ByteArray.empty
        · have HN := Lib.hid (show ∀ i, i < k + 1 → sa.getD i ByteArray.empty = sb.getD i ByteArray.empty from fun i hi => by
            rcases Nat.lt_or_ge i k with h | h
            · exact HA.out i h
            · obtain rfl : i = k := by omega
              exact he)
          have ha : alike (sa.getD k ByteArray.empty) (sb.getD k ByteArray.empty) = true := decide_eq_true he
          generalize sa.getD k ByteArray.empty = x at hc1 ha
          generalize sb.getD k ByteArray.empty = y at hc2 ha
          clear he
          go_wp2_with fail
          go_quiet (fail)
          go_wp2_with fail
          go_roundw
          case rel => exact ⟨k + 1, _, by omega, by go_num, rfl, HN.out⟩
          case measure => simp [intOf]; omega
        · have HD := Lib.hid (show rowsAlike sa sb = false from decide_eq_false fun e => he (by rw [e]))
          have ha : alike (sa.getD k ByteArray.empty) (sb.getD k ByteArray.empty) = false := decide_eq_false he
          generalize sa.getD k ByteArray.empty = x at hc1 ha
          generalize sb.getD k ByteArray.empty = y at hc2 ha
          clear he
          go_wp2_with fail
          go_quiet (fail)
          go_wp2_with fail
          go_ret
          exact ⟨ret_bool HD.out, _, drewN_add _ _ _⟩
      · obtain rfl : k = la := by omega
        have HD := Lib.hid (show rowsAlike sa sb = true from decide_eq_true (getD_ext (by rw [← hA.count, ← hB.count]) fun i hi => HA.out i (by rw [hA.count]; exact hi)))
        go_wp2_with fail
        go_ret
        exact ⟨ret_bool HD.out, _, rfl⟩
  · have hne' : ¬ (la : Int) = (lb : Int) := by omega
    have HD := Lib.hid (show rowsAlike sa sb = false from decide_eq_false fun e => hne (by rw [hA.count, hB.count, e]))
    go_enter Try.func15, Try.ntmps15
    go_wp2
    go_ret
    exact ⟨ret_bool HD.out, 0, rfl⟩

end Go.Proofs.Ytpckafgbinoohaa
