/- The laws' own question of size; how many steps stay; two rows of texts alike. -/
import Derived.Test.YtfemanblkmcglaaBase
import Derived.Deep.QuietTactic
import Derived.BigQuiet
import Derived.IntWalk
namespace Go.Proofs.Ytfemanblkmcglaa
open Go.RowKit Grid

set_option maxRecDepth 100000 in
set_option maxHeartbeats 1000000 in
theorem few_any (a : Option Addr) (len cap : Nat) (ss : List ByteArray) (w : World) (hS : Strs a len ss w) (hr : ∀ i, i < len → (ss.getD i ByteArray.empty).size ≤ 140737488355328) (hlen : len ≤ 140737488355328) :
    Calls Try.prog 9 #[.slice a len cap] w fun e w' => (e = .returned (.bool false) ∧ w = w') ∨ (e = .returned (.bool true) ∧ w = w' ∧ len ≤ 60) := by
  have hl1 : (len : Int) ≤ 140737488355328 := by omega
  go_enter Try.func9, Try.ntmps9
  go_wp2
  go_loop [3] (fun i => ∃ k : Nat, k ≤ len ∧ k ≤ 60 ∧ i = .int .i64 k) (fun i => len - (intOf i).toNat)
  case atStart => exact ⟨0, by omega, by omega, rfl⟩
  case round =>
    obtain ⟨k, hk, hk1, rfl⟩ := hrel
    by_cases hlt : k < len
    · obtain ⟨b, off, rfl, hcell⟩ := hS.cell k hlt
      have hx := hr k hlt
      generalize ss.getD k ByteArray.empty = x at hcell hx
      have hk0 : (k : Int) < (len : Int) := by omega
      have hx1 : (x.size : Int) ≤ 140737488355328 := by omega
      by_cases h1 : 60 ≤ k
      · have h1' : (60 : Int) ≤ (k : Int) := by omega
        clear hx
        go_wp2
        go_ret
        exact .inl ⟨rfl, rfl⟩
      · have h1' : (k : Int) < 60 := by omega
        by_cases h2 : 100 < x.size
        · have h2' : (100 : Int) < (x.size : Int) := by omega
          clear hx
          go_wp2
          go_ret
          exact .inl ⟨rfl, rfl⟩
        · have h2' : (x.size : Int) ≤ 100 := by omega
          clear hx
          go_wp2
          go_round
          case rel => exact ⟨k + 1, by omega, by omega, by go_num⟩
          case measure => simp [intOf]; omega
    · obtain rfl : k = len := by omega
      have HK := Lib.hid hk1
      clear hk1
      go_wp2
      go_ret
      exact .inr ⟨rfl, rfl, HK.out⟩

attribute [local go_sem 9000] eql_stay
theorem count_take (p : List Nat) {k : Nat} (h : k < p.length) : (p.take (k + 1)).count 0 = (p.take k).count 0 + if p.getD k 0 = 0 then 1 else 0 := by
  rw [List.take_succ_eq_append_getElem h, List.count_append, List.count_singleton, List.getD, List.getElem?_eq_getElem h]
  simp only [Option.getD_some, beq_iff_eq]
set_option maxRecDepth 100000 in
set_option maxHeartbeats 1000000 in
theorem same_any (a : Option Addr) (len cap : Nat) (p : List Nat) (w : World) (hS : Steps a len p w) (hlen : len ≤ 140737488355328) :
    Calls Try.prog 15 #[.slice a len cap] w fun e w' => e = .returned (.int .i64 (p.count 0 : Nat)) ∧ w = w' := by
  have hl1 : (len : Int) ≤ 140737488355328 := by omega
  go_enter Try.func15, Try.ntmps15
  go_wp2
  go_loop [3, 8] (fun x i => ∃ k : Nat, k ≤ len ∧ i = .int .i64 k ∧ x = .int .i64 ((p.take k).count 0 : Nat)) (fun _ i => len - (intOf i).toNat)
  case atStart => exact ⟨0, by omega, rfl, rfl⟩
  case round =>
    obtain ⟨k, hk, rfl, rfl⟩ := hrel
    by_cases hlt : k < len
    · obtain ⟨b, off, rfl, hcell⟩ := hS.cell k hlt
      have hC := Lib.hid (count_take p (k := k) (by rw [← hS.count]; exact hlt))
      have hk0 : (k : Int) < (len : Int) := by omega
      have hle : (p.take k).count 0 ≤ k := Nat.le_trans List.count_le_length (by rw [List.length_take]; omega)
      generalize (p.take k).count 0 = n at hle hC ⊢
      have hn : (n : Int) ≤ 140737488355328 := by omega
      generalize p.getD k 0 = d at hcell hC
      by_cases h0 : d = 0
      · subst h0
        have HC := Lib.hid (hC.out.trans (by rw [if_pos rfl]))
        go_wp2
        go_round
        case rel => exact ⟨k + 1, by omega, by go_num, by rw [HC.out]; go_num⟩
        case measure => simp [intOf]; omega
      · have HC := Lib.hid (hC.out.trans (by rw [if_neg h0]))
        go_wp2
        go_round
        case rel => exact ⟨k + 1, by omega, by go_num, by rw [HC.out]; go_num⟩
        case measure => simp [intOf]; omega
    · obtain rfl : k = len := by omega
      have HE := Lib.hid (show (p.take k).count 0 = p.count 0 by rw [hS.count, List.take_length])
      rw [HE.out]
      go_wp2
      go_ret
      exact ⟨rfl, rfl⟩
end Go.Proofs.Ytfemanblkmcglaa
