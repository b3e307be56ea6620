/- The law's own question of size. -/
import Derived.Test.YtpolpgghdeljbaaRecs
namespace Go.Proofs.Ytpolpgghdeljbaa
open Go.RowKit Crc

set_option maxRecDepth 100000 in
set_option maxHeartbeats 1000000 in
theorem few_any (a : Option Addr) (len cap : Nat) (ss : List ByteArray) (w : World) (hS : Strs a len ss w) (hr : ∀ i, i < len → (ss.getD i ByteArray.empty).size ≤ 140737488355328) (hlen : len ≤ 140737488355328) :
    Calls Try.prog 7 #[.slice a len cap] w fun e w' => (e = .returned (.bool false) ∧ w = w') ∨ (e = .returned (.bool true) ∧ w = w' ∧ len ≤ 100 ∧ (cat ss).length ≤ 12000) := by
  have hl1 : (len : Int) ≤ 140737488355328 := by omega
  go_enter Try.func7, Try.ntmps7
  go_wp2
  go_loop [3, 4] (fun x i => ∃ k : Nat, k ≤ len ∧ k ≤ 100 ∧ (cat (ss.take k)).length ≤ 12000 ∧ i = .int .i64 k ∧ x = .int .i64 ((cat (ss.take k)).length : Int)) (fun _ i => len - (intOf i).toNat)
  case atStart => exact ⟨0, by omega, by omega, by simp [cat], rfl, rfl⟩
  case round =>
    obtain ⟨k, hk, hk1, hc, rfl, rfl⟩ := hrel
    by_cases hlt : k < len
    · obtain ⟨b, off, rfl, hcell⟩ := hS.cell k hlt
      have hks : k < ss.length := by rw [← hS.count]; exact hlt
      have hC := cat_take_succ ss k hks
      have hx := hr k hlt
      generalize ss.getD k ByteArray.empty = x at hcell hx hC
      have hsum : (cat (ss.take (k + 1))).length = (cat (ss.take k)).length + x.size := by rw [hC, List.length_append, Array.length_toList]; rfl
      have hk0 : (k : Int) < (len : Int) := by omega
      have HS := Lib.hid hsum
      have HC := Lib.hid hc
      generalize (cat (ss.take k)).length = n at hc HC HS hsum ⊢
      have hwr : IntKind.i64.wrap ((n : Int) + (x.size : Int)) = (n : Int) + (x.size : Int) := IntWalk.i64_in _ (by omega)
      by_cases h1 : 100 ≤ k
      · have h1' : (100 : Int) ≤ (k : Int) := by omega
        clear hx hC hsum hc
        go_wp2
        go_ret
        exact .inl ⟨rfl, rfl⟩
      · have h1' : (k : Int) < 100 := by omega
        by_cases h2 : 12000 < n + x.size
        · have h2' : (12000 : Int) < (n : Int) + (x.size : Int) := by omega
          clear hx hC hsum hc
          go_wp2
          go_ret
          exact .inl ⟨rfl, rfl⟩
        · have h2' : (n : Int) + (x.size : Int) ≤ 12000 := by omega
          have HX := Lib.hid (show (cat (ss.take (k + 1))).length ≤ 12000 by omega)
          have HY := Lib.hid (show ((n : Int) + (x.size : Int)) = ((cat (ss.take (k + 1))).length : Int) by omega)
          clear hx hC hsum hc
          go_wp2
          go_round
          case rel => exact ⟨k + 1, by omega, by omega, HX.out, by go_num, by rw [HY.out]⟩
          case measure => simp [intOf]; omega
    · obtain rfl : k = len := by omega
      have HE := Lib.hid (show (cat ss).length ≤ 12000 by rw [hS.count, List.take_length] at hc; exact hc)
      clear hc
      go_wp2
      go_ret
      exact .inr ⟨rfl, rfl, HE.out⟩
end Go.Proofs.Ytpolpgghdeljbaa
