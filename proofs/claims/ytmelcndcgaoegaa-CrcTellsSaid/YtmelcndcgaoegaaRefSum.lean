/- The document's sum. -/
import Derived.Test.YtmelcndcgaoegaaSum
namespace Go.Proofs.Ytmelcndcgaoegaa
open Go.RowKit Crc
attribute [local go_sem 9000] sem_xorpoly sem_subones sem_quo2 sem_rem2 sem_neq01 sem_shr8 sem_remsh8 run_sh8

set_option maxRecDepth 100000 in
set_option maxHeartbeats 2000000 in
theorem refSum_any (a : Option Addr) (len cap : Nat) (ss : List ByteArray) (w : World) (hS : Strs a len ss w) (hr : ∀ i, i < len → (ss.getD i ByteArray.empty).size ≤ 140737488355328) (hlen : len ≤ 140737488355328) :
    Calls Try.prog 11 #[.slice a len cap] w fun e w' => e = .returned (wv (crc (cat ss))) ∧ w = w' := by
  have hl1 : (len : Int) ≤ 140737488355328 := by omega
  go_enter Try.func11, Try.ntmps11
  go_wp2
  go_loop [3, 4] (fun x i => ∃ k : Nat, k ≤ len ∧ i = .int .i64 k ∧ x = wv (run ones (cat (ss.take k)))) (fun _ i => len - (intOf i).toNat)
  case atStart => exact ⟨0, by omega, rfl, rfl⟩
  case round =>
    obtain ⟨k, hk, rfl, rfl⟩ := hrel
    by_cases hlt : k < len
    · obtain ⟨b, off, rfl, hcell⟩ := hS.cell k hlt
      have hks : k < ss.length := by rw [← hS.count]; exact hlt
      have HC := Lib.hid (cat_take_succ ss k hks)
      have hx := hr k hlt
      generalize ss.getD k ByteArray.empty = x at hcell hx HC
      have hk0 : (k : Int) < (len : Int) := by omega
      have hx1 : (x.size : Int) ≤ 140737488355328 := by omega
      clear hx
      generalize hz : cat (ss.take k) = z at HC
      clear hz
      go_wp2
      go_loop [3, 5] (fun y i => ∃ j : Nat, j ≤ x.size ∧ i = .int .i64 j ∧ y = wv (run (run ones z) (x.data.toList.take j))) (fun _ i => x.size - (intOf i).toNat)
      case atStart => exact ⟨0, by omega, rfl, rfl⟩
      case round =>
        obtain ⟨j, hj, rfl, rfl⟩ := hrel
        by_cases hjl : j < x.size
        · have hj0 : (j : Int) < (x.size : Int) := by omega
          have HT := Lib.hid (show fbits (run (run ones z) (x.data.toList.take j)) x[j] 8 = run (run ones z) (x.data.toList.take (j + 1)) by rw [take_snoc x j hjl, run_snoc]; rfl)
          generalize run (run ones z) (x.data.toList.take j) = y at HT
          go_wp2
          generalize hc : x[j] = c at HT
          have HB := Lib.hid hc
          clear hc
          go_loop [3, 6] (fun v i => ∃ n : Nat, n ≤ 8 ∧ i = .int .i64 n ∧ v = wv (fbits y c n)) (fun _ i => 8 - (intOf i).toNat)
          case atStart => exact ⟨0, by omega, rfl, rfl⟩
          case round =>
            obtain ⟨n, hn, rfl, rfl⟩ := hrel
            by_cases hnl : n < 8
            · have hn0 : (n : Int) < 8 := by omega
              have HN := Lib.hid (show fbit (fbits y c n) (tb c n) = fbits y c (n + 1) from rfl)
              have HF := Lib.hid (show ∀ v b, fbit v b = if (par v ^^ b) then v >>> 1 ^^^ poly else v >>> 1 from fun _ _ => rfl)
              generalize fbits y c n = v at HN
              have hbyte := HB.out
              cases hb : (par v ^^ tb c n) with
              | true =>
                go_wp2
                go_round
                case rel => exact ⟨n + 1, by omega, by go_num, by rw [← HN.out, HF.out, hb, if_pos rfl]⟩
                case measure => simp [intOf]; omega
              | false =>
                go_wp2
                go_round
                case rel => exact ⟨n + 1, by omega, by go_num, by rw [← HN.out, HF.out, hb, if_neg (by simp)]⟩
                case measure => simp [intOf]; omega
            · obtain rfl : n = 8 := by omega
              rw [HT.out]
              go_wp2
              go_round
              case rel => exact ⟨j + 1, by omega, by go_num, rfl⟩
              case measure => simp [intOf]; omega
        · obtain rfl : j = x.size := by omega
          have HT := Lib.hid (show run (run ones z) (x.data.toList.take x.size) = run ones (cat (ss.take (k + 1))) by rw [take_all, HC.out, run_append])
          rw [HT.out]
          go_wp2
          go_round
          case rel => exact ⟨k + 1, by omega, by go_num, rfl⟩
          case measure => simp [intOf]; omega
    · obtain rfl : k = len := by omega
      have HE := Lib.hid (show cat (ss.take k) = cat ss by rw [hS.count, List.take_length])
      rw [HE.out]
      go_wp2
      go_ret
      exact ⟨rfl, rfl⟩
end Go.Proofs.Ytmelcndcgaoegaa
