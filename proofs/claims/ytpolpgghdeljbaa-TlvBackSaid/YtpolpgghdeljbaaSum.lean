/- crc.Sum. -/
import Derived.Test.YtpolpgghdeljbaaLeaf
namespace Go.Proofs.Ytpolpgghdeljbaa
open Go.RowKit Crc
attribute [local go_sem 9000] sem_not32

/-- A slice of texts. -/
structure Strs (a : Option Addr) (len : Nat) (ss : List ByteArray) (w : World) : Prop where
  count : len = ss.length
  cell : ∀ i, i < len → ∃ b off, a = some ⟨b, off, none⟩ ∧ w.cell? ⟨b, off + i, none⟩ = some (.string (ss.getD i ByteArray.empty))
theorem Strs.below {a : Option Addr} {len : Nat} {ss : List ByteArray} {w w' : World} (h : Strs a len ss w) (hb : Below w.heap.size w w') : Strs a len ss w' :=
  ⟨h.count, fun i hi => by
    obtain ⟨b, off, ha, hc⟩ := h.cell i hi
    exact ⟨b, off, ha, (hb.cell (p := ⟨b, off + i, none⟩) (block_lt_of_cell hc)).trans hc⟩⟩
def cat (ss : List ByteArray) : List UInt8 := ss.flatMap fun s => s.data.toList
theorem cat_take_succ (ss : List ByteArray) (k : Nat) (h : k < ss.length) : cat (ss.take (k + 1)) = cat (ss.take k) ++ (ss.getD k ByteArray.empty).data.toList := by
  rw [List.take_succ_eq_append_getElem h]
  unfold cat
  rw [List.flatMap_append]
  simp [List.getD, List.getElem?_eq_getElem h]
theorem take_snoc (s : ByteArray) (k : Nat) (h : k < s.size) : s.data.toList.take (k + 1) = s.data.toList.take k ++ [s[k]] := by
  rw [List.take_succ_eq_append_getElem (by simpa using h)]; rfl
theorem take_all (s : ByteArray) : s.data.toList.take s.size = s.data.toList := by
  rw [show s.size = s.data.toList.length from Array.length_toList.symm, List.take_length]

set_option maxRecDepth 100000 in
set_option maxHeartbeats 1000000 in
theorem sum_any (a : Option Addr) (len cap : Nat) (ss : List ByteArray) (w : World) (hS : Strs a len ss w) (hr : ∀ i, i < len → (ss.getD i ByteArray.empty).size ≤ 140737488355328) (hlen : len ≤ 140737488355328) :
    Calls Try.prog 28 #[.slice a len cap] w fun e w' => e = .returned (wv (crc (cat ss))) ∧ w = w' := by
  have hl1 : (len : Int) ≤ 140737488355328 := by omega
  go_enter Try.func28, Try.ntmps28
  go_wp2
  go_loop [3, 9] (fun x i => ∃ k : Nat, k ≤ len ∧ i = .int .i64 k ∧ x = wv (run ones (cat (ss.take k)))) (fun _ i => len - (intOf i).toNat)
  case atStart => exact ⟨0, by omega, rfl, rfl⟩
  case round =>
    obtain ⟨k, hk, rfl, rfl⟩ := hrel
    by_cases hlt : k < len
    · obtain ⟨b, off, rfl, hcell⟩ := hS.cell k hlt
      have hks : k < ss.length := by rw [← hS.count]; exact hlt
      have HC := Lib.hid (cat_take_succ ss k hks)
      have hx := hr k hlt
      generalize ss.getD k ByteArray.empty = x at hcell hx HC
      have hk0 : (k : Int) < (len : Int) := by omega
      have hx1 : (x.size : Int) ≤ 140737488355328 := by omega
      clear hx
      generalize hz : cat (ss.take k) = z at HC
      clear hz
      go_wp2
      go_loop [3, 15] (fun y i => ∃ j : Nat, j ≤ x.size ∧ i = .int .i64 j ∧ y = wv (run (run ones z) (x.data.toList.take j))) (fun _ i => x.size - (intOf i).toNat)
      case atStart => exact ⟨0, by omega, rfl, rfl⟩
      case round =>
        obtain ⟨j, hj, rfl, rfl⟩ := hrel
        by_cases hjl : j < x.size
        · have hj0 : (j : Int) < (x.size : Int) := by omega
          have HT := Lib.hid (show byte (run (run ones z) (x.data.toList.take j)) x[j] = run (run ones z) (x.data.toList.take (j + 1)) by rw [take_snoc x j hjl, run_snoc])
          go_wp2_with fail
          refine (shiftByte_any _ _ _).mono ?_
          rintro e w' ⟨rfl, rfl⟩
          rw [HT.out]
          dsimp only
          go_wp2_with fail
          go_round
          case rel => exact ⟨j + 1, by omega, by go_num, rfl⟩
          case measure => simp [intOf]; omega
        · obtain rfl : j = x.size := by omega
          have HT := Lib.hid (show run (run ones z) (x.data.toList.take x.size) = run ones (cat (ss.take (k + 1))) by rw [take_all, HC.out, run_append])
          rw [HT.out]
          go_wp2_with fail
          go_round
          case rel => exact ⟨k + 1, by omega, by go_num, rfl⟩
          case measure => simp [intOf]; omega
    · obtain rfl : k = len := by omega
      have HE := Lib.hid (show cat (ss.take k) = cat ss by rw [hS.count, List.take_length])
      rw [HE.out]
      go_wp2
      go_ret
      exact ⟨rfl, rfl⟩
end Go.Proofs.Ytpolpgghdeljbaa
