/- CrcBack walked. -/
import Derived.Test.YtmelcndcgaoegaaAwake
import Derived.Deep.RegionHeld3
import Derived.IntWalk
namespace Go.Proofs.Ytmelcndcgaoegaa
open Go.RowKit Crc
theorem sem_streq (t : TypeId) (x : ByteArray) : binOp .eql t (.string x) (.string x) = pure (.bool true) := by rw [binOp_string_eql, str_eq rfl]
theorem sem_inteq (t : TypeId) (k : IntKind) (x : Int) : binOp .eql t (.int k x) (.int k x) = pure (.bool true) := by rw [binOp_eql, beq_self_eq_true]
attribute [local go_sem 9000] sem_streq sem_inteq

/-- A text's sum, of its two parts that lie at the head of a block. -/
theorem sum_parts (x : ByteArray) (k b : Nat) (w : World) (hx : x.size ≤ 140737488355328) (h0 : w.cell? ⟨b, 0, none⟩ = some (.string (x.extract 0 k))) (h1 : w.cell? ⟨b, 1, none⟩ = some (.string (x.extract k x.size))) :
    Calls Try.prog 10 #[.slice (some ⟨b, 0, none⟩) 2 2] w fun e w' => e = .returned (wv (crc x.data.toList)) ∧ w = w' := by
  have := sum_any (some ⟨b, 0, none⟩) 2 2 [x.extract 0 k, x.extract k x.size] w ⟨rfl, fun i hi => ⟨b, 0, rfl, by
    match i, hi with
    | 0, _ => exact h0
    | 1, _ => exact h1⟩⟩ (each_two (Nat.le_trans (extract_le _ _ _) hx) (Nat.le_trans (extract_le _ _ _) hx)) (by omega)
  rw [cat_two, head_eq, tail_eq, lstr_data, lstr_data, List.take_append_drop] at this
  exact this

set_option maxRecDepth 100000 in
set_option maxHeartbeats 2000000 in
theorem back_any (x : ByteArray) (c : Int) (w : World) (hx : x.size ≤ 140737488355328) :
    Calls Try.prog 4 #[.string x, .int .i64 c] w fun e w' => e = .returned (.bool true) ∧ Below w.heap.size w w' := by
  go_enter Try.func4, Try.ntmps4
  go_wp2_with fail
  refine (awake_any _).mono ?_
  rintro e w1 ⟨rfl, hw1⟩
  dsimp only
  by_cases h1 : x.size ≤ 3000 ∧ 0 ≤ c ∧ c ≤ x.size
  · obtain ⟨h1, h2, h3⟩ := h1
    obtain ⟨k, rfl⟩ : ∃ k : Nat, c = k := ⟨c.toNat, by omega⟩
    have h1' : (x.size : Int) ≤ 3000 := by omega
    have h3' : (k : Int) ≤ (x.size : Int) := h3
    clear h2 h3
    go_wp2_with fail
    refine (seal_any x _ (by omega)).mono ?_
    rintro e w2 ⟨rfl, hw2⟩
    dsimp only
    go_wp2_with fail
    refine (open_any (lstr (sealed x.data.toList)) _ (by rw [lstr_size, sealed_length, Array.length_toList]; show x.size + 4 ≤ _; omega)).mono ?_
    rintro e w3 ⟨rfl, hw3⟩
    rw [lstr_data, opened_sealed, show lstr x.data.toList = x from rfl]
    have hB3 := (hw1.trans (hw2.mono hw1.size)).trans (hw3.mono (Nat.le_trans hw1.size hw2.size))
    have hL : (lstr (sealed x.data.toList)).size = x.size + 4 := by rw [lstr_size, sealed_length, Array.length_toList]; rfl
    have HX := Lib.hid hx
    have HY := Lib.hid (show x.size ≤ 140737488355320 by omega)
    have hwr : IntKind.i64.wrap ((x.size : Int) + 4) = (x.size : Int) + 4 := IntWalk.i64_in _ (by omega)
    clear hw1 hw2 hw3 hx
    dsimp only
    go_wp2_with fail
    go_region_held3 (fun _ => True) (trivial) (first
      | (go_at_call 10; (with_reducible refine (sum_cell x _ _ HX.out ?_).mono ?_); (simp); rintro e w4 ⟨rfl, rfl⟩)
      | (go_at_call 10; (with_reducible refine (sum_parts x k _ _ HX.out ?_ ?_).mono ?_); (simp); (simp); rintro e w5 ⟨rfl, rfl⟩)
      | (go_at_call 12; (with_reducible refine (seal_any x _ HY.out).mono ?_); rintro e w6 ⟨rfl, hw6⟩))
    all_goals
      go_wp2
      go_ret
      exact ⟨rfl, hB3.trans (((((Below.refl w3.heap.size w3).alloc (Nat.le_refl _) _).alloc (by simp) _).drew.trans (hw6.mono (by simp; omega))).mono hB3.size)⟩
  · rcases Nat.lt_or_ge 3000 x.size with h2 | h2
    · have h2' : (3000 : Int) < (x.size : Int) := by omega
      go_wp2
      go_ret
      exact ⟨rfl, hw1⟩
    · have h2' : (x.size : Int) ≤ 3000 := by omega
      by_cases h3 : c < 0
      · go_wp2
        go_ret
        exact ⟨rfl, hw1⟩
      · have h3' : 0 ≤ c := by omega
        have h4 : (x.size : Int) < c := by omega
        go_wp2
        go_ret
        exact ⟨rfl, hw1⟩
end Go.Proofs.Ytmelcndcgaoegaa
