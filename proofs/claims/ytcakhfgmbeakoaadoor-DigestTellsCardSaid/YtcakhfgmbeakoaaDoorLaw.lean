/- The law's own functions. -/
import Derived.Test.YtcakhfgmbeakoaaDoorDig
import Derived.Test.YtcakhfgmbeakoaaDoorSum
import Derived.Test.YtcakhfgmbeakoaaDoorRefDig
namespace Go.Proofs.YtcakhfgmbeakoaaDoor
open Go.RowKit Sha

def FewPost (ss : List ByteArray) (len : Nat) (w : World) (e : Ending) (w' : World) : Prop := ∃ b : Bool, e = .returned (.bool b) ∧ (b = true → len ≤ 100 ∧ (cat ss).length ≤ 4000) ∧ w = w'
set_option maxRecDepth 100000 in
set_option maxHeartbeats 1000000 in
theorem few_any (a : Option Addr) (len cap : Nat) (ss : List ByteArray) (w : World) (hS : Strs a len ss w) (hr : ∀ i, i < len → (ss.getD i ByteArray.empty).size ≤ 140737488355328) :
    Calls Tryd.prog 5 #[.slice a len cap] w (FewPost ss len w) := by
  go_enter Tryd.func5, Tryd.ntmps5
  go_wp2
  go_loop [3, 4] (fun n i => ∃ k : Nat, k ≤ len ∧ k ≤ 100 ∧ (cat (ss.take k)).length ≤ 4000 ∧ i = .int .i64 k ∧ n = .int .i64 ((cat (ss.take k)).length : Nat)) (fun _ i => 101 - (intOf i).toNat)
  case atStart => exact ⟨0, by omega, by omega, by simp [cat], rfl, rfl⟩
  case round =>
    obtain ⟨k, hk, hk1, hn, rfl, rfl⟩ := hrel
    by_cases hlt : k < len
    · obtain ⟨b, off, rfl, hcell⟩ := hS.cell k hlt
      have hks : k < ss.length := by rw [← hS.count]; exact hlt
      have hC := cat_take_succ ss k hks
      have hx := hr k hlt
      generalize ss.getD k ByteArray.empty = x at hcell hC hx
      have hL : (cat (ss.take (k + 1))).length = (cat (ss.take k)).length + x.size := by rw [hC, List.length_append]; rfl
      have HL := Lib.hid hL
      clear hC hL
      generalize (cat (ss.take k)).length = n at hn HL ⊢
      have hk0 : (k : Int) < (len : Int) := by omega
      have hx1 : (x.size : Int) ≤ 140737488355328 := by omega
      have hx0 : (0 : Int) ≤ (x.size : Int) := by omega
      have hn1 : (n : Int) ≤ 4000 := by omega
      have hn0 : (0 : Int) ≤ (n : Int) := by omega
      by_cases h100 : k < 100
      · have h1 : (k : Int) < 100 := by omega
        by_cases h4 : n + x.size ≤ 4000
        · have h2 : (n : Int) + (x.size : Int) ≤ 4000 := by omega
          go_wp2
          go_round
          case rel => exact ⟨k + 1, by omega, by omega, by rw [HL.out]; omega, by go_num, by rw [HL.out]; go_num⟩
          case measure => simp [intOf]; omega
        · have h2 : (4000 : Int) < (n : Int) + (x.size : Int) := by omega
          go_wp2
          go_ret
          exact ⟨false, rfl, (by intro h; cases h), rfl⟩
      · have h1 : (100 : Int) ≤ (k : Int) := by omega
        go_wp2
        all_goals
          go_ret
          exact ⟨false, rfl, (by intro h; cases h), rfl⟩
    · have hk2 : (len : Int) ≤ (k : Int) := by omega
      have hfin : len ≤ 100 ∧ (cat ss).length ≤ 4000 := by
        obtain rfl : k = len := by omega
        rw [hS.count, List.take_length] at hn
        exact ⟨hk1, hn⟩
      have HF := Lib.hid hfin
      clear hfin
      go_wp2
      go_ret
      exact ⟨true, rfl, fun _ => HF.out, rfl⟩

theorem IOk.lt {w : World} (h : IOk w) : 0 < w.heap.size := block_lt_of_cell (h 0 (by omega))
theorem IOk.below {w w' : World} (h : IOk w) (hb : Below w.heap.size w w') : IOk w' := fun j hj => (hb.cell (p := ⟨0, j, none⟩) h.lt).trans (h j hj)
theorem strs_two (w : World) (x y : ByteArray) : Strs (some ⟨w.heap.size, 0, none⟩) 2 [x, y] (w.alloc (.cells #[.string x, .string y] 9)) :=
  ⟨rfl, fun i hi => ⟨w.heap.size, 0, rfl, by
    match i, hi with
    | 0, _ => simp
    | 1, _ => simp⟩⟩
theorem strs_one (w : World) (x : ByteArray) : Strs (some ⟨w.heap.size, 0, none⟩) 1 [x] (w.alloc (.cells #[.string x] 9)) :=
  ⟨rfl, fun i hi => ⟨w.heap.size, 0, rfl, by
    match i, hi with
    | 0, _ => simp⟩⟩
theorem sha_empty : digits (sha []) = [101, 51, 98, 48, 99, 52, 52, 50, 57, 56, 102, 99, 49, 99, 49, 52, 57, 97, 102, 98, 102, 52, 99, 56, 57, 57, 54, 102, 98, 57, 50, 52, 50, 55, 97, 101, 52, 49, 101, 52, 54, 52, 57, 98, 57, 51, 52, 99, 97, 52, 57, 53, 57, 57, 49, 98, 55, 56, 53, 50, 98, 56, 53, 53] := by decide +kernel
theorem sha_abc : digits (sha [97, 98, 99]) = [98, 97, 55, 56, 49, 54, 98, 102, 56, 102, 48, 49, 99, 102, 101, 97, 52, 49, 52, 49, 52, 48, 100, 101, 53, 100, 97, 101, 50, 50, 50, 51, 98, 48, 48, 51, 54, 49, 97, 51, 57, 54, 49, 55, 55, 97, 57, 99, 98, 52, 49, 48, 102, 102, 54, 49, 102, 50, 48, 48, 49, 53, 97, 100] := by decide +kernel

set_option maxRecDepth 100000 in
set_option maxHeartbeats 1000000 in
theorem awake_any (w : World) (hK : KOk w) (hI : IOk w) :
    Calls Tryd.prog 4 #[] w fun e w' => e = .returned (.bool true) ∧ Below w.heap.size w w' := by
  go_enter Tryd.func4, Tryd.ntmps4
  go_wp2_with fail
  refine (sum_any none 0 0 [] _ hK hI ⟨rfl, fun i hi => by omega⟩ (by simp [cat]) (by omega)).mono ?_
  rintro e w1 ⟨rfl, hw1⟩
  dsimp only
  go_wp2_with fail
  refine (digits_any _ _ (by show (sha _).toArray.size ≤ _; rw [List.size_toArray, sha_length]; omega)).mono ?_
  rintro e w2 ⟨rfl, hw2⟩
  rw [show cat [] = [] from rfl, show (ByteArray.mk (sha []).toArray).data.toList = sha [] from rfl, sha_empty]
  dsimp only
  go_wp2_with fail
  have hB2 := hw1.trans (hw2.mono hw1.size)
  have hK2 := (hK.below hw1).below hw2
  have hI2 := (hI.below hw1).below hw2
  clear hK hI
  have hA2 := (Below.refl w2.heap.size w2).alloc (Nat.le_refl _) (.cells #[Value.string ⟨#[97]⟩, Value.string ⟨#[98, 99]⟩] 9)
  refine (sum_any _ _ _ [⟨#[97]⟩, ⟨#[98, 99]⟩] _ (hK2.below hA2) (hI2.below hA2) (strs_two w2 _ _) (by decide) (by omega)).mono ?_
  rintro e w3 ⟨rfl, hw3⟩
  rw [show cat [⟨#[97]⟩, ⟨#[98, 99]⟩] = [97, 98, 99] from rfl]
  dsimp only
  go_wp2_with fail
  refine (digits_any _ _ (by show (sha _).toArray.size ≤ _; rw [List.size_toArray, sha_length]; omega)).mono ?_
  rintro e w4 ⟨rfl, hw4⟩
  have hB4 := ((hB2.trans (hA2.mono hB2.size)).trans (hw3.mono (Nat.le_trans hB2.size (by simp)))).trans (hw4.mono (Nat.le_trans (Nat.le_trans hB2.size (Nat.le_succ _)) (by have := hw3.size; simpa using this)))
  have hK4 := ((hK2.below hA2).below hw3).below hw4
  have hI4 := ((hI2.below hA2).below hw3).below hw4
  rw [show (ByteArray.mk (sha [97, 98, 99]).toArray).data.toList = sha [97, 98, 99] from rfl, sha_abc]
  clear hK2 hI2 hA2 hB2 hw1 hw2 hw3 hw4
  dsimp only
  go_wp2_with fail
  have hA4 := (Below.refl w4.heap.size w4).alloc (Nat.le_refl _) (.cells #[Value.string ⟨#[97]⟩] 9)
  refine (join_any 1 _ _ _ [⟨#[97]⟩] _ (hK4.below hA4) (hI4.below hA4) (strs_one w4 _) (by decide) (by omega)).mono ?_
  rintro e w5 ⟨rfl, hw5⟩
  rw [show (1 : UInt8) :: joined [⟨#[97]⟩] = [1, 0, 0, 0, 1, 97] from rfl]
  generalize hv : sha [1, 0, 0, 0, 1, 97] = sv
  have HV := Lib.hid hv
  clear hv
  have hB5 := (hB4.trans (hA4.mono hB4.size)).trans (hw5.mono (Nat.le_trans hB4.size (by simp)))
  have hK5 := (hK4.below hA4).below hw5
  have hI5 := (hI4.below hA4).below hw5
  clear hK4 hI4 hA4 hB4 hw5
  dsimp only
  go_wp2_with fail
  have hA5 := (Below.refl w5.heap.size w5).alloc (Nat.le_refl _) (.cells #[Value.string ⟨#[1, 0, 0, 0, 1, 97]⟩] 9)
  refine (sum_any _ _ _ [⟨#[1, 0, 0, 0, 1, 97]⟩] _ (hK5.below hA5) (hI5.below hA5) (strs_one w5 _) (by decide) (by omega)).mono ?_
  rintro e w6 ⟨rfl, hw6⟩
  rw [show cat [⟨#[1, 0, 0, 0, 1, 97]⟩] = [1, 0, 0, 0, 1, 97] from rfl, HV.out]
  have hB6 := (hB5.trans (hA5.mono hB5.size)).trans (hw6.mono (Nat.le_trans hB5.size (by simp)))
  clear hK5 hI5 hA5 hB5 hw6
  dsimp only
  go_wp2_with fail
  refine (digits_any _ _ (by decide)).mono ?_
  rintro e w7 ⟨rfl, hw7⟩
  rw [show digits (ByteArray.mk #[15]).data.toList = [48, 102] from rfl]
  dsimp only
  go_wp2_with fail
  go_ret
  exact ⟨rfl, hB6.trans (hw7.mono hB6.size)⟩
end Go.Proofs.YtcakhfgmbeakoaaDoor
