/- The document's Digits. -/
import Derived.Test.YtcakhfgmbeakoaaDoorDig
namespace Go.Proofs.YtcakhfgmbeakoaaDoor
open Go.RowKit Sha
attribute [local go_sem 9000] run_bytes1

def lstr (l : List UInt8) : ByteArray := ⟨l.toArray⟩
theorem lstr_size (l : List UInt8) : (lstr l).size = l.length := by show l.toArray.size = _; rw [List.size_toArray]
theorem lstr_append (a b : List UInt8) : lstr a ++ lstr b = lstr (a ++ b) := by
  apply ByteArray.ext
  rw [ByteArray.data_append]
  apply Array.ext'
  rw [Array.toList_append]; rfl
theorem lstr_one (a : UInt8) : (⟨#[a]⟩ : ByteArray) = lstr [a] := rfl
theorem hexd_lo (n : Nat) (h : n < 10) : (48 : Int) + (n : Int) = ((hexd (UInt8.ofNat n)).toNat : Int) := by
  obtain rfl | rfl | rfl | rfl | rfl | rfl | rfl | rfl | rfl | rfl : n = 0 ∨ n = 1 ∨ n = 2 ∨ n = 3 ∨ n = 4 ∨ n = 5 ∨ n = 6 ∨ n = 7 ∨ n = 8 ∨ n = 9 := by omega
  all_goals rfl
theorem hexd_hi (n : Nat) (h : 10 ≤ n) (h2 : n < 16) : (87 : Int) + (n : Int) = ((hexd (UInt8.ofNat n)).toNat : Int) := by
  obtain rfl | rfl | rfl | rfl | rfl | rfl : n = 10 ∨ n = 11 ∨ n = 12 ∨ n = 13 ∨ n = 14 ∨ n = 15 := by omega
  all_goals rfl
/-- A nibble of a byte. -/
def nib (c : UInt8) (j : Nat) : Nat := if j = 0 then c.toNat / 16 else c.toNat % 16
theorem nib_lt (c : UInt8) (j : Nat) : nib c j < 16 := by
  have := c.toNat_lt
  unfold nib; split <;> omega
/-- The digits of a byte, the first j. -/
def half (c : UInt8) (j : Nat) : List UInt8 := [hexd (UInt8.ofNat (c.toNat / 16)), hexd (UInt8.ofNat (c.toNat % 16))].take j

theorem half_zero (c : UInt8) : half c (0 + 1) = half c 0 ++ [hexd (UInt8.ofNat (nib c 0))] := rfl
theorem half_one (c : UInt8) : half c (1 + 1) = half c 1 ++ [hexd (UInt8.ofNat (nib c 1))] := rfl
set_option maxRecDepth 100000 in
set_option maxHeartbeats 1000000 in
theorem refDigits_any (x : ByteArray) (w : World) (hx : x.size ≤ 1000000) :
    Calls Tryd.prog 11 #[.string x] w fun e w' => e = .returned (.string (lstr (digits x.data.toList))) ∧ Below w.heap.size w w' := by
  have hx1 : (x.size : Int) ≤ 1000000 := by omega
  have hx0 : (0 : Int) ≤ (x.size : Int) := by omega
  go_enter Tryd.func11, Tryd.ntmps11
  go_wp2
  go_loopw [3, 4] (fun o i wr => ∃ k : Nat, k ≤ x.size ∧ i = .int .i64 k ∧ o = .string (lstr (digits (x.data.toList.take k))) ∧ Below w.heap.size w wr) (fun _ i _ => x.size - (intOf i).toNat)
  case atStart => exact ⟨0, by omega, rfl, rfl, Below.refl _ _⟩
  case round =>
    obtain ⟨k, hk, rfl, rfl, hW⟩ := hrel
    by_cases hlt : k < x.size
    · have hk0 : (k : Int) < (x.size : Int) := by omega
      have HD := Lib.hid (show digits (x.data.toList.take (k + 1)) = digits (x.data.toList.take k) ++ half x[k] 2 from digits_take_succ x k hlt)
      have hlen : (digits (x.data.toList.take k)).length ≤ 2 * x.size := by
        rw [digits_length, List.length_take]
        have e2 : x.data.toList.length = x.size := Array.length_toList
        omega
      go_wp2
      generalize digits (x.data.toList.take k) = L at hlen HD ⊢
      generalize hc : x[k] = c at HD ⊢
      have HC := Lib.hid hc
      clear hc
      obtain ⟨wo, rfl⟩ : ∃ wo : World, wo = wr := ⟨_, rfl⟩
      go_loopw [3, 5] (fun o i wr => ∃ j : Nat, j ≤ 2 ∧ i = .int .i64 j ∧ o = .string (lstr (L ++ half c j)) ∧ Below w.heap.size w wr) (fun _ i _ => 2 - (intOf i).toNat)
      case atStart => exact ⟨0, by omega, rfl, by simp [half], hW⟩
      case round =>
        clear hW
        obtain ⟨j, hj, rfl, rfl, hW⟩ := hrel
        by_cases hjl : j < 2
        · have hcc := HC.out
          have hby := c.toNat_lt
          have hL : (lstr (L ++ half c j)).size ≤ 2 * x.size + 2 := by
            rw [lstr_size, List.length_append]
            have : (half c j).length ≤ 2 := by unfold half; rw [List.length_take]; simp; omega
            omega
          have hn := nib_lt c j
          have hnib : nib c j = if j = 0 then c.toNat / 16 else c.toNat % 16 := rfl
          have HJ := Lib.hid (show L ++ half c (j + 1) = (L ++ half c j) ++ [hexd (UInt8.ofNat (nib c j))] by
            rw [List.append_assoc]
            obtain rfl | rfl : j = 0 ∨ j = 1 := by omega
            · rw [half_zero]
            · rw [half_one])
          generalize L ++ half c j = M at hL HJ ⊢
          have hMs : (0 : Int) ≤ ((lstr M).size : Int) := by omega
          have hMt : ((lstr M).size : Int) ≤ 2000002 := by omega
          have HA := Lib.hid (lstr_append M)
          generalize lstr M = mt at hMs hMt hL HA ⊢
          by_cases h10 : nib c j < 10
          · have hd := hexd_lo _ h10
            generalize hexd (UInt8.ofNat (nib c j)) = hx at hd HJ
            generalize nib c j = dn at hn hnib h10 hd
            have hn0 : (0 : Int) ≤ (dn : Int) := by omega
            have hn1 : (dn : Int) < 10 := by omega
            rcases Nat.lt_or_ge j 1 with hj0 | hj0
            · have ej : ((j : Int) == 1) = false := by rw [beq_eq_false_iff_ne]; omega
              have ed : (c.toNat : Int) / 16 = (dn : Int) := by rw [hnib, if_pos (by omega)]; rfl
              clear hnib hby hL
              go_wp2
              go_roundw
              case rel => exact ⟨j + 1, by omega, by go_num, by rw [HJ.out, ← HA.out, lstr_one], hW.alloc hW.size _⟩
              case measure => simp [intOf]; omega
            · have ej : ((j : Int) == 1) = true := by rw [beq_iff_eq]; omega
              have ed : (c.toNat : Int) % 16 = (dn : Int) := by rw [hnib, if_neg (by omega)]; rfl
              clear hnib hby hL
              go_wp2
              go_roundw
              case rel => exact ⟨j + 1, by omega, by go_num, by rw [HJ.out, ← HA.out, lstr_one], hW.alloc hW.size _⟩
              case measure => simp [intOf]; omega
          · have hd := hexd_hi _ (by omega) hn
            generalize hexd (UInt8.ofNat (nib c j)) = hx at hd HJ
            generalize nib c j = dn at hn hnib h10 hd
            have hn0 : (0 : Int) ≤ (dn : Int) := by omega
            have hn1 : (10 : Int) ≤ (dn : Int) := by omega
            have hn2 : (dn : Int) < 16 := by omega
            rcases Nat.lt_or_ge j 1 with hj0 | hj0
            · have ej : ((j : Int) == 1) = false := by rw [beq_eq_false_iff_ne]; omega
              have ed : (c.toNat : Int) / 16 = (dn : Int) := by rw [hnib, if_pos (by omega)]; rfl
              clear hnib hby hL
              go_wp2
              go_roundw
              case rel => exact ⟨j + 1, by omega, by go_num, by rw [HJ.out, ← HA.out, lstr_one], hW.alloc hW.size _⟩
              case measure => simp [intOf]; omega
            · have ej : ((j : Int) == 1) = true := by rw [beq_iff_eq]; omega
              have ed : (c.toNat : Int) % 16 = (dn : Int) := by rw [hnib, if_neg (by omega)]; rfl
              clear hnib hby hL
              go_wp2
              go_roundw
              case rel => exact ⟨j + 1, by omega, by go_num, by rw [HJ.out, ← HA.out, lstr_one], hW.alloc hW.size _⟩
              case measure => simp [intOf]; omega
        · obtain rfl : j = 2 := by omega
          go_wp2
          go_roundw
          case rel => exact ⟨k + 1, by omega, by go_num, by rw [HD.out], hW⟩
          case measure => simp [intOf]; omega
    · obtain rfl : k = x.size := by omega
      have e2 : x.data.toList.length = x.size := Array.length_toList
      have HE := Lib.hid (show x.data.toList.take x.size = x.data.toList by rw [← e2, List.take_length])
      clear e2
      go_wp2
      go_ret
      exact ⟨by rw [HE.out]; rfl, hW⟩
end Go.Proofs.YtcakhfgmbeakoaaDoor
