/- digest.Digits. -/
import Derived.Test.YtcakhfgmbeakoaaDoorFinish
namespace Go.Proofs.YtcakhfgmbeakoaaDoor
open Go.RowKit Sha

theorem index_hex (n : Nat) (hn : n < 16) (i : Int) (hi : i = n) : ∀ w : World, (Instr.index 9 (.string ⟨#[48, 49, 50, 51, 52, 53, 54, 55, 56, 57, 97, 98, 99, 100, 101, 102]⟩) (.int .u8 i)).run Tryd.prog w = .ok (bv (hexd (UInt8.ofNat n))) w := by
  intro w
  subst hi
  match n, hn with
  | 0, _ => exact rfl
  | 1, _ => exact rfl
  | 2, _ => exact rfl
  | 3, _ => exact rfl
  | 4, _ => exact rfl
  | 5, _ => exact rfl
  | 6, _ => exact rfl
  | 7, _ => exact rfl
  | 8, _ => exact rfl
  | 9, _ => exact rfl
  | 10, _ => exact rfl
  | 11, _ => exact rfl
  | 12, _ => exact rfl
  | 13, _ => exact rfl
  | 14, _ => exact rfl
  | 15, _ => exact rfl
  | k + 16, h => exact absurd h (by omega)
theorem digits_take_succ (x : ByteArray) (k : Nat) (h : k < x.size) : digits (x.data.toList.take (k + 1)) = digits (x.data.toList.take k) ++ [hexd (UInt8.ofNat (x[k].toNat / 16)), hexd (UInt8.ofNat (x[k].toNat % 16))] := by
  have h2 : k < x.data.toList.length := by rw [Array.length_toList]; exact h
  have e1 : UInt8.ofNat (x[k].toNat / 16) = x[k] / 16 := by rw [← UInt8.toNat_inj, UInt8.toNat_ofNat', UInt8.toNat_div]; have := x[k].toNat_lt; show _ = x[k].toNat / 16; omega
  have e2 : UInt8.ofNat (x[k].toNat % 16) = x[k] % 16 := by rw [← UInt8.toNat_inj, UInt8.toNat_ofNat', UInt8.toNat_mod]; have := x[k].toNat_lt; show _ = x[k].toNat % 16; omega
  rw [List.take_succ_eq_append_getElem h2, e1, e2]
  unfold digits
  rw [List.flatMap_append]
  rfl
theorem digits_length (l : List UInt8) : (digits l).length = 2 * l.length := by
  induction l with
  | nil => rfl
  | cons a l ih => show (_ :: _ :: digits l).length = _; rw [List.length_cons, List.length_cons, ih, List.length_cons]; omega
theorem and15 (c : UInt8) : bits .and .u8 (c.toNat : Int) 15 = (c.toNat : Int) % 16 := by
  rw [show (15 : Int) = ((15 : Nat) : Int) from rfl, u8_and_nat _ _ c.toNat_lt (by omega), nat_mask4]; rfl

set_option maxRecDepth 100000 in
set_option maxHeartbeats 1000000 in
theorem digits_any (x : ByteArray) (w : World) (hx : x.size ≤ 1000000) :
    Calls Tryd.prog 10 #[.string x] w fun e w' => e = .returned (.string ⟨(digits x.data.toList).toArray⟩) ∧ Below w.heap.size w w' := by
  have hx1 : (x.size : Int) ≤ 1000000 := by omega
  have hx0 : (0 : Int) ≤ (x.size : Int) := by omega
  go_enter Tryd.func10, Tryd.ntmps10
  go_wp2_with fail
  refine (Any.Builder_Grow_fresh lays165 extra w.heap.size w.heap.size (2 * x.size) _ (Nat.le_refl _) (heap_alloc_new w _) (by simp) (by omega)).mono ?_
  rintro e w2 ⟨rfl, hB, hW⟩
  dsimp only
  go_wp2_with fail
  go_loopw [11] (fun i wr => ∃ k : Nat, k ≤ x.size ∧ i = .int .i64 k ∧ Lib.IsBuilder 48 5 w.heap.size w.heap.size (Lib.byteCells (digits (x.data.toList.take k))) wr ∧ Below w.heap.size w wr) (fun i _ => x.size - (intOf i).toNat)
  case atStart => exact ⟨0, by omega, rfl, .inr hB, ((Below.refl _ _).alloc (Nat.le_refl _) _).trans hW⟩
  case round =>
    clear hB hW
    obtain ⟨k, hk, rfl, hB, hW⟩ := hrel
    by_cases hlt : k < x.size
    · have hk0 : (k : Int) < (x.size : Int) := by omega
      have HD := Lib.hid (digits_take_succ x k hlt)
      have hby := x[k].toNat_lt
      have ha := and15 x[k]
      have hi1 := index_hex (x[k].toNat / 16) (by omega) ((x[k].toNat : Int) / 16) (by omega)
      have hi2 := index_hex (x[k].toNat % 16) (by omega) ((x[k].toNat : Int) % 16) (by omega)
      have hlen : (Lib.byteCells (digits (x.data.toList.take k))).length ≤ 2 * x.size := by
        have e : (Lib.byteCells (digits (x.data.toList.take k))).length = 2 * min k x.data.toList.length := by
          unfold Lib.byteCells; rw [List.length_map, digits_length, List.length_take]
        have e2 : x.data.toList.length = x.size := Array.length_toList
        omega
      clear hby
      go_wp2_with fail
      refine (Any.Builder_WriteByte lays167 extra w.heap.size w.heap.size _ _ _ hB (by omega) hW.size).mono ?_
      rintro e w3 ⟨rfl, hB3, hW3⟩
      dsimp only
      go_wp2_with fail
      refine (Any.Builder_WriteByte lays167 extra w.heap.size w.heap.size _ _ _ (.inr hB3) (by rw [List.length_append]; simp only [List.length_cons, List.length_nil]; omega) (Nat.le_trans hW.size hW3.size)).mono ?_
      rintro e w4 ⟨rfl, hB4, hW4⟩
      dsimp only
      go_wp2_with fail
      go_roundw
      case rel =>
        refine ⟨k + 1, by omega, by go_num, .inr ?_, (hW.trans hW3).trans hW4⟩
        rw [HD.out, ← byteCells_append]
        rw [List.append_assoc] at hB4
        exact hB4
      case measure => simp [intOf]; omega
    · obtain rfl : k = x.size := by omega
      have e2 : x.data.toList.length = x.size := Array.length_toList
      rw [← e2, List.take_length] at hB
      clear e2
      go_wp2_with fail
      refine (Any.Builder_String_any lays169 extra w.heap.size w.heap.size _ _ hB hW.size).mono ?_
      rintro e w6 ⟨rfl, hw6⟩
      dsimp only
      go_wp2_with fail
      go_ret
      exact ⟨rfl, hW.trans hw6⟩
end Go.Proofs.YtcakhfgmbeakoaaDoor
