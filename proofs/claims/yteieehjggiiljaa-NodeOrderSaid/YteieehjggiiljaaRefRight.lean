/- The document's Right. -/
import Derived.Test.YteieehjggiiljaaBase
namespace Go.Proofs.Yteieehjggiiljaa
set_option maxRecDepth 100000
open Go.RowKit
theorem b_at (s : ByteArray) {i : Nat} (h : i < s.size) : s[i] = s.data.toList.getD i 0 := by
  rw [List.getD, List.getElem?_eq_getElem (by rw [Array.length_toList]; exact h)]; rfl
theorem all_take {l : List UInt8} {p : UInt8 → Bool} {k : Nat} (h : k < l.length) (ha : (l.take k).all p = true) (hk : p (l.getD k 0) = true) : (l.take (k + 1)).all p = true := by
  rw [List.take_succ_eq_append_getElem h, List.all_append, ha]
  rw [List.getD, List.getElem?_eq_getElem h] at hk
  simpa using hk
theorem not_all {l : List UInt8} {p : UInt8 → Bool} {k : Nat} (h : k < l.length) (hk : p (l.getD k 0) = false) : l.all p = false := by
  rw [List.all_eq_false]
  refine ⟨l[k], List.getElem_mem h, ?_⟩
  rw [List.getD, List.getElem?_eq_getElem h] at hk
  simpa using hk
theorem right_no {l : List UInt8} {k : Nat} (h : k < l.length) (hk : l.getD k 0 = 47 ∨ l.getD k 0 = 0) : Nm.right l = false := by
  unfold Nm.right
  rw [not_all h (by rcases hk with e | e <;> rw [e] <;> rfl)]; simp
def RightPost (s : ByteArray) (w : World) (e : Ending) (w' : World) : Prop := e = .returned (.bool (Nm.right s.data.toList)) ∧ w = w'
set_option maxHeartbeats 2000000 in
theorem refRight_any (s : ByteArray) (w : World) (hs : s.size ≤ 140737488355328) : Calls Try.prog 34 #[.string s] w (RightPost s w) := by
  have hsi : (s.size : Int) ≤ 140737488355328 := by omega
  have HL := Lib.hid (show s.data.toList.length = s.size from Array.length_toList)
  go_enter Try.func34, Try.ntmps34
  go_wp2_with fail
  go_loop [3] (fun i => ∃ k : Nat, k ≤ s.size ∧ i = .int .i64 k ∧ (s.data.toList.take k).all (fun x => x != 47 && x != 0) = true) (fun i => s.size - (intOf i).toNat)
  case atStart => exact ⟨0, Nat.zero_le _, rfl, rfl⟩
  case round =>
    obtain ⟨k, hk, rfl, hb⟩ := hrel
    by_cases hlt : k < s.size
    · have k0 : (k : Int) < (s.size : Int) := by omega
      have hk0 : (0 : Int) ≤ (k : Int) := by omega
      have hko : k < s.data.size := hlt
      have hat := b_at s hlt
      have HA := Lib.hid (fun h => all_take (l := s.data.toList) (k := k) (by rw [HL.out]; exact hlt) hb h)
      have HN := Lib.hid (fun h => right_no (l := s.data.toList) (k := k) (by rw [HL.out]; exact hlt) h)
      rw [← hat] at HA HN
      clear hb hat
      by_cases h47 : s[k] = 47
      · have hz : s[k].toNat = 47 := by rw [h47]; rfl
        have HR := Lib.hid (HN.out (.inl h47))
        clear h47 HA HN
        go_wp2_with fail
        go_ret
        show RightPost s w _ _
        unfold RightPost
        rw [HR.out]
        exact ⟨rfl, rfl⟩
      · by_cases h0 : s[k] = 0
        · have hz : s[k].toNat = 0 := by rw [h0]; rfl
          have HR := Lib.hid (HN.out (.inr h0))
          clear h47 h0 HA HN
          go_wp2_with fail
          go_ret
          show RightPost s w _ _
          unfold RightPost
          rw [HR.out]
          exact ⟨rfl, rfl⟩
        · have hz1 : ¬ s[k].toNat = 47 := fun e => h47 (UInt8.toNat_inj.1 e)
          have hz0 : ¬ s[k].toNat = 0 := fun e => h0 (UInt8.toNat_inj.1 e)
          have hb1 : ((s[k].toNat : Int) == 47) = false := by rw [beq_eq_false_iff_ne]; omega
          have hb0 : ((s[k].toNat : Int) == 0) = false := by rw [beq_eq_false_iff_ne]; omega
          have HR := Lib.hid (HA.out (by simp [h47, h0]))
          clear h47 h0 HA HN
          go_wp2_with fail
          go_round
          case rel => exact ⟨k + 1, by omega, by go_num, HR.out⟩
          case measure => simp [intOf]; omega
    · obtain rfl : k = s.size := by omega
      have hall : s.data.toList.all (fun x => x != 47 && x != 0) = true := by rw [← HL.out, List.take_length] at hb; exact hb
      have HR := Lib.hid (show Nm.right s.data.toList = (decide (1 ≤ s.size) && decide (s.size ≤ 16) && (s.data.toList != [46]) && (s.data.toList != [46, 46])) from by unfold Nm.right; rw [hall, HL.out]; simp)
      clear hb hall
      have fin : ∀ (b : Bool), (decide (1 ≤ s.size) && decide (s.size ≤ 16) && (s.data.toList != [46]) && (s.data.toList != [46, 46])) = b → RightPost s w (.returned (.bool b)) w := fun b hb => by
        unfold RightPost
        rw [HR.out, hb]
        exact ⟨rfl, rfl⟩
      have HF := Lib.hid fin
      clear fin HR
      have ht : s.toList = s.data.toList := Lib.toList_data s
      rcases Nat.lt_or_ge s.size 1 with a1 | a1
      · have b1 : (s.size : Int) < 1 := by omega
        have HB := Lib.hid (HF.out false (by rw [decide_eq_false (by omega)]; rfl))
        clear a1 ht
        go_wp2_with fail
        go_ret
        exact HB.out
      have b1 : (1 : Int) ≤ (s.size : Int) := by omega
      rcases Nat.lt_or_ge 16 s.size with a2 | a2
      · have b2 : (16 : Int) < (s.size : Int) := by omega
        have HB := Lib.hid (HF.out false (by rw [decide_eq_false (p := s.size ≤ 16) (by omega)]; simp))
        clear a1 a2 ht
        go_wp2_with fail
        go_ret
        exact HB.out
      have b2 : (s.size : Int) ≤ 16 := by omega
      have hd1 : decide (1 ≤ s.size) = true := by simp; exact a1
      have hd2 : decide (s.size ≤ 16) = true := by simp; exact a2
      by_cases e1 : s.data.toList = [46]
      · have c1 : (s.toList == [46]) = true := by rw [ht, e1]; rfl
        have HB := Lib.hid (HF.out false (by rw [e1]; simp))
        clear a1 a2 ht e1 hd1 hd2
        go_wp2_with fail
        go_ret
        exact HB.out
      have c1 : (s.toList == [46]) = false := by rw [ht, beq_eq_false_iff_ne]; exact e1
      by_cases e2 : s.data.toList = [46, 46]
      · have c2 : (s.toList == [46, 46]) = true := by rw [ht, e2]; rfl
        have HB := Lib.hid (HF.out false (by rw [e2]; simp))
        clear a1 a2 ht e1 e2 hd1 hd2
        go_wp2_with fail
        go_ret
        exact HB.out
      · have c2 : (s.toList == [46, 46]) = false := by rw [ht, beq_eq_false_iff_ne]; exact e2
        have HB := Lib.hid (HF.out true (by
          rw [hd1, hd2, show (s.data.toList != [46]) = true from by rw [bne_iff_ne]; exact e1, show (s.data.toList != [46, 46]) = true from by rw [bne_iff_ne]; exact e2]; rfl))
        clear a1 a2 ht e1 e2 hd1 hd2
        go_wp2_with fail
        go_ret
        exact HB.out
end Go.Proofs.Yteieehjggiiljaa
