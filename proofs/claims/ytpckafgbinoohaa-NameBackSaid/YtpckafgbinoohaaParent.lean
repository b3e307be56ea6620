/- The program's Parent. -/
import Derived.Test.YtpckafgbinoohaaWalk
import Derived.Test.YtpckafgbinoohaaJoin
import Derived.Test.YtpckafgbinoohaaRefParent
namespace Go.Proofs.Ytpckafgbinoohaa
set_option maxRecDepth 100000
open Go.RowKit
set_option maxHeartbeats 4000000 in
theorem parent_any (p : ByteArray) (w : World) (hp : p.size ≤ 100000) : Calls Try.prog 11 #[.string p] w (ParentPost p.data.toList w) := by
  go_enter Try.func11, Try.ntmps11
  go_wp2_with fail
  refine (split_any p w hp).mono ?_
  rintro e w1 hX
  have HB := Lib.hid hX.below
  cases hsp : Nm.split p.data.toList with
  | none =>
    obtain rfl := hX.no hsp
    have HP := Lib.hid (parent_post (l := p.data.toList) (r := ([], [], 14)) (by unfold parentR; rw [hsp]) HB.out)
    clear hX hsp
    dsimp only
    go_wp2_with fail
    go_ret3
    exact HP.out
  | some ns =>
    obtain ⟨ao, cap, rfl, hT⟩ := hX.yes ns hsp
    obtain ⟨h8, hr⟩ := split_shape hsp
    clear hX
    rcases List.eq_nil_or_concat ns with rfl | ⟨ms, x, rfl⟩
    · have HP := Lib.hid (parent_post (l := p.data.toList) (r := ([], [], 17)) (by unfold parentR; rw [hsp]; rfl) HB.out)
      clear hsp hT h8 hr
      dsimp only
      rw [show ([] : List (List UInt8)).length = 0 from rfl]
      go_wp2_with fail
      go_ret3
      exact HP.out
    · rw [List.concat_eq_append] at *
      have hn : (ms ++ [x]).length = ms.length + 1 := by simp
      have HP := Lib.hid (fun (w' : World) (hb : Below w.heap.size w w') => parent_post (l := p.data.toList) (r := (Nm.pathOf ms, x, 0)) (by
        unfold parentR
        rw [hsp]
        show (if _ then _ else _) = _
        rw [if_neg (by simp), List.dropLast_concat, List.getLastD_concat]) hb)
      have hms : Nm.join ms = some (Nm.pathOf ms) := join_ok (by omega) (by rw [List.all_append, Bool.and_eq_true] at hr; exact hr.1)
      have hS := trow_strs hT rfl
      rw [hn] at hT hS ⊢
      have hS2 := strs_take hS (Nat.le_succ _)
      rw [List.map_append, List.take_append_of_le_length (by simp), List.take_of_length_le (by simp)] at hS2
      obtain ⟨b, off, rfl, hc⟩ := hS.cell ms.length (by omega)
      rw [show ((ms ++ [x]).map lstr).getD ms.length ByteArray.empty = lstr x from by simp [List.getD]] at hc
      have hcap : ms.length + 1 ≤ cap := trow_cap hT
      have HJ := Lib.hid (join_any (some ⟨b, off, none⟩) ms.length cap (ms.map lstr) w1 hS2 (by omega) (by omega) (fun i hi => by
        have hi2 : i < ms.length := by simpa using hi
        rw [List.getD, List.getElem?_map, List.getElem?_eq_getElem hi2]
        have hrm : ms.all Nm.right = true := by rw [List.all_append, Bool.and_eq_true] at hr; exact hr.1
        have := right_len (List.all_eq_true.1 hrm _ (List.getElem_mem hi2))
        show (lstr ms[i]).size ≤ _
        rw [lstr_size]; omega))
      rw [dat_lstr, joinR_is hms] at HJ
      dsimp only at HJ
      have hm8 : (ms.length : Int) ≤ 8 := by omega
      have hk1 : (((ms.length + 1 : Nat) : Int) - 1) = (ms.length : Int) := by omega
      have hcapi : (ms.length : Int) + 1 ≤ (cap : Int) := by omega
      clear hsp hT hS hS2 h8 hr hms hn
      generalize Nm.pathOf ms = pp at HP HJ
      generalize ms.length = k at *
      dsimp only
      go_wp2_with fail
      refine HJ.out.mono ?_
      rintro e w2 ⟨rfl, hw2⟩
      have hc2 := (hw2.cell (p := ⟨b, off + k, none⟩) (block_lt_of_cell hc)).trans hc
      have HW2 := Lib.hid hw2
      clear HJ hc hw2
      dsimp only
      go_wp2_with fail
      go_quiet (fail)
      go_wp2_with fail
      go_ret3
      exact HP.out _ (below_draws (HB.out.trans (HW2.out.mono HB.out.size)))
end Go.Proofs.Ytpckafgbinoohaa
