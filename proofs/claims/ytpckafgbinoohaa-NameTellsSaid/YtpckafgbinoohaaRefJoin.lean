/- The document's Join. -/
import Derived.Test.YtpckafgbinoohaaRefSplit
namespace Go.Proofs.Ytpckafgbinoohaa
set_option maxRecDepth 100000
open Go.RowKit
def dat (ss : List ByteArray) : List (List UInt8) := ss.map fun s => s.data.toList
def joinR (ns : List (List UInt8)) : List UInt8 × Int := match Nm.join ns with
  | some p => (p, 0)
  | none => ([], 14)
theorem joinR_no {ns : List (List UInt8)} (h : Nm.join ns = none) : joinR ns = ([], 14) := by unfold joinR; rw [h]
theorem joinR_is {ns : List (List UInt8)} {p : List UInt8} (h : Nm.join ns = some p) : joinR ns = (p, 0) := by unfold joinR; rw [h]
theorem join_many {ns : List (List UInt8)} (h : 8 < ns.length) : Nm.join ns = none := by unfold Nm.join; rw [if_neg (by rintro ⟨h1, _⟩; omega)]
theorem join_bad {ns : List (List UInt8)} {k : Nat} (hk : k < ns.length) (h : Nm.right (ns.getD k []) = false) : Nm.join ns = none := by
  unfold Nm.join
  rw [if_neg]
  rintro ⟨_, h2⟩
  have := List.all_eq_true.1 h2 _ (List.getElem_mem hk)
  rw [List.getD, List.getElem?_eq_getElem hk] at h
  simp only [Option.getD_some] at h
  rw [h] at this; cases this
theorem join_ok {ns : List (List UInt8)} (h8 : ns.length ≤ 8) (h : ns.all Nm.right = true) : Nm.join ns = some (Nm.pathOf ns) := by unfold Nm.join; rw [if_pos ⟨h8, h⟩]
def flat (ns : List (List UInt8)) (k : Nat) : List UInt8 := ((ns.take k).map (47 :: ·)).flatten
theorem flat_succ {ns : List (List UInt8)} {k : Nat} (h : k < ns.length) : flat ns (k + 1) = flat ns k ++ [47] ++ ns.getD k [] := by
  unfold flat
  rw [List.take_succ_eq_append_getElem h, List.map_append, List.flatten_append, List.getD, List.getElem?_eq_getElem h]
  simp
theorem right_len {l : List UInt8} (h : Nm.right l = true) : l.length ≤ 16 := by
  unfold Nm.right at h
  simp only [Bool.and_eq_true, decide_eq_true_eq] at h
  exact h.1.1.2
def JoinPost (ns : List (List UInt8)) (w : World) (e : Ending) (w' : World) : Prop := e = .returned (.tuple #[.string (lstr (joinR ns).1), .int .i64 (joinR ns).2]) ∧ w = w'
theorem join_post {ns : List (List UInt8)} {w : World} {r : List UInt8 × Int} (h : joinR ns = r) : JoinPost ns w (.returned (.tuple #[.string (lstr r.1), .int .i64 r.2])) w := by
  unfold JoinPost; rw [h]; exact ⟨rfl, rfl⟩
set_option maxHeartbeats 4000000 in
theorem refJoin_any (a : Option Addr) (ln cn : Nat) (ss : List ByteArray) (w : World) (hS : Strs a ln ss w) (hln : ln ≤ 140737488355328) (hsz : ∀ i, i < ss.length → (ss.getD i ByteArray.empty).size ≤ 140737488355328) : Calls Try.prog 10 #[.slice a ln cn] w (JoinPost (dat ss) w) := by
  have hlni : (ln : Int) ≤ 140737488355328 := by omega
  have hds : (dat ss).length = ln := by unfold dat; rw [List.length_map]; exact hS.count.symm
  rcases Nat.lt_or_ge 8 ln with h8 | h8
  · have h8i : (8 : Int) < (ln : Int) := by omega
    have HP := Lib.hid (join_post (w := w) (joinR_no (join_many (ns := dat ss) (by omega))))
    clear hds
    go_enter Try.func10, Try.ntmps10
    go_wp2_with fail
    go_ret2
    exact HP.out
  have h8i : (ln : Int) ≤ 8 := by omega
  go_enter Try.func10, Try.ntmps10
  go_wp2_with fail
  go_loop [4, 5] (fun s i => ∃ k : Nat, k ≤ ln ∧ i = .int .i64 (k : Int) ∧ s = .string (lstr (flat (dat ss) k)) ∧ ((dat ss).take k).all Nm.right = true ∧ (flat (dat ss) k).length ≤ 17 * k) (fun _ i => ln - (intOf i).toNat)
  case atStart => exact ⟨0, Nat.zero_le _, rfl, rfl, rfl, Nat.le_refl _⟩
  case round =>
    obtain ⟨k, hk, rfl, rfl, hall, hfl⟩ := hrel
    by_cases hlt : k < ln
    · have k0 : (k : Int) < (ln : Int) := by omega
      have hk0 : (0 : Int) ≤ (k : Int) := by omega
      obtain ⟨b, off, rfl, hc⟩ := hS.cell k hlt
      have hkd : k < (dat ss).length := by omega
      have hgd : (dat ss).getD k [] = (ss.getD k ByteArray.empty).data.toList := by
        have hks : k < ss.length := by rw [← hS.count]; exact hlt
        unfold dat
        rw [List.getD, List.getElem?_map, List.getD, List.getElem?_eq_getElem hks]; rfl
      have HY := Lib.hid (hsz k (by rw [← hS.count]; exact hlt))
      have HSU := Lib.hid (flat_succ hkd)
      have HBAD := Lib.hid (fun h => join_post (w := w) (joinR_no (join_bad (ns := dat ss) hkd h)))
      have HALL := Lib.hid (fun (h : Nm.right ((dat ss).getD k []) = true) => show ((dat ss).take (k + 1)).all Nm.right = true from by
        rw [List.take_succ_eq_append_getElem hkd, List.all_append, hall]
        rw [List.getD, List.getElem?_eq_getElem hkd] at h
        simpa using h)
      rw [hgd] at HSU HBAD HALL
      generalize ss.getD k ByteArray.empty = y at hc HY HSU HBAD HALL
      have HR := Lib.hid (refRight_any y w HY.out)
      unfold RightPost at HR
      have HX := Lib.hid hfl
      clear hgd hkd hall hfl
      generalize flat (dat ss) k = xs at HSU HX
      go_wp2_with fail
      refine HR.out.mono ?_
      rintro e w2 ⟨rfl, rfl⟩
      dsimp only
      cases hr : Nm.right y.data.toList with
      | false =>
        have HP := Lib.hid (HBAD.out hr)
        clear hr
        go_wp2_with fail
        go_ret2
        exact HP.out
      | true =>
        have HA := Lib.hid (HALL.out hr)
        have hy := right_len hr
        rw [show y.data.toList.length = y.size from Array.length_toList] at hy
        have hxs := lstr_size xs
        have hx1 := HX.out
        have hyd : y = lstr y.data.toList := rfl
        have HE := Lib.hid (show lstr xs ++ ⟨#[47]⟩ ++ y = lstr (xs ++ [47] ++ y.data.toList) from by
          rw [show (⟨#[47]⟩ : ByteArray) = lstr [47] from rfl, lstr_append]
          conv => lhs; rw [show y = lstr y.data.toList from rfl]
          rw [lstr_append])
        have HLn := Lib.hid (show (xs ++ [47] ++ y.data.toList).length ≤ 17 * (k + 1) from by rw [List.length_append, List.length_append, show y.data.toList.length = y.size from Array.length_toList]; simp; omega)
        clear hr hyd
        generalize hx : lstr xs = x at hxs HE
        have s1 : ¬ 9223372036854775807 < x.size + 1 := by omega
        have s2 : ¬ 9223372036854775807 < x.size + 1 + y.size := by omega
        clear hxs hx1 hx
        go_wp2_with fail
        go_round
        case rel => exact ⟨k + 1, by omega, by go_num, by rw [HE.out, HSU.out], HA.out, by rw [HSU.out]; exact HLn.out⟩
        case measure => simp [intOf] <;> omega
    · obtain rfl : k = ln := by omega
      have hall2 : (dat ss).all Nm.right = true := by rw [← hds, List.take_length] at hall; exact hall
      have hj := join_ok (ns := dat ss) (by omega) hall2
      rcases Nat.eq_zero_or_pos k with h0 | h0
      · have hn : dat ss = [] := List.eq_nil_of_length_eq_zero (by omega)
        have hp : Nm.pathOf (dat ss) = [47] := by unfold Nm.pathOf; rw [if_pos hn]
        rw [hp] at hj
        have HP := Lib.hid (join_post (w := w) (joinR_is hj))
        have hfe : lstr (flat (dat ss) k) = ⟨#[]⟩ := by rw [hn]; unfold flat; rw [List.take_nil]; rfl
        rw [hfe]
        clear hall hfl hall2 hj hn hp hfe
        go_wp2_with fail
        go_ret2
        exact HP.out
      · have hne : dat ss ≠ [] := fun e => by rw [e] at hds; simp at hds; omega
        have hp : Nm.pathOf (dat ss) = flat (dat ss) k := by unfold Nm.pathOf flat; rw [if_neg hne, ← hds, List.take_length]
        rw [hp] at hj
        have HP := Lib.hid (join_post (w := w) (joinR_is hj))
        have hfne : (lstr (flat (dat ss) k)).toList.isEmpty = false := by
          rw [Lib.toList_data, lstr_data, ← hp]
          cases hd : dat ss with
          | nil => exact absurd hd hne
          | cons c cs => unfold Nm.pathOf; rw [if_neg (by simp)]; rfl
        clear hall hfl hall2 hj hne hp
        generalize flat (dat ss) k = xs at HP hfne ⊢
        go_wp2_with fail
        go_ret2
        exact HP.out
end Go.Proofs.Ytpckafgbinoohaa
