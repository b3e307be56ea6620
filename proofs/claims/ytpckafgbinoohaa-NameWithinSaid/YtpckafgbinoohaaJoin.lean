/- The program's Join. -/
import Derived.Test.YtpckafgbinoohaaRight
import Derived.Test.YtpckafgbinoohaaRefJoin
import Derived.Lib.Join
namespace Go.Proofs.Ytpckafgbinoohaa
set_option maxRecDepth 100000
open Go.RowKit
/-- All names? Closed to the walk's simp. -/
def allr (ns : List (List UInt8)) : Bool := ns.all Nm.right
theorem wrong_any (s : ByteArray) (w : World) (hs : s.size ≤ 140737488355328) : Calls Try.prog 21 #[.string s] w fun e w' => e = .returned (.bool (!Nm.right s.data.toList)) ∧ Below w.heap.size w w' := by
  go_enter Try.func21, Try.ntmps21
  go_wp2_with fail
  refine (right_any s _ hs).mono ?_
  rintro e w1 ⟨rfl, hB⟩
  dsimp only
  go_wp2_with fail
  go_ret
  exact ⟨rfl, hB⟩
/-- Texts in memory, none too long. -/
structure Rowy (a : Option Addr) (ln : Nat) (ss : List ByteArray) (w : World) : Prop where
  strs : Strs a ln ss w
  size : ∀ i, i < ss.length → (ss.getD i ByteArray.empty).size ≤ 140737488355328
theorem Rowy.below {a : Option Addr} {len : Nat} {ss : List ByteArray} {w w' : World} (h : Rowy a len ss w) (hb : Below w.heap.size w w') : Rowy a len ss w' := ⟨h.strs.below hb, h.size⟩
theorem dat_at (ss : List ByteArray) {k : Nat} (hk : k < ss.length) : (dat ss).getD k [] = (ss.getD k ByteArray.empty).data.toList := by
  unfold dat
  rw [List.getD, List.getD, List.getElem?_map, List.getElem?_eq_getElem hk]; rfl
theorem dat_len (ss : List ByteArray) : (dat ss).length = ss.length := by unfold dat; rw [List.length_map]
theorem rall_take {ns : List (List UInt8)} {k : Nat} (h : (ns.take k).all Nm.right = true) (hk : k < ns.length) (hr : Nm.right (ns.getD k []) = true) : (ns.take (k + 1)).all Nm.right = true := by
  rw [List.take_succ_eq_append_getElem hk, List.all_append, h]
  rw [List.getD, List.getElem?_eq_getElem hk, Option.getD_some] at hr
  simp [hr]
theorem rnot_all {ns : List (List UInt8)} {k : Nat} (hk : k < ns.length) (hr : Nm.right (ns.getD k []) = false) : ns.all Nm.right = false := by
  rw [List.getD, List.getElem?_eq_getElem hk, Option.getD_some] at hr
  rw [Bool.eq_false_iff]
  intro h
  rw [List.all_eq_true.1 h _ (List.getElem_mem hk)] at hr
  cases hr
set_option maxHeartbeats 2000000 in
theorem ixf_any (a : Option Addr) (ln cn : Nat) (ss : List ByteArray) (w : World) (hR : Rowy a ln ss w) (h8 : ln ≤ 8) : Calls Try.prog 29 #[.slice a ln cn, .func (.func 21) #[] #[]] w fun e w' => (∃ z : Int, e = .returned (.int .i64 z) ∧ (0 ≤ z ↔ allr (dat ss) = false)) ∧ Below w.heap.size w w' := by
  have HR := Lib.hid hR
  have hcnt := hR.strs.count
  clear hR
  have h8i : (ln : Int) ≤ 8 := by omega
  have eg : ∀ args w, (callFunc 21 args).run Try.prog w = .ok (.enter 21 args) w := enters_of Try.func21 (by kernel_rfl) rfl
  go_enter Try.func29, Try.ntmps29
  go_wp2_with fail
  go_loopw [8] (fun v8 wr => ∃ k : Nat, k ≤ ln ∧ v8 = .int .i64 k ∧ Below w.heap.size w wr ∧ Hid (((dat ss).take k).all Nm.right = true)) (fun v8 _ => ln - (intOf v8).toNat)
  case atStart => exact ⟨0, Nat.zero_le _, rfl, Below.refl _ _, rfl⟩
  case round =>
    obtain ⟨k, hk, rfl, hB, HA⟩ := hrel
    have HL := Lib.hid (dat_len ss)
    by_cases hlt : k < ln
    · have hlti : (k : Int) < (ln : Int) := by omega
      have hk0 : (0 : Int) ≤ (k : Int) := by omega
      obtain ⟨b, off, rfl, hc⟩ := (HR.out.below hB).strs.cell k hlt
      have hsz := HR.out.size k (by omega)
      have HD := Lib.hid (dat_at ss (k := k) (by omega))
      generalize ss.getD k ByteArray.empty = x at *
      have HW := Lib.hid (fun w => wrong_any x w hsz)
      have HBh := Lib.hid hB
      clear hB hsz
      cases hr : Nm.right x.data.toList with
      | true =>
        have HX := Lib.hid hr
        rw [hr] at HW
        clear hr
        go_wp2_with fail
        refine (HW.out _).mono ?_
        rintro e w2 ⟨rfl, hw2⟩
        have HB2 := Lib.hid (HBh.out.trans (hw2.mono HBh.out.size))
        clear hw2
        dsimp only
        go_wp2_with fail
        go_roundw
        case rel => exact ⟨k + 1, by omega, by simp, HB2.out, rall_take HA.out (by rw [HL.out]; omega) (by rw [HD.out]; exact HX.out)⟩
        case measure => simp [intOf]; omega
      | false =>
        have HX := Lib.hid hr
        rw [hr] at HW
        clear hr
        go_wp2_with fail
        refine (HW.out _).mono ?_
        rintro e w2 ⟨rfl, hw2⟩
        have HB2 := Lib.hid (HBh.out.trans (hw2.mono HBh.out.size))
        clear hw2
        dsimp only
        go_wp2_with fail
        go_ret
        exact ⟨⟨_, rfl, by unfold allr; rw [rnot_all (ns := dat ss) (k := k) (by rw [HL.out]; omega) (by rw [HD.out]; exact HX.out)]; simp⟩, HB2.out⟩
    · have hlti : ¬ (k : Int) < (ln : Int) := by omega
      have HBh := Lib.hid hB
      clear hB
      go_wp2_with fail
      go_ret
      refine ⟨⟨_, rfl, ?_⟩, HBh.out⟩
      have h := HA.out
      rw [List.take_of_length_le (by rw [HL.out]; omega)] at h
      unfold allr
      rw [h]; decide
theorem cof_any (a : Option Addr) (ln cn : Nat) (ss : List ByteArray) (w : World) (hR : Rowy a ln ss w) (h8 : ln ≤ 8) : Calls Try.prog 22 #[.slice a ln cn, .func (.func 21) #[] #[]] w fun e w' => e = .returned (.bool (!allr (dat ss))) ∧ Below w.heap.size w w' := by
  have HI := Lib.hid (ixf_any a ln cn ss w hR h8)
  clear hR h8
  generalize allr (dat ss) = r at *
  go_enter Try.func22, Try.ntmps22
  go_wp2_with fail
  refine HI.out.mono ?_
  rintro e w1 ⟨⟨z, rfl, hz⟩, hB⟩
  dsimp only
  cases r with
  | false =>
    have h0 : 0 ≤ z := hz.2 rfl
    clear hz
    go_wp2_with fail
    go_ret
    refine ⟨?_, hB⟩
    simp
  | true =>
    have h0 : ¬ 0 ≤ z := fun h => by have := hz.1 h; cases this
    clear hz
    go_wp2_with fail
    go_ret
    refine ⟨?_, hB⟩
    simp
/-- Names, one behind the other, a slash between. -/
def betw (ns : List (List UInt8)) : List UInt8 := Lib.join ns [47]
theorem path_betw (ns : List (List UInt8)) : Nm.pathOf ns = 47 :: betw ns := by
  unfold betw Nm.pathOf
  cases ns with
  | nil => rfl
  | cons x r =>
    rw [if_neg (by simp), Lib.join_cons]
    rfl
theorem betw_len {ns : List (List UInt8)} (h8 : ns.length ≤ 8) (h : ns.all Nm.right = true) : (betw ns).length ≤ 140 := by
  have e := congrArg List.length (path_betw ns)
  rw [List.length_cons] at e
  have : (Nm.pathOf ns).length ≤ 137 := by
    have hf : ∀ l : List (List UInt8), l.all Nm.right = true → ((l.map (47 :: ·)).flatten).length ≤ 17 * l.length := by
      intro l
      induction l with
      | nil => simp
      | cons x l ih =>
        intro h
        rw [List.all_cons, Bool.and_eq_true] at h
        have h1 := right_len h.1
        have h2 := ih h.2
        simp only [List.map_cons, List.flatten_cons, List.length_append, List.length_cons]
        omega
    have := hf ns h
    unfold Nm.pathOf
    split
    · simp
    · omega
  omega
theorem sjoin_any (a : Option Addr) (ln cn : Nat) (ss : List ByteArray) (w : World) (hS : Strs a ln ss w) (hcn : ln ≤ cn) (h8 : ln ≤ 8) (hl : (betw (dat ss)).length ≤ 1000) : Calls Try.prog 23 #[.slice a ln cn, .string ⟨#[47]⟩] w fun e w' => e = .returned (.string (lstr (betw (dat ss)))) ∧ Below w.heap.size w w' := by
  by_cases h0 : ln = 0
  · subst h0
    have hss : ss = [] := List.eq_nil_of_length_eq_zero hS.count.symm
    subst hss
    refine (Any.strings_Join_none lays156 extra a cn ⟨#[47]⟩ w).mono ?_
    rintro e w' ⟨rfl, rfl⟩
    exact ⟨rfl, Below.refl _ _⟩
  · obtain ⟨b, off, rfl, hc0⟩ := hS.cell 0 (by omega)
    have hcnt := hS.count
    subst hcnt
    have h := Any.strings_Join lays156 extra b off cn ss ⟨#[47]⟩ w ?_ (block_lt_of_cell hc0) (by omega) hcn (by
      show (betw (dat ss)).length ≤ _
      omega)
    · exact h
    · intro j x hj
      have hjl : j < ss.length := (List.getElem?_eq_some_iff.1 hj).1
      obtain ⟨b', off', e, hc⟩ := hS.cell j hjl
      cases e
      rw [hc, List.getD, hj]; rfl
set_option maxHeartbeats 2000000 in
theorem join_any (a : Option Addr) (ln cn : Nat) (ss : List ByteArray) (w : World) (hS : Strs a ln ss w) (hln : ln ≤ 140737488355328) (hcn : ln ≤ cn) (hsz : ∀ i, i < ss.length → (ss.getD i ByteArray.empty).size ≤ 140737488355328) : Calls Try.prog 9 #[.slice a ln cn] w fun e w' => e = .returned (.tuple #[.string (lstr (joinR (dat ss)).1), .int .i64 (joinR (dat ss)).2]) ∧ Below w.heap.size w w' := by
  have hlni : (ln : Int) ≤ 140737488355328 := by omega
  have hds : (dat ss).length = ln := by rw [dat_len]; exact hS.count.symm
  rcases Nat.lt_or_ge 8 ln with h8 | h8
  · have h8i : (8 : Int) < (ln : Int) := by omega
    rw [joinR_no (join_many (ns := dat ss) (by omega))]
    clear hds hS hsz
    go_enter Try.func9, Try.ntmps9
    go_wp2_with fail
    go_ret2
    exact ⟨rfl, Below.refl _ _⟩
  have h8i : ¬ (8 : Int) < (ln : Int) := by omega
  have HF := Lib.hid (cof_any a ln cn ss w ⟨hS, hsz⟩ h8)
  cases hr : allr (dat ss) with
  | false =>
    rw [joinR_no (by unfold Nm.join; rw [if_neg]; rintro ⟨_, h⟩; unfold allr at hr; rw [hr] at h; cases h)]
    rw [hr] at HF
    clear hds hS hsz hr
    go_enter Try.func9, Try.ntmps9
    go_wp2_with fail
    refine HF.out.mono ?_
    rintro e w1 ⟨rfl, hB⟩
    dsimp only
    go_wp2_with fail
    go_ret2
    exact ⟨rfl, hB⟩
  | true =>
    have HJ := Lib.hid (fun w1 (hb : Below w.heap.size w w1) => sjoin_any a ln cn ss w1 (hS.below hb) hcn h8 (by have := betw_len (ns := dat ss) (by omega) hr; omega))
    have hbl := betw_len (ns := dat ss) (by omega) hr
    rw [joinR_is (join_ok (by omega) hr), path_betw]
    rw [hr] at HF
    have hsz2 : (lstr (betw (dat ss))).size ≤ 140 := by rw [lstr_size]; exact hbl
    have HE := Lib.hid (lstr_append [47] (betw (dat ss)))
    clear hds hS hsz hr hbl
    generalize betw (dat ss) = t at *
    go_enter Try.func9, Try.ntmps9
    go_wp2_with fail
    refine HF.out.mono ?_
    rintro e w1 ⟨rfl, hB⟩
    have HB1 := Lib.hid hB
    clear hB
    dsimp only
    go_wp2_with fail
    refine (HJ.out _ HB1.out).mono ?_
    rintro e w2 ⟨rfl, hB2⟩
    have HB2 := Lib.hid (HB1.out.trans (hB2.mono HB1.out.size))
    clear hB2
    dsimp only
    go_wp2_with fail
    go_ret2
    refine ⟨?_, HB2.out⟩
    rw [show lstr (47 :: t) = (⟨#[47]⟩ : ByteArray) ++ lstr t from (lstr_append [47] t).symm]
    rfl
end Go.Proofs.Ytpckafgbinoohaa
