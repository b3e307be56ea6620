/- NameBack, walked. -/
import Derived.Test.YtpckafgbinoohaaWithin
namespace Go.Proofs.Ytpckafgbinoohaa
set_option maxRecDepth 100000
open Go.RowKit
theorem flat_len {ns : List (List UInt8)} (h : ns.all Nm.right = true) : ((ns.map (47 :: ·)).flatten).length ≤ 17 * ns.length := by
  induction ns with
  | nil => simp
  | cons x ns ih =>
    rw [List.all_cons, Bool.and_eq_true] at h
    have h1 := right_len h.1
    have h2 := ih h.2
    simp only [List.map_cons, List.flatten_cons, List.length_append, List.length_cons]
    omega
theorem path_len {ns : List (List UInt8)} (h8 : ns.length ≤ 8) (h : ns.all Nm.right = true) : (Nm.pathOf ns).length ≤ 137 := by
  have := flat_len h
  unfold Nm.pathOf
  split
  · simp
  · omega
theorem join_back {ns : List (List UInt8)} {p : List UInt8} (h : Nm.join ns = some p) : Nm.split p = some ns ∧ p.length ≤ 137 := by
  have h1 := Nm.split_join h
  have h2 := split_shape h1
  refine ⟨h1, ?_⟩
  rw [(Nm.split_path h1).1]
  exact path_len h2.1 h2.2
structure Listed (la : Option Addr) (ln : Nat) (ss : List ByteArray) (w : World) : Prop where
  strs : Strs la ln ss w
  few : ln ≤ 140737488355328
  size : ∀ i, i < ss.length → (ss.getD i ByteArray.empty).size ≤ 140737488355328
theorem Listed.below {a : Option Addr} {len : Nat} {ss : List ByteArray} {w w' : World} (h : Listed a len ss w) (hb : Below w.heap.size w w') : Listed a len ss w' := ⟨h.strs.below hb, h.few, h.size⟩
theorem jn (H : Names) {la : Option Addr} {ln lc : Nat} {ss : List ByteArray} {w : World} (hc : ln ≤ lc) (h : Listed la ln ss w) : Calls Try.prog 9 #[.slice la ln lc] w fun e w' => e = .returned (.tuple #[.string (lstr (joinR (dat ss)).1), .int .i64 (joinR (dat ss)).2]) ∧ Below w.heap.size w w' := H.join la ln lc ss w h.strs h.few hc h.size
/-- What comes of the rows that were asked for. -/
structure Tail (la : Option Addr) (ln lc : Nat) (w : World) : Prop where
  out : (∀ w', Below w.heap.size w w' → Calls Try.prog 9 #[.slice la ln lc] w' fun e w2 => e = .returned (.tuple #[.string ⟨#[]⟩, .int .i64 14]) ∧ Below w'.heap.size w' w2) ∨
    ∃ s : ByteArray, (∀ w', Below w.heap.size w w' → Calls Try.prog 9 #[.slice la ln lc] w' fun e w2 => e = .returned (.tuple #[.string s, .int .i64 0]) ∧ Below w'.heap.size w' w2) ∧
      (∀ w', Below w.heap.size w w' → Calls Try.prog 7 #[.string s] w' fun e w2 => ∃ v, e = .returned (.tuple #[v, .int .i64 0]) ∧ Below w'.heap.size w' w2 ∧ Calls Try.prog 15 #[v, .slice la ln lc] w2 fun e w3 => e = .returned (.bool true) ∧ Below w2.heap.size w2 w3)
theorem tail_any (H : Names) {la : Option Addr} {ln lc : Nat} {ss : List ByteArray} {w : World} (hlc : ln ≤ lc) (h : Listed la ln ss w) : Tail la ln lc w := by
  refine ⟨?_⟩
  cases hj : Nm.join (dat ss) with
  | none =>
    left
    intro w' hb
    refine (jn H hlc (h.below hb)).mono ?_
    rintro e w2 ⟨rfl, hB⟩
    rw [joinR_no hj]
    exact ⟨rfl, hB⟩
  | some p =>
    right
    obtain ⟨hs, hp⟩ := join_back hj
    refine ⟨lstr p, ?_, ?_⟩
    · intro w' hb
      refine (jn H hlc (h.below hb)).mono ?_
      rintro e w2 ⟨rfl, hB⟩
      rw [joinR_is hj]
      exact ⟨rfl, hB⟩
    · intro w' hb
      refine (H.split (lstr p) w' (by rw [lstr_size]; omega)).mono ?_
      intro e w2 hX
      obtain ⟨ao, cap, rfl, hT⟩ := hX.yes (dat ss) hs
      refine ⟨_, rfl, hX.below, ?_⟩
      have hS := trow_strs hT rfl
      have hS2 := (h.below (hb.trans (hX.below.mono hb.size))).strs
      have e : (dat ss).map lstr = ss := by
        unfold dat
        rw [List.map_map]
        exact List.map_id'' (fun s => rfl) ss
      rw [e] at hS
      refine (texts_any ao la _ cap ln lc ss ss w2 hS hS2 ?_ h.few).mono ?_
      · have := (split_shape hs).1; omega
      · rintro e w3 ⟨rfl, n, rfl⟩
        exact ⟨by unfold rowsAlike; simp, below_draws (Below.refl _ _)⟩
/-- What comes of the path. -/
structure Way (a : ByteArray) (w : World) : Prop where
  out : (∀ w', Below w.heap.size w w' → Calls Try.prog 7 #[.string a] w' fun e w2 => e = .returned (.tuple #[.slice none 0 0, .int .i64 14]) ∧ Below w'.heap.size w' w2) ∨
    ∃ n : Nat, n ≤ 8 ∧ (∀ w', Below w.heap.size w w' → Calls Try.prog 7 #[.string a] w' fun e w2 => ∃ ao cap, e = .returned (.tuple #[.slice ao n cap, .int .i64 0]) ∧ Below w'.heap.size w' w2 ∧
        Calls Try.prog 9 #[.slice ao n cap] w2 fun e w3 => e = .returned (.tuple #[.string a, .int .i64 0]) ∧ Below w2.heap.size w2 w3) ∧
      (∀ w', Calls Try.prog 16 #[.string a, .string a] w' fun e w2 => e = .returned (.bool true) ∧ Below w'.heap.size w' w2) ∧
      (∀ w', Calls Try.prog 16 #[.string ⟨#[47]⟩, .string a] w' fun e w2 => e = .returned (.bool true) ∧ Below w'.heap.size w' w2) ∧
      ((n = 0 ∧ ∀ w', Calls Try.prog 11 #[.string a] w' fun e w2 => e = .returned (.tuple #[.string ⟨#[]⟩, .string ⟨#[]⟩, .int .i64 17]) ∧ Below w'.heap.size w' w2) ∨
       (0 < n ∧ ∃ P N : ByteArray, P.size ≤ 200 ∧ N.size ≤ 200 ∧ (∀ w', Calls Try.prog 11 #[.string a] w' fun e w2 => e = .returned (.tuple #[.string P, .string N, .int .i64 0]) ∧ Below w'.heap.size w' w2) ∧
        (∀ w', Calls Try.prog 16 #[.string P, .string a] w' fun e w2 => e = .returned (.bool true) ∧ Below w'.heap.size w' w2) ∧
        (∀ w', Calls Try.prog 16 #[.string a, .string P] w' fun e w2 => e = .returned (.bool false) ∧ Below w'.heap.size w' w2) ∧
        (∀ w', Calls Try.prog 13 #[.string N] w' fun e w2 => e = .returned (.bool true) ∧ Below w'.heap.size w' w2) ∧
        ((P = ⟨#[47]⟩ ∧ a = ⟨#[47]⟩ ++ N) ∨ (P.data.toList ≠ [47] ∧ a = P ++ ⟨#[47]⟩ ++ N))))
theorem way_any (H : Names) (a : ByteArray) (w : World) (ha : a.size ≤ 500) : Way a w := by
  refine ⟨?_⟩
  cases hs : Nm.split a.data.toList with
  | none =>
    left
    intro w' _
    exact (H.split a w' (by omega)).mono fun e w2 hX => ⟨hX.no hs, hX.below⟩
  | some xs =>
    right
    have hx := split_shape hs
    have hso : (Nm.split a.data.toList).isSome = true := by rw [hs]; rfl
    refine ⟨xs.length, hx.1, ?_, ?_, ?_, ?_⟩
    · intro w' _
      refine (H.split a w' (by omega)).mono ?_
      intro e w2 hX
      obtain ⟨ao, cap, rfl, hT⟩ := hX.yes xs hs
      refine ⟨ao, cap, rfl, hX.below, ?_⟩
      have hS := trow_strs hT rfl
      refine (H.join ao xs.length cap _ w2 hS (by omega) (trow_cap hT) ?_).mono ?_
      · intro i hi
        rw [List.length_map] at hi
        rw [List.getD, List.getElem?_map, List.getElem?_eq_getElem hi]
        show (lstr _).size ≤ _
        rw [lstr_size]
        have := right_len (List.all_eq_true.1 hx.2 _ (List.getElem_mem hi))
        omega
      · rintro e w3 ⟨rfl, hB⟩
        rw [dat_lstr, joinR_is (Nm.join_split hs), lstr_own]
        exact ⟨rfl, hB⟩
    · intro w'
      exact wi H a a true w' ha ha ((Nm.within_self _).trans hso)
    · intro w'
      exact wi H ⟨#[47]⟩ a true w' (by decide) ha (Nm.top_within hso)
    · rcases List.eq_nil_or_concat xs with rfl | ⟨ms, n, rfl⟩
      · left
        refine ⟨rfl, fun w' => ?_⟩
        refine (H.parent a w' (by omega)).mono ?_
        rintro e w2 hP
        unfold ParentPost at hP
        rw [show parentR a.data.toList = ([], [], 17) from by unfold parentR; rw [hs]; rfl] at hP
        exact hP
      · right
        rw [List.concat_eq_append] at hs hx
        have hp := Nm.parted hs
        rw [List.all_append, Bool.and_eq_true] at hx
        have hpl := path_len (ns := ms) (by have := hx.1; rw [List.length_append] at this; omega) hx.2.1
        have hnl := right_len hp.right
        have hnN : (lstr n).size ≤ 200 := by rw [lstr_size]; omega
        have hpN : (lstr (Nm.pathOf ms)).size ≤ 200 := by rw [lstr_size]; omega
        refine ⟨by simp, lstr (Nm.pathOf ms), lstr n, hpN, hnN, fun w' => ?_, fun w' => ?_, fun w' => ?_, fun w' => ?_, ?_⟩
        · refine (H.parent a w' (by omega)).mono ?_
          rintro e w2 hP
          unfold ParentPost at hP
          rw [show parentR a.data.toList = (Nm.pathOf ms, n, 0) from by unfold parentR; rw [hs]; show (if ms ++ [n] = [] then _ else _) = _; rw [if_neg (by simp), List.dropLast_concat, List.getLastD_concat]] at hP
          exact hP
        · exact wi H _ a true w' (by omega) ha hp.inside
        · exact wi H a _ false w' ha (by omega) hp.not
        · exact aw_right H _ true w' (by omega) hp.right
        · by_cases he : Nm.pathOf ms = [47]
          · left
            refine ⟨by rw [he]; rfl, ?_⟩
            apply ByteArray.ext; apply Array.ext'
            rw [hp.flat he, ByteArray.data_append, Array.toList_append]; rfl
          · right
            refine ⟨he, ?_⟩
            apply ByteArray.ext; apply Array.ext'
            rw [hp.deep he, ByteArray.data_append, ByteArray.data_append, Array.toList_append, Array.toList_append]; rfl
theorem big_any (H : Names) (a : ByteArray) (la : Option Addr) (ln lc : Nat) (w : World) (ha : a.size ≤ 140737488355328) (hl : ln ≤ 140737488355328) (hL : ¬ (a.size ≤ 500 ∧ ln ≤ 30)) : Calls Try.prog 4 #[.string a, .slice la ln lc] w (Yes w) := by
  have hai : (a.size : Int) ≤ 140737488355328 := by omega
  have hli : (ln : Int) ≤ 140737488355328 := by omega
  go_enter Try.func4, Try.ntmps4
  go_wp2_with fail
  refine (awake_any H _).mono ?_
  rintro e w1 ⟨rfl, hB1⟩
  dsimp only
  rcases Nat.lt_or_ge 500 a.size with h1 | h1
  · have g1 : (500 : Int) < (a.size : Int) := by omega
    clear hL
    go_wp2_with fail
    go_ret
    exact ⟨rfl, hB1⟩
  have g1 : (a.size : Int) ≤ 500 := by omega
  have g3 : (30 : Int) < (ln : Int) := by omega
  clear hL
  go_wp2_with fail
  go_ret
  exact ⟨rfl, hB1⟩
set_option maxHeartbeats 4000000 in
theorem back_any (H : Names) (a : ByteArray) (la : Option Addr) (ln lc : Nat) (ss : List ByteArray) (w : World) (ha : a.size ≤ 140737488355328) (hlc : ln ≤ lc) (h : Listed la ln ss w) : Calls Try.prog 4 #[.string a, .slice la ln lc] w (Yes w) := by
  by_cases hL : a.size ≤ 500 ∧ ln ≤ 30
  case neg => exact big_any H a la ln lc w ha h.few hL
  obtain ⟨h1, h2⟩ := hL
  have HT := Lib.hid (tail_any H hlc h)
  clear hlc
  have HW := Lib.hid (way_any H a w h1)
  clear h ha
  have g1 : (a.size : Int) ≤ 500 := by omega
  have g2 : (ln : Int) ≤ 30 := by omega
  go_enter Try.func4, Try.ntmps4
  go_wp2_with fail
  refine (awake_any H _).mono ?_
  rintro e w1 ⟨rfl, hB1⟩
  dsimp only
  rcases HW.out.out with hn | ⟨n, hn8, hsp, haa, hta, hpar⟩
  · have HN := Lib.hid hn
    clear hn
    go_wp2_with fail
    refine (HN.out _ hB1).mono ?_
    rintro e w2 ⟨rfl, hB2⟩
    have hB2 := hB1.trans (hB2.mono hB1.size)
    clear hB1
    dsimp only
    clear HN
    clear HW
    rcases HT.out.out with h | ⟨s, h, hsp⟩
    · have HJ := Lib.hid h
      clear h HT
      go_wp2_with fail
      refine (HJ.out _ hB2).mono ?_
      rintro e w11 ⟨rfl, hB11⟩
      have hB11 := Below.trans hB2 (hB11.mono hB2.size)
      dsimp only
      go_wp2_with fail
      go_ret
      exact ⟨rfl, hB11⟩
    · have HJ := Lib.hid h
      have HS := Lib.hid hsp
      clear h hsp HT
      go_wp2_with fail
      refine (HJ.out _ hB2).mono ?_
      rintro e w11 ⟨rfl, hB11⟩
      have hB11 := Below.trans hB2 (hB11.mono hB2.size)
      dsimp only
      go_wp2_with fail
      refine (HS.out _ hB11).mono ?_
      rintro e w12 ⟨v, rfl, hB12, hTx⟩
      have hB12 := hB11.trans (hB12.mono hB11.size)
      have HX := Lib.hid hTx
      clear hTx HJ HS
      dsimp only
      go_wp2_with fail
      refine HX.out.mono ?_
      rintro e w13 ⟨rfl, hB13⟩
      have hB13 := hB12.trans (hB13.mono hB12.size)
      dsimp only
      go_wp2_with fail
      go_ret
      exact ⟨rfl, hB13⟩
  · have HSP := Lib.hid hsp
    have HAA := Lib.hid haa
    have HTA := Lib.hid hta
    have HPAR := Lib.hid hpar
    have hn0 : (0 : Int) ≤ (n : Int) := by omega
    have hn1 : (n : Int) ≤ 8 := by omega
    clear hsp haa hta hpar
    go_wp2_with fail
    refine (HSP.out _ hB1).mono ?_
    rintro e w2 ⟨ao, cap, rfl, hB2, hJ⟩
    have HJA := Lib.hid hJ
    have hB2 := hB1.trans (hB2.mono hB1.size)
    clear hB1 hJ HSP
    dsimp only
    go_wp2_with fail
    refine (HJA.out).mono ?_
    rintro e w3 ⟨rfl, hB3⟩
    have hB3 := hB2.trans (hB3.mono hB2.size)
    clear hB2
    dsimp only
    clear HJA
    go_wp2_with fail
    refine (HAA.out _).mono ?_
    rintro e w4 ⟨rfl, hB4⟩
    have hB4 := hB3.trans (hB4.mono hB3.size)
    clear hB3
    dsimp only
    clear HAA
    go_wp2_with fail
    refine (HTA.out _).mono ?_
    rintro e w5 ⟨rfl, hB5⟩
    have hB5 := hB4.trans (hB5.mono hB4.size)
    clear hB4
    dsimp only
    clear HTA
    rcases HPAR.out with ⟨rfl, hp⟩ | ⟨hp0, P, N, hPs, hNs, hp, hpa, hap, hr, hx⟩
    · have HP := Lib.hid hp
      clear hp HPAR
      go_wp2_with fail
      refine (HP.out _).mono ?_
      rintro e w6 ⟨rfl, hB6⟩
      have hB6 := hB5.trans (hB6.mono hB5.size)
      clear hB5
      dsimp only
      clear HP
      clear HW
      rcases HT.out.out with h | ⟨s, h, hsp⟩
      · have HJ := Lib.hid h
        clear h HT
        go_wp2_with fail
        refine (HJ.out _ hB6).mono ?_
        rintro e w11 ⟨rfl, hB11⟩
        have hB11 := Below.trans hB6 (hB11.mono hB6.size)
        dsimp only
        go_wp2_with fail
        go_ret
        exact ⟨rfl, hB11⟩
      · have HJ := Lib.hid h
        have HS := Lib.hid hsp
        clear h hsp HT
        go_wp2_with fail
        refine (HJ.out _ hB6).mono ?_
        rintro e w11 ⟨rfl, hB11⟩
        have hB11 := Below.trans hB6 (hB11.mono hB6.size)
        dsimp only
        go_wp2_with fail
        refine (HS.out _ hB11).mono ?_
        rintro e w12 ⟨v, rfl, hB12, hTx⟩
        have hB12 := hB11.trans (hB12.mono hB11.size)
        have HX := Lib.hid hTx
        clear hTx HJ HS
        dsimp only
        go_wp2_with fail
        refine HX.out.mono ?_
        rintro e w13 ⟨rfl, hB13⟩
        have hB13 := hB12.trans (hB13.mono hB12.size)
        dsimp only
        go_wp2_with fail
        go_ret
        exact ⟨rfl, hB13⟩
    · have HP := Lib.hid hp
      have HPA := Lib.hid hpa
      have HAP := Lib.hid hap
      have HR := Lib.hid hr
      have HX := Lib.hid hx
      have hPi : (P.size : Int) ≤ 200 := by omega
      have hNi : (N.size : Int) ≤ 200 := by omega
      have hnp : (0 : Int) < (n : Int) := by omega
      clear hp hpa hap hr hx HPAR
      go_wp2_with fail
      refine (HP.out _).mono ?_
      rintro e w6 ⟨rfl, hB6⟩
      have hB6 := hB5.trans (hB6.mono hB5.size)
      clear hB5
      dsimp only
      clear HP
      rcases HX.out with ⟨rfl, hx⟩ | ⟨hne, hx⟩
      · have EX := Lib.hid (congrArg ByteArray.toList hx)
        clear hx HX
        go_wp2_with fail
        refine (HPA.out _).mono ?_
        rintro e w7 ⟨rfl, hB7⟩
        have hB7 := hB6.trans (hB7.mono hB6.size)
        clear hB6
        dsimp only
        clear HPA
        go_wp2_with fail
        refine (HAP.out _).mono ?_
        rintro e w8 ⟨rfl, hB8⟩
        have hB8 := hB7.trans (hB8.mono hB7.size)
        clear hB7
        dsimp only
        clear HAP
        go_wp2_with fail
        refine (HR.out _).mono ?_
        rintro e w9 ⟨rfl, hB9⟩
        have hB9 := hB8.trans (hB9.mono hB8.size)
        clear hB8
        dsimp only
        clear HR
        go_wp2_with fail
        · rename_i hh
          exfalso
          rw [EX.out] at hh
          simp at hh
        · clear EX
          rcases HT.out.out with h | ⟨s, h, hsp⟩
          · have HJ := Lib.hid h
            clear h HT
            refine (HJ.out _ hB9).mono ?_
            rintro e w11 ⟨rfl, hB11⟩
            have hB11 := Below.trans hB9 (hB11.mono hB9.size)
            dsimp only
            go_wp2_with fail
            go_ret
            exact ⟨rfl, hB11⟩
          · have HJ := Lib.hid h
            have HS := Lib.hid hsp
            clear h hsp HT
            refine (HJ.out _ hB9).mono ?_
            rintro e w11 ⟨rfl, hB11⟩
            have hB11 := Below.trans hB9 (hB11.mono hB9.size)
            dsimp only
            go_wp2_with fail
            refine (HS.out _ hB11).mono ?_
            rintro e w12 ⟨v, rfl, hB12, hTx⟩
            have hB12 := hB11.trans (hB12.mono hB11.size)
            have HX := Lib.hid hTx
            clear hTx HJ HS
            dsimp only
            go_wp2_with fail
            refine HX.out.mono ?_
            rintro e w13 ⟨rfl, hB13⟩
            have hB13 := hB12.trans (hB13.mono hB12.size)
            dsimp only
            go_wp2_with fail
            go_ret
            exact ⟨rfl, hB13⟩
      · have EX := Lib.hid (congrArg ByteArray.toList hx)
        have EP := Lib.hid (show P.toList ≠ [47] from by rw [Lib.toList_data]; exact hne)
        clear hx HX hne
        go_wp2_with fail
        refine (HPA.out _).mono ?_
        rintro e w7 ⟨rfl, hB7⟩
        have hB7 := hB6.trans (hB7.mono hB6.size)
        clear hB6
        dsimp only
        clear HPA
        go_wp2_with fail
        refine (HAP.out _).mono ?_
        rintro e w8 ⟨rfl, hB8⟩
        have hB8 := hB7.trans (hB8.mono hB7.size)
        clear hB7
        dsimp only
        clear HAP
        go_wp2_with fail
        refine (HR.out _).mono ?_
        rintro e w9 ⟨rfl, hB9⟩
        have hB9 := hB8.trans (hB9.mono hB8.size)
        clear hB8
        dsimp only
        clear HR
        go_wp2_with fail
        clear EX EP
        rcases HT.out.out with h | ⟨s, h, hsp⟩
        · have HJ := Lib.hid h
          clear h HT
          refine (HJ.out _ hB9).mono ?_
          rintro e w11 ⟨rfl, hB11⟩
          have hB11 := Below.trans hB9 (hB11.mono hB9.size)
          dsimp only
          go_wp2_with fail
          go_ret
          exact ⟨rfl, hB11⟩
        · have HJ := Lib.hid h
          have HS := Lib.hid hsp
          clear h hsp HT
          refine (HJ.out _ hB9).mono ?_
          rintro e w11 ⟨rfl, hB11⟩
          have hB11 := Below.trans hB9 (hB11.mono hB9.size)
          dsimp only
          go_wp2_with fail
          refine (HS.out _ hB11).mono ?_
          rintro e w12 ⟨v, rfl, hB12, hTx⟩
          have hB12 := hB11.trans (hB12.mono hB11.size)
          have HX := Lib.hid hTx
          clear hTx HJ HS
          dsimp only
          go_wp2_with fail
          refine HX.out.mono ?_
          rintro e w13 ⟨rfl, hB13⟩
          have hB13 := hB12.trans (hB13.mono hB12.size)
          dsimp only
          go_wp2_with fail
          go_ret
          exact ⟨rfl, hB13⟩
end Go.Proofs.Ytpckafgbinoohaa
