/- The program's walk and Split. -/
import Derived.Test.YtpckafgbinoohaaTell
import Derived.Test.YtpckafgbinoohaaCut
import Derived.Test.YtpckafgbinoohaaRight
namespace Go.Proofs.Ytpckafgbinoohaa
set_option maxRecDepth 100000
open Go.RowKit
attribute [local go_sem 9000] sem_stralike sem_strnot
/-- What a path's names are, if they are right and few. -/
def cand (r : List UInt8) : List (List UInt8) := if r = [] then [] else Nm.pieces r
theorem split_cand (r : List UInt8) : Nm.split (47 :: r) = if (cand r).all Nm.right = true ∧ (cand r).length ≤ 8 then some (cand r) else none := by
  unfold cand
  by_cases h : r = []
  · subst h; rfl
  · rw [if_neg h, Nm.split_is (by simp) (by simp) (by simpa using h)]
    rfl
/-- How far walk has come. -/
structure Goes (L T : List (List UInt8)) (m : Bool) (r : ByteArray) : Prop where
  few : T.length ≤ 8
  right : T.all Nm.right = true
  all : L = T ++ (if m = true then Nm.pieces r.data.toList else [])
  size : r.size ≤ 100000
theorem Goes.done {L T : List (List UInt8)} {r : ByteArray} (h : Goes L T false r) : L = T := by rw [h.all]; simp
theorem Goes.many {L T : List (List UInt8)} {r : ByteArray} (h : Goes L T true r) (h8 : T.length = 8) : ¬ (L.all Nm.right = true ∧ L.length ≤ 8) := by
  rintro ⟨_, h2⟩
  rw [h.all, if_pos rfl, List.length_append, h8] at h2
  exact Nm.pieces_ne r.data.toList (List.eq_nil_of_length_eq_zero (by omega))
theorem Goes.wrong {L T : List (List UInt8)} {r a b : ByteArray} {f : Bool} (h : Goes L T true r) (hc : CutIs r a b f) (ha : Nm.right a.data.toList = false) : ¬ (L.all Nm.right = true ∧ L.length ≤ 8) := by
  rintro ⟨h1, _⟩
  rw [h.all, if_pos rfl, List.all_append, Bool.and_eq_true] at h1
  have h2 := h1.2
  cases f with
  | true => rw [hc.sep rfl, List.all_cons, ha] at h2; cases h2
  | false => rw [hc.not rfl, List.all_cons, ha] at h2; cases h2
theorem Goes.next {L T : List (List UInt8)} {r a b : ByteArray} {f : Bool} (h : Goes L T true r) (h8 : T.length < 8) (hc : CutIs r a b f) (ha : Nm.right a.data.toList = true) : Goes L (T ++ [a.data.toList]) f b := by
  have hs := h.size
  have hlb := hc.lb
  refine ⟨by simp; omega, by rw [List.all_append, h.right]; simp [ha], ?_, by omega⟩
  rw [h.all, if_pos rfl]
  cases f with
  | true => rw [hc.sep rfl]; simp
  | false => rw [hc.not rfl]; simp
structure Walked (w0 : World) (g : Nat) (l : List UInt8) (e : Ending) (w' : World) : Prop where
  end_ : (∃ ns, e = .returned (.bool true) ∧ Nm.split l = some ns ∧ Box w0 g ns w') ∨ (e = .returned (.bool false) ∧ Nm.split l = none)
  below : Below w0.heap.size w0 w'
set_option maxHeartbeats 2000000 in
theorem walk_any (w0 W : World) (g : Nat) (p : ByteArray) (hp : p.size ≤ 100000) (HB0 : Box w0 g [] W) : Calls Try.prog 18 #[.string p, .func (.func 19) #[] #[.pointer (some ⟨g, 0, none⟩)]] W (Walked w0 g p.data.toList) := by
  have HP := Lib.hid (fun w => cutp_any p w (by omega))
  have HB := Lib.hid HB0
  clear HB0
  have eg : ∀ args w, (callFunc 19 args).run Try.prog w = .ok (.enter 19 args) w := enters_of Try.func19 (by kernel_rfl) rfl
  cases hsl : slashed p with
  | false =>
    have HN := Lib.hid (slashed_no hsl)
    rw [hsl] at HP
    clear hsl
    go_enter Try.func18, Try.ntmps18
    go_wp2_with fail
    refine (HP.out _).mono ?_
    rintro e w1 ⟨rfl, rfl⟩
    dsimp only
    go_wp2_with fail
    go_ret
    exact ⟨.inr ⟨rfl, HN.out⟩, HB.out.below⟩
  | true =>
    have HY := Lib.hid (slashed_yes hsl)
    rw [hsl] at HP
    rw [if_pos rfl] at HP
    clear hsl
    rw [HY.out.2]
    have hr : (p.extract 1 p.size).size ≤ 100000 := by rw [ByteArray.size_extract]; omega
    generalize p.extract 1 p.size = r at *
    have HS := Lib.hid (split_cand r.data.toList)
    have HG : Hid (Goes (cand r.data.toList) [] (!alike r ⟨#[]⟩) r) := by
      refine ⟨Nat.zero_le _, rfl, ?_, hr⟩
      unfold cand alike
      by_cases h : r = ⟨#[]⟩
      · subst h; rfl
      · have h2 : ¬ r.data.toList = [] := fun e => h (Go.WideShapes.bytes_inj e)
        rw [if_neg h2, decide_eq_false h]; simp
    generalize cand r.data.toList = L at *
    clear hr
    go_enter Try.func18, Try.ntmps18
    go_wp2_with fail
    refine (HP.out _).mono ?_
    rintro e w1 ⟨rfl, rfl⟩
    dsimp only
    go_wp2_with fail
    go_loopw [5, 7, 8] (fun v5 v7 v8 wr => ∃ (q : ByteArray) (m : Bool) (T : List (List UInt8)), v5 = .string q ∧ v7 = .bool m ∧ v8 = .int .i64 T.length ∧ Hid (Goes L T m q) ∧ Hid (Box w0 g T wr)) (fun _ _ v8 _ => 9 - (intOf v8).toNat)
    case atStart => exact ⟨r, _, [], rfl, rfl, rfl, HG, HB⟩
    case round =>
      obtain ⟨q, m, T, rfl, rfl, rfl, HG1, HB1⟩ := hrel
      cases m with
      | false =>
        go_wp2_with fail
        go_ret
        exact ⟨.inl ⟨T, rfl, by rw [HS.out, HG1.out.done, if_pos ⟨HG1.out.right, HG1.out.few⟩], HB1.out⟩, HB1.out.below⟩
      | true =>
        have HC := Lib.hid (fun w => cut_any q w (by have := HG1.out.size; omega))
        go_wp2_with fail
        refine (HC.out _).mono ?_
        rintro e w2 ⟨⟨a, b, f, rfl, hc⟩, n, rfl⟩
        have HC1 := Lib.hid hc
        have HB2 := Lib.hid (HB1.out.kept (bdn (Below.refl _ _) n))
        clear hc HC
        dsimp only
        have h8 := HG1.out.few
        by_cases h8e : T.length = 8
        · have h8i : (T.length : Int) = 8 := by omega
          go_wp2_with fail
          go_ret
          exact ⟨.inr ⟨rfl, by rw [HS.out, if_neg (HG1.out.many h8e)]⟩, HB2.out.below⟩
        · have h8i : ¬ (T.length : Int) = 8 := by omega
          have HR := Lib.hid (fun w => right_any a w (by have := HG1.out.size; have := HC1.out.la; omega))
          cases hra : Nm.right a.data.toList with
          | false =>
            have HRA := Lib.hid hra
            rw [hra] at HR
            clear hra
            go_wp2_with fail
            refine (HR.out _).mono ?_
            rintro e w3 ⟨rfl, hw3⟩
            have HB3 := Lib.hid (HB2.out.kept hw3)
            clear hw3
            dsimp only
            go_wp2_with fail
            go_ret
            exact ⟨.inr ⟨rfl, by rw [HS.out, if_neg (HG1.out.wrong HC1.out HRA.out)]⟩, HB3.out.below⟩
          | true =>
            have HRA := Lib.hid hra
            rw [hra] at HR
            clear hra
            go_wp2_with fail
            refine (HR.out _).mono ?_
            rintro e w3 ⟨rfl, hw3⟩
            have HB3 := Lib.hid (HB2.out.kept hw3)
            clear hw3
            have HT := Lib.hid (tell_any w0 w3 g T a.data.toList (by have := HG1.out.size; have := HC1.out.la; have h := Array.length_toList (xs := a.data); have h : a.data.toList.length = a.size := h; omega) (by omega) HB3.out)
            dsimp only
            go_wp2_with fail
            refine HT.out.mono ?_
            rintro e w4 ⟨rfl, hB4⟩
            have HB4 := Lib.hid hB4
            clear hB4
            dsimp only
            go_wp2_with fail
            go_roundw
            case rel => exact ⟨b, f, T ++ [a.data.toList], rfl, rfl, by simp, HG1.out.next (by omega) HC1.out HRA.out, HB4⟩
            case measure => simp [intOf]; omega
theorem box_new (w : World) : Box w w.heap.size [] (w.alloc (.cells #[.slice none 0 0] 22)) := by
  refine ⟨⟨none, 0, ?_, ?_⟩, Nat.le_refl _, below_one _ _⟩
  · show (w.heap.push _)[w.heap.size]? = _
    simp
  · exact World.ownsRow_nil _ _ _ _
theorem box_out {w W : World} {g : Nat} {l : List (List UInt8)} (h : Box w g l W) : ∃ ao cap, W.heap[g]? = some (.cells #[.slice ao l.length cap] 22 (0, 0)) ∧ Trow w.heap.size (.slice ao l.length cap) l W := by
  obtain ⟨ao, cap, h1, h2, h3⟩ := h.row
  have lo := h.lo
  refine ⟨ao, cap, h1, h2, ?_⟩
  rcases h3 with h3 | ⟨g', c, cur, h4, h5, h6⟩
  · exact .inl h3
  · exact .inr ⟨g', c, cur, h4, by omega, h6⟩
theorem split_any (p : ByteArray) (w : World) (hp : p.size ≤ 100000) : Calls Try.prog 7 #[.string p] w (Splitted p.data.toList w) := by
  have HW := Lib.hid (fun W h => walk_any w W w.heap.size p hp h)
  have HB := Lib.hid (box_new w)
  go_enter Try.func7, Try.ntmps7
  go_wp2_with fail
  refine (HW.out _ HB.out).mono ?_
  rintro e w1 ⟨h | ⟨rfl, hn⟩, hB⟩
  · obtain ⟨ns, rfl, hs, hbx⟩ := h
    have HS := Lib.hid hs
    obtain ⟨ao, cap, hk, ht⟩ := box_out hbx
    have ck := cell_obj hk 0
    have HT := Lib.hid ht
    have HBB := Lib.hid hB
    clear hk ht hbx hs hB
    dsimp only
    go_wp2_with fail
    go_ret2
    exact split_some HS.out HT.out HBB.out
  · have HN := Lib.hid hn
    have HBB := Lib.hid hB
    clear hn hB
    dsimp only
    go_wp2_with fail
    go_ret2
    exact split_none HN.out HBB.out
end Go.Proofs.Ytpckafgbinoohaa
