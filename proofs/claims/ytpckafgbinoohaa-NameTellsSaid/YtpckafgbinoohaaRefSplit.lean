/- The document's Split. -/
import Derived.Test.YtpckafgbinoohaaRefRight
namespace Go.Proofs.Ytpckafgbinoohaa
set_option maxRecDepth 100000
open Go.RowKit
/-- What Split answers. -/
structure Splitted (l : List UInt8) (w : World) (e : Ending) (w' : World) : Prop where
  yes : ∀ ns, Nm.split l = some ns → ∃ ao cap, e = .returned (.tuple #[.slice ao ns.length cap, .int .i64 0]) ∧ Trow w.heap.size (.slice ao ns.length cap) ns w'
  no : Nm.split l = none → e = .returned (.tuple #[.slice none 0 0, .int .i64 14])
  below : Below w.heap.size w w'
theorem split_none {l : List UInt8} {w w' : World} (h : Nm.split l = none) (hb : Below w.heap.size w w') : Splitted l w (.returned (.tuple #[.slice none 0 0, .int .i64 14])) w' :=
  ⟨(fun ns e => by rw [h] at e; cases e), (fun _ => rfl), hb⟩
theorem split_some {l : List UInt8} {ns : List (List UInt8)} {w w' : World} {ao : Option Addr} {cap : Nat} (h : Nm.split l = some ns) (hT : Trow w.heap.size (.slice ao ns.length cap) ns w') (hb : Below w.heap.size w w') : Splitted l w (.returned (.tuple #[.slice ao ns.length cap, .int .i64 0])) w' :=
  ⟨(fun ms e => by rw [h] at e; cases e; exact ⟨ao, cap, rfl, hT⟩), (fun e => by rw [h] at e; cases e), hb⟩
theorem seg_text (x : ByteArray) {f i : Nat} (hf : f ≤ i) (hi : i ≤ x.size) : x.extract f i = lstr (Nm.seg x.data.toList f i) := by
  have h := cut_text x f (i - f) (by omega)
  rw [show f + (i - f) = i from by omega] at h
  exact h
theorem toList_eq {x : ByteArray} {l : List UInt8} (h : x.data.toList = l) : (x.toList == l) = true := by rw [Lib.toList_data, h, beq_iff_eq]
theorem toList_ne {x : ByteArray} {l : List UInt8} (h : x.data.toList ≠ l) : (x.toList == l) = false := by rw [Lib.toList_data, beq_eq_false_iff_ne]; exact h
structure Upto (p : ByteArray) (w : World) (out : List (List UInt8)) (f i : Nat) (a : Option Addr) (c : Nat) (wr : World) : Prop where
  one : 1 ≤ i
  le : i ≤ p.size + 1
  row : Trow w.heap.size (.slice a out.length c) out wr
  below : Below w.heap.size w wr
  right : out.all Nm.right = true
  at_ : i ≤ p.size → Nm.At p.data.toList f i out
  all : i = p.size + 1 → Nm.pieces (p.data.toList.drop 1) = out
  few : out.length ≤ i
set_option maxHeartbeats 4000000 in
theorem refSplit_any (p : ByteArray) (w : World) (hp : p.size ≤ 100000) : Calls Try.prog 8 #[.string p] w (Splitted p.data.toList w) := by
  have hpi : (p.size : Int) ≤ 100000 := by omega
  have hL : p.data.toList.length = p.size := Array.length_toList
  by_cases h0 : p.data.toList = [47]
  · have c0 := toList_eq h0
    have HS := Lib.hid (show Splitted p.data.toList w (.returned (.tuple #[.slice none 0 0, .int .i64 0])) w from split_some (ns := []) (by rw [h0]; exact Nm.split_top) (World.ownsRow_nil _ _ _ _) (Below.refl _ _))
    clear h0 hL
    go_enter Try.func8, Try.ntmps8
    go_wp2_with fail
    go_ret2
    exact HS.out
  have c0 := toList_ne h0
  by_cases h1 : p.size = 0
  · have HS := Lib.hid (split_none (w := w) (w' := w) (Nm.split_no h0 (.inl (by rw [hL]; exact h1))) (Below.refl _ _))
    have h1' : (p.size : Int) = 0 := by omega
    clear h0 hL
    go_enter Try.func8, Try.ntmps8
    go_wp2_with fail
    go_ret2
    exact HS.out
  have hpos : 0 < p.size := by omega
  have hposi : (0 : Int) < (p.size : Int) := by omega
  have hb0 := b_at p hpos
  have hz0 : (p.size : Int) ≠ 0 := by omega
  have hzb : ((p.size : Int) == 0) = false := by rw [beq_eq_false_iff_ne]; exact hz0
  have hpd : 0 < p.data.size := hpos
  by_cases h2 : p[0] = 47
  · have n0 : ((p[0].toNat : Int) != 47) = false := by rw [h2]; rfl
    have hsp := Nm.split_is (p := p.data.toList) (by rw [← hb0]; exact h2) (by rw [hL]; exact hpos) h0
    have HSP := Lib.hid hsp
    have HLL := Lib.hid hL
    have hst : Upto p w [] 1 1 none 0 w := ⟨Nat.le_refl _, by omega, World.ownsRow_nil _ _ _ _, Below.refl _ _, rfl, fun _ => Nm.At.start (by rw [hL]; exact hpos), (fun h => by omega), Nat.zero_le _⟩
    have HST := Lib.hid hst
    clear hsp hst h0 hL hb0 h1 hz0
    clear h2
    go_enter Try.func8, Try.ntmps8
    go_wp2_with fail
    go_loopw [4, 5, 6] (fun x4 x5 x6 wr => ∃ (out : List (List UInt8)) (f i : Nat) (a : Option Addr) (c : Nat), x4 = .slice a out.length c ∧ x5 = .int .i64 (f : Int) ∧ x6 = .int .i64 (i : Int) ∧ Upto p w out f i a c wr) (fun _ _ x6 _ => p.size + 1 - (intOf x6).toNat)
    case atStart => exact ⟨[], 1, 1, none, 0, rfl, rfl, rfl, HST.out⟩
    case round =>
      obtain ⟨out, f, i, a, c, rfl, rfl, rfl, hU⟩ := hrel
      clear HST
      by_cases hle : i ≤ p.size
      · have hA := hU.at_ hle
        have i0 : (i : Int) ≤ (p.size : Int) := by omega
        have hf0 : (0 : Int) ≤ (f : Int) := by omega
        have hfi : (f : Int) ≤ (i : Int) := by have := hA.le; omega
        have hi0 : (0 : Int) ≤ (i : Int) := by omega
        have HU := Lib.hid hU
        have HA := Lib.hid hA
        clear hA hU
        by_cases hgo : i < p.size ∧ p.data.toList.getD i 0 ≠ 47
        · obtain ⟨hlt, hne⟩ := hgo
          have hib := b_at p hlt
          have i1 : (i : Int) < (p.size : Int) := by omega
          have hid2 : i < p.data.size := hlt
          have n1 : ((p[i].toNat : Int) != 47) = true := by
            rw [bne_iff_ne]
            intro e
            exact hne (by rw [← hib]; exact UInt8.toNat_inj.1 (by rw [show ((47 : UInt8)).toNat = 47 from rfl]; omega))
          have HN := Lib.hid (show Upto p w out f (i + 1) a c wr from ⟨by omega, by omega, HU.out.row, HU.out.below, HU.out.right, fun _ => HA.out.more (by rw [HLL.out]; exact hlt) hne, (fun h => by omega), by have := HU.out.few; omega⟩)
          clear hib hne
          go_wp2_with fail
          go_roundw
          case rel => exact ⟨out, f, i + 1, a, c, rfl, rfl, by go_num, HN.out⟩
          case measure => simp [intOf] <;> omega
        · have hcut : i = p.data.toList.length ∨ p.data.toList.getD i 0 = 47 := by
            rw [HLL.out]
            by_cases h : i < p.size
            · right
              exact Classical.byContradiction fun hne => hgo ⟨h, hne⟩
            · left; omega
          have HM := Lib.hid (HA.out.mem hcut)
          have hsg := seg_text p (f := f) (i := i) HA.out.le hle
          have HR := Lib.hid (refRight_any (lstr (Nm.seg p.data.toList f i)) wr (by rw [← hsg, ByteArray.size_extract]; omega))
          unfold RightPost at HR
          rw [lstr_data] at HR
          have HSG := Lib.hid hsg
          have hn1 : i < p.size → ((p.data.toList.getD i 0).toNat : Int) = 47 := fun h => by
            rcases hcut with e | e
            · rw [HLL.out] at e; omega
            · rw [e]; rfl
          have HC := Lib.hid hcut
          clear hsg hgo hcut
          rcases Nat.lt_or_ge i p.size with hlt | hge
          · have i1 : (i : Int) < (p.size : Int) := by omega
            have hid2 : i < p.data.size := hlt
            have n1 : ((p[i].toNat : Int) != 47) = false := by rw [b_at p hlt, hn1 hlt]; rfl
            have HC2 := Lib.hid (fun (_ : i + 1 ≤ p.size) => show p.data.toList.getD i 0 = 47 from by rcases HC.out with e | e; rw [HLL.out] at e; omega; exact e)
            have HC3 := Lib.hid (fun (h : i + 1 = p.size + 1) => show Nm.pieces (p.data.toList.drop 1) = out ++ [Nm.seg p.data.toList f i] from by omega)
            clear hn1 hlt
            go_wp2_with fail
            rw [HSG.out]
            refine HR.out.mono ?_
            rintro e w2 ⟨rfl, rfl⟩
            dsimp only
            cases hr : Nm.right (Nm.seg p.data.toList f i) with
            | false =>
              have HS := Lib.hid (split_none (w := w) (show Nm.split p.data.toList = none from by
                rw [HSP.out, if_neg]
                rintro ⟨h, _⟩
                have := List.all_eq_true.1 h _ HM.out
                rw [hr] at this; cases this) HU.out.below)
              clear hr
              go_wp2_with fail
              go_ret2
              exact HS.out
            | true =>
              have hal := (Below.refl wr.heap.size wr).alloc (Nat.le_refl _) (.cells #[.string (p.extract f i)] 9)
              have HT1 := Lib.hid (trow_below HU.out.row hal)
              have HW2 := Lib.hid (HU.out.below.trans (hal.mono HU.out.below.size))
              have HRR := Lib.hid hr
              have HFW := Lib.hid (show out.length ≤ 1000000 from by have := HU.out.few; omega)
              clear hal hr
              go_wp2_with (at_builtin; refine at_appt rfl _ _ rfl HT1.out (by rfl) wr.heap.size _ (Nm.seg p.data.toList f i) HSG.out (by rfl) (by simp) HFW.out HW2.out.size ?_; intro ao4 cap4 w4 hT4 hgrow4; have HT2 := Lib.hid hT4; have HW3 := Lib.hid (HW2.out.grown hgrow4 HW2.out.size (fun j hj => trow_lt HT1.out j hj)); clear hT4 hgrow4)
              go_roundw
              case rel => exact ⟨out ++ [Nm.seg p.data.toList f i], i + 1, i + 1, ao4, cap4, by rw [List.length_append]; rfl, by go_num, by go_num, ⟨by omega, by omega, by rw [List.length_append]; exact HT2.out, HW3.out, by rw [List.all_append, HU.out.right, List.all_cons, HRR.out]; rfl, fun h => HA.out.cut (by rw [HLL.out]; omega) (HC2.out h), fun h => HC3.out h, by rw [List.length_append]; have := HU.out.few; simp; omega⟩⟩
              case measure => simp [intOf] <;> omega
          · have i1 : (p.size : Int) ≤ (i : Int) := by omega
            have hie : i = p.size := by omega
            have HC2 := Lib.hid (fun (h : i + 1 ≤ p.size) => show p.data.toList.getD i 0 = 47 from by omega)
            have HC3 := Lib.hid (fun (_ : i + 1 = p.size + 1) => show Nm.pieces (p.data.toList.drop 1) = out ++ [Nm.seg p.data.toList f i] from by
              have hA2 := HA.out
              rw [show i = p.data.toList.length from by rw [HLL.out]; exact hie] at hA2 ⊢
              exact hA2.last)
            clear hn1 hge hie
            go_wp2_with fail
            rw [HSG.out]
            refine HR.out.mono ?_
            rintro e w2 ⟨rfl, rfl⟩
            dsimp only
            cases hr : Nm.right (Nm.seg p.data.toList f i) with
            | false =>
              have HS := Lib.hid (split_none (w := w) (show Nm.split p.data.toList = none from by
                rw [HSP.out, if_neg]
                rintro ⟨h, _⟩
                have := List.all_eq_true.1 h _ HM.out
                rw [hr] at this; cases this) HU.out.below)
              clear hr
              go_wp2_with fail
              go_ret2
              exact HS.out
            | true =>
              have hal := (Below.refl wr.heap.size wr).alloc (Nat.le_refl _) (.cells #[.string (p.extract f i)] 9)
              have HT1 := Lib.hid (trow_below HU.out.row hal)
              have HW2 := Lib.hid (HU.out.below.trans (hal.mono HU.out.below.size))
              have HRR := Lib.hid hr
              have HFW := Lib.hid (show out.length ≤ 1000000 from by have := HU.out.few; omega)
              clear hal hr
              go_wp2_with (at_builtin; refine at_appt rfl _ _ rfl HT1.out (by rfl) wr.heap.size _ (Nm.seg p.data.toList f i) HSG.out (by rfl) (by simp) HFW.out HW2.out.size ?_; intro ao4 cap4 w4 hT4 hgrow4; have HT2 := Lib.hid hT4; have HW3 := Lib.hid (HW2.out.grown hgrow4 HW2.out.size (fun j hj => trow_lt HT1.out j hj)); clear hT4 hgrow4)
              go_roundw
              case rel => exact ⟨out ++ [Nm.seg p.data.toList f i], i + 1, i + 1, ao4, cap4, by rw [List.length_append]; rfl, by go_num, by go_num, ⟨by omega, by omega, by rw [List.length_append]; exact HT2.out, HW3.out, by rw [List.all_append, HU.out.right, List.all_cons, HRR.out]; rfl, fun h => HA.out.cut (by rw [HLL.out]; omega) (HC2.out h), fun h => HC3.out h, by rw [List.length_append]; have := HU.out.few; simp; omega⟩⟩
              case measure => simp [intOf] <;> omega
      · obtain rfl : i = p.size + 1 := by have := hU.le; omega
        have hall := hU.all rfl
        have hr := hU.right
        have hrow := hU.row
        have HB := Lib.hid hU.below
        clear hU
        rcases Nat.lt_or_ge 8 out.length with h8 | h8
        · have h8i : (8 : Int) < (out.length : Int) := by omega
          have HS := Lib.hid (split_none (w := w) (show Nm.split p.data.toList = none from by rw [HSP.out, hall, if_neg (by omega)]) HB.out)
          clear hall hr hrow h8
          go_wp2_with fail
          go_ret2
          exact HS.out
        · have h8i : (out.length : Int) ≤ 8 := by omega
          have HS := Lib.hid (split_some (w := w) (ns := out) (show Nm.split p.data.toList = some out from by rw [HSP.out, hall, if_pos ⟨hr, h8⟩]) hrow HB.out)
          clear hall hr hrow h8
          go_wp2_with fail
          go_ret2
          exact HS.out
  · have n0 : ((p[0].toNat : Int) != 47) = true := by
      rw [bne_iff_ne]
      intro e
      exact h2 (UInt8.toNat_inj.1 (by rw [show ((47 : UInt8)).toNat = 47 from rfl]; omega))
    have HS := Lib.hid (split_none (w := w) (w' := w) (Nm.split_no h0 (.inr (by rw [← hb0]; exact h2))) (Below.refl _ _))
    clear h0 hL hb0 h1 hz0 h2
    go_enter Try.func8, Try.ntmps8
    go_wp2_with fail
    go_ret2
    exact HS.out
end Go.Proofs.Ytpckafgbinoohaa
