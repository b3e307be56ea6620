/- The table of what can stay. -/
import Derived.Test.YtfemanblkmcglaaBase
import Derived.Deep.QuietTactic
import Derived.BigQuiet
import Derived.IntWalk
import Derived.StillTailTactics
import Derived.Laws.BitsAllLaws
import Derived.OwnWalk
namespace Go.Proofs.Ytfemanblkmcglaa
open Go.RowKit Grid
attribute [local go_sem 9000] sem_stralike sem_strnot zeroValue50

/-- A table in memory. -/
structure Tab (g : Nat) (f : Nat → Nat → Nat) (w : World) : Prop where
  cell : ∀ x y, x < 257 → y < 257 → w.cell? ⟨g, x * 257 + y, none⟩ = some (.int .u16 (f x y : Nat))
  free : ∀ x y, x < 257 → y < 257 → w.frozen? ⟨g, x * 257 + y, none⟩ = false
theorem Tab.below {g : Nat} {f : Nat → Nat → Nat} {w w' : World} (h : Tab g f w) (hg : g < w.heap.size) (hb : Below w.heap.size w w') : Tab g f w' :=
  ⟨fun x y hx hy => (hb.cell (p := ⟨g, x * 257 + y, none⟩) hg).trans (h.cell x y hx hy), fun x y hx hy => (hb.frozen (p := ⟨g, x * 257 + y, none⟩) hg).trans (h.free x y hx hy)⟩
theorem below_drewN {B : Nat} {a w : World} (h : Below B a w) (n : Nat) : Below B a (w.drewN n) := ⟨h.os, h.tape, h.output, h.size, h.block⟩
theorem Tab.drewN {g : Nat} {f : Nat → Nat → Nat} {w : World} (h : Tab g f w) (n : Nat) : Tab g f (w.drewN n) := ⟨h.cell, h.free⟩
theorem Tab.drew {g : Nat} {f : Nat → Nat → Nat} {w : World} (h : Tab g f w) : Tab g f w.drew := ⟨h.cell, h.free⟩
theorem Tab.same {g : Nat} {f f' : Nat → Nat → Nat} {w : World} (h : Tab g f w) (he : ∀ x y, x < 257 → y < 257 → f x y = f' x y) : Tab g f' w :=
  ⟨fun x y hx hy => by rw [← he x y hx hy]; exact h.cell x y hx hy, h.free⟩
theorem Tab.set {g : Nat} {f f' : Nat → Nat → Nat} {w : World} (h : Tab g f w) {x y v : Nat} (hx : x < 257) (hy : y < 257) (he : ∀ X Y, X < 257 → Y < 257 → f' X Y = if X = x ∧ Y = y then v else f X Y) :
    Tab g f' (w.setCell ⟨g, x * 257 + y, none⟩ (.int .u16 (v : Nat))) := by
  refine ⟨fun X Y hX hY => ?_, fun X Y hX hY => ?_⟩
  · rw [he X Y hX hY]
    by_cases hc : X = x ∧ Y = y
    · obtain ⟨rfl, rfl⟩ := hc
      rw [if_pos ⟨rfl, rfl⟩]
      exact World.cell?_setCell_same _ _ _ (h.cell X Y hX hY)
    · rw [if_neg hc]
      have hne : (⟨g, x * 257 + y, none⟩ : Addr) ≠ ⟨g, X * 257 + Y, none⟩ := by
        intro e
        injection e with e1 e2
        omega
      have ho := World.cell?_setCell_other w (a := ⟨g, x * 257 + y, none⟩) (b := ⟨g, X * 257 + Y, none⟩) (v := .int .u16 (v : Nat)) hne
      rw [ho]
      exact h.cell X Y hX hY
  · rw [World.frozen?_setCell]; exact h.free X Y hX hY
theorem tab_new (w : World) : Tab w.heap.size (fun _ _ => 0) (w.alloc (.cells ⟨zeros⟩ 50)) := by
  refine ⟨fun x y hx hy => ?_, fun x y hx hy => ?_⟩
  · have h := zeros_get (i := x * 257 + y) (by omega)
    unfold World.cell?
    rw [show (w.alloc (.cells ⟨zeros⟩ 50)).heap[(⟨w.heap.size, x * 257 + y, none⟩ : Addr).block]? = some (.cells ⟨zeros⟩ 50) from heap_alloc_new w _]
    simpa [nought] using h
  · unfold World.frozen?
    rw [show (w.alloc (.cells ⟨zeros⟩ 50)).heap[(⟨w.heap.size, x * 257 + y, none⟩ : Addr).block]? = some (.cells ⟨zeros⟩ 50) from heap_alloc_new w _]
    simp

/-- So far: k rows are left; the row ahead of them from its place m on. -/
def upto (sa sb : List ByteArray) (k : Nat) (X Y : Nat) : Nat := if k ≤ X then at_ sa sb X Y else 0
def within (sa sb : List ByteArray) (k m : Nat) (X Y : Nat) : Nat := if k < X ∨ (X = k ∧ m ≤ Y) then at_ sa sb X Y else 0

theorem within_zero (sa sb : List ByteArray) (x X Y : Nat) : within sa sb x 0 X Y = upto sa sb x X Y := by
  unfold upto within
  by_cases hc : x ≤ X
  · rw [if_pos hc, if_pos (by omega)]
  · rw [if_neg hc, if_neg (by omega)]
/-- One place more. -/
theorem within_step (sa sb : List ByteArray) (x y X Y : Nat) : within sa sb x y X Y = if X = x ∧ Y = y then at_ sa sb x y else within sa sb x (y + 1) X Y := by
  unfold within
  by_cases hc : X = x ∧ Y = y
  · obtain ⟨rfl, rfl⟩ := hc
    rw [if_pos (.inr ⟨rfl, Nat.le_refl _⟩), if_pos ⟨rfl, rfl⟩]
  · rw [if_neg hc]
    by_cases h1 : x < X ∨ X = x ∧ y + 1 ≤ Y
    · rw [if_pos h1, if_pos (by omega)]
    · rw [if_neg h1, if_neg (by omega)]
theorem within_right (sa sb : List ByteArray) (x m : Nat) {X Y : Nat} (h : x < X) : within sa sb x m X Y = at_ sa sb X Y := by unfold within; rw [if_pos (.inl h)]
theorem within_own (sa sb : List ByteArray) (x m : Nat) {Y : Nat} (h : m ≤ Y) : within sa sb x m x Y = at_ sa sb x Y := by unfold within; rw [if_pos (.inr ⟨rfl, h⟩)]
theorem getD_get {α : Type} {l : List α} {i : Nat} {d : α} (h : i < l.length) : l.getD i d = l[i] := by rw [List.getD, List.getElem?_eq_getElem h]; rfl

set_option maxRecDepth 100000 in
set_option maxHeartbeats 1000000 in
theorem most_any (a b : Option Addr) (la ca lb cb : Nat) (sa sb : List ByteArray) (w : World) (hA : Strs a la sa w) (hB : Strs b lb sb w) (hla : la ≤ 256) (hlb : lb ≤ 256) :
    Calls Try.prog 17 #[.slice a la ca, .slice b lb cb] w fun e w' => e = .returned (.pointer (some ⟨w.heap.size, 0, none⟩)) ∧ Tab w.heap.size (at_ sa sb) w' ∧ Below w.heap.size w w' := by
  have hl1 : (la : Int) ≤ 256 := by omega
  have hl2 : (lb : Int) ≤ 256 := by omega
  go_enter Try.func17, Try.ntmps17
  have HT := Lib.hid (tab_new w)
  have HB := Lib.hid ((Below.refl w.heap.size w).alloc (Nat.le_refl _) (.cells ⟨zeros⟩ 50))
  have HG := Lib.hid (show w.heap.size < (w.alloc (.cells ⟨zeros⟩ 50)).heap.size by simp)
  go_wp2_with fail
  go_loopw [6] (fun i wr => ∃ k : Nat, k ≤ la ∧ i = .int .i64 ((k : Int) - 1) ∧ Tab w.heap.size (upto sa sb k) wr ∧ Below w.heap.size w wr ∧ w.heap.size < wr.heap.size) (fun i _ => (intOf i + 1).toNat)
  case atStart => exact ⟨la, Nat.le_refl _, rfl, HT.out.same (fun x y hx hy => by unfold upto; split; rw [at_left y (by rw [← hA.count]; assumption)]; rfl), HB.out, HG.out⟩
  case round =>
    clear HT HB HG
    obtain ⟨k, hk, rfl, hT, hB', hg⟩ := hrel
    have HT := Lib.hid hT
    have HB := Lib.hid hB'
    have HG := Lib.hid hg
    clear hT hB' hg
    by_cases hlt : 0 < k
    · obtain ⟨x, rfl⟩ : ∃ x, k = x + 1 := ⟨k - 1, by omega⟩
      rw [show ((x + 1 : Nat) : Int) - 1 = (x : Int) from by omega]
      have hx0 : (x : Int) < (la : Int) := by omega
      go_wp2_with fail
      go_loopw [7] (fun i wq => ∃ m : Nat, m ≤ lb ∧ i = .int .i64 ((m : Int) - 1) ∧ Tab w.heap.size (within sa sb x m) wq ∧ Below w.heap.size w wq ∧ w.heap.size < wq.heap.size) (fun i _ => (intOf i + 1).toNat)
      case atStart =>
        refine ⟨lb, Nat.le_refl _, rfl, HT.out.same (fun X Y hX hY => ?_), HB.out, HG.out⟩
        unfold upto within
        by_cases hc : x + 1 ≤ X
        · rw [if_pos hc, if_pos (.inl (by omega))]
        · rw [if_neg hc]
          split
          · rw [at_right X (by rw [← hB.count]; omega)]
          · rfl
      case round =>
        clear HT HB HG
        obtain ⟨m, hm, rfl, hT, hB', hg⟩ := hrel
        have HT := Lib.hid hT
        have HB := Lib.hid hB'
        have HG := Lib.hid hg
        clear hT hB' hg
        by_cases hlm : 0 < m
        · obtain ⟨y, rfl⟩ : ∃ y, m = y + 1 := ⟨m - 1, by omega⟩
          rw [show ((y + 1 : Nat) : Int) - 1 = (y : Int) from by omega]
          have hy0 : (y : Int) < (lb : Int) := by omega
          obtain ⟨b1, o1, rfl, hc1⟩ := hA.cell x (by omega)
          obtain ⟨b2, o2, rfl, hc2⟩ := hB.cell y (by omega)
          have hd1 := (HB.out.cell (p := ⟨b1, o1 + x, none⟩) (block_lt_of_cell hc1)).trans hc1
          have hd2 := (HB.out.cell (p := ⟨b2, o2 + y, none⟩) (block_lt_of_cell hc2)).trans hc2
          clear hc1 hc2
          have h00 := HT.out.cell x y (by omega) (by omega)
          have f00 := HT.out.free x y (by omega) (by omega)
          have hle := at_le_left sa sb x y
          have hle1 := at_le_left sa sb (x + 1) (y + 1)
          have hlA := hA.count
          have hlB := hB.count
          by_cases he : sa.getD x ByteArray.empty = sb.getD y ByteArray.empty
          · have ha : alike (sa.getD x ByteArray.empty) (sb.getD y ByteArray.empty) = true := decide_eq_true he
            have hat := at_same (a := sa) (b := sb) (x := x) (y := y) (by omega) (by omega) (by rw [← getD_get (d := ByteArray.empty) (by omega), ← getD_get (d := ByteArray.empty) (by omega), he])
            have HQ := Lib.hid (fun n => HT.out.drewN n)
            have HGn := Lib.hid (fun n => (show w.heap.size < (wr.drewN n).heap.size from HG.out))
            have HBn := Lib.hid (fun n => below_drewN HB.out n)
            generalize sa.getD x ByteArray.empty = u at hd1 ha
            generalize sb.getD y ByteArray.empty = v at hd2 ha
            clear he hle hlB h00 f00
            have HAT := Lib.hid hat
            clear hat
            go_wp2_with fail
            go_quiet (fail)
            go_wp2_with fail
            clear HT hd1 hd2 HB HG
            have hT2 := HQ.out nq
            have hB2 := HBn.out nq
            have hG2 := HGn.out nq
            clear HQ HBn HGn
            generalize wr.drewN nq = w2 at hT2 hB2 hG2 ⊢
            have h11 := hT2.cell (x + 1) (y + 1) (by omega) (by omega)
            rw [within_right sa sb x (y + 1) (by omega)] at h11
            have h00 := hT2.cell x y (by omega) (by omega)
            have f00 := hT2.free x y (by omega) (by omega)
            have HS := Lib.hid (hT2.set (f' := within sa sb x y) (x := x) (y := y) (v := at_ sa sb (x + 1) (y + 1) + 1) (by omega) (by omega) (fun X Y _ _ => by rw [within_step, HAT.out]))
            have HB := Lib.hid hB2
            have HG := Lib.hid hG2
            have hle2 : at_ sa sb (x + 1) (y + 1) ≤ 256 := by omega
            clear hT2 hB2 hG2 HAT hle1 hlA
            generalize at_ sa sb (x + 1) (y + 1) = n at h11 HS hle2
            generalize within sa sb x (y + 1) x y = m0 at h00
            have hn : (n : Int) ≤ 256 := by omega
            have x1 : (x : Int) + 1 < 257 := by omega
            have y1 : (y : Int) + 1 < 257 := by omega
            have x2 : (x : Int) < 257 := by omega
            have y2 : (y : Int) < 257 := by omega
            have x3 : (0 : Int) ≤ (x : Int) + 1 := by omega
            have y3 : (0 : Int) ≤ (y : Int) + 1 := by omega
            have xw : IntKind.i64.wrap ((x : Int) + 1) = (x : Int) + 1 := IntWalk.i64_in _ (by omega)
            have yw : IntKind.i64.wrap ((y : Int) + 1) = (y : Int) + 1 := IntWalk.i64_in _ (by omega)
            have xt : ((x : Int) + 1).toNat = x + 1 := by omega
            have yt : ((y : Int) + 1).toNat = y + 1 := by omega
            have nw : IntKind.u16.wrap ((n : Int) + 1) = (n : Int) + 1 := by rw [IntKind.wrap_u16]; omega
            go_still_tail 12, (by kernel_rfl)
            go_wp2
            go_roundw
            case rel => exact ⟨y, by omega, rfl, HS.out.drew, (HB.out.setCell (p := ⟨w.heap.size, x * 257 + y, none⟩) (Nat.le_refl _) _).drew, by simpa using HG.out⟩
            case measure => simp [intOf]
          · have ha : alike (sa.getD x ByteArray.empty) (sb.getD y ByteArray.empty) = false := decide_eq_false he
            have hat := at_other (a := sa) (b := sb) (x := x) (y := y) (by omega) (by omega) (by rw [← getD_get (d := ByteArray.empty) (by omega), ← getD_get (d := ByteArray.empty) (by omega)]; exact he)
            have HQ := Lib.hid (fun n => HT.out.drewN n)
            have HGn := Lib.hid (fun n => (show w.heap.size < (wr.drewN n).heap.size from HG.out))
            have HBn := Lib.hid (fun n => below_drewN HB.out n)
            generalize sa.getD x ByteArray.empty = u at hd1 ha
            generalize sb.getD y ByteArray.empty = v at hd2 ha
            clear he hle h00 f00
            have HAT := Lib.hid hat
            clear hat
            go_wp2_with fail
            go_quiet (fail)
            go_wp2_with fail
            clear HT hd1 hd2 HB HG
            have hT2 := HQ.out nq
            have hB2 := HBn.out nq
            have hG2 := HGn.out nq
            clear HQ HBn HGn
            generalize wr.drewN nq = w2 at hT2 hB2 hG2 ⊢
            have h10 := hT2.cell (x + 1) y (by omega) (by omega)
            have h01 := hT2.cell x (y + 1) (by omega) (by omega)
            rw [within_right sa sb x (y + 1) (by omega)] at h10
            rw [within_own sa sb x (y + 1) (Nat.le_refl _)] at h01
            have h00 := hT2.cell x y (by omega) (by omega)
            have f00 := hT2.free x y (by omega) (by omega)
            have HS := Lib.hid (hT2.set (f' := within sa sb x y) (x := x) (y := y) (v := max (at_ sa sb (x + 1) y) (at_ sa sb x (y + 1))) (by omega) (by omega) (fun X Y _ _ => by rw [within_step, HAT.out]))
            have HB := Lib.hid hB2
            have HG := Lib.hid hG2
            have hp := at_le_right sa sb (x + 1) y
            have hq := at_le_right sa sb x (y + 1)
            have hp2 : (at_ sa sb (x + 1) y : Int) ≤ 256 := by omega
            have hq2 : (at_ sa sb x (y + 1) : Int) ≤ 256 := by omega
            clear hT2 hB2 hG2 HAT hle1 hlA hp hq hlB
            generalize at_ sa sb (x + 1) y = p at h10 HS hp2
            generalize at_ sa sb x (y + 1) = q at h01 HS hq2
            have HS2 := Lib.hid (show Tab w.heap.size (within sa sb x y) (w2.setCell ⟨w.heap.size, x * 257 + y, none⟩ (.int .u16 (if p < q then (q : Int) else (p : Int)))) by have h := HS.out; rwa [show ((max p q : Nat) : Int) = if p < q then (q : Int) else (p : Int) from by split <;> omega] at h)
            generalize within sa sb x (y + 1) x y = m0 at h00
            have x1 : (x : Int) + 1 < 257 := by omega
            have y1 : (y : Int) + 1 < 257 := by omega
            have x2 : (x : Int) < 257 := by omega
            have y2 : (y : Int) < 257 := by omega
            have x3 : (0 : Int) ≤ (x : Int) + 1 := by omega
            have y3 : (0 : Int) ≤ (y : Int) + 1 := by omega
            have xw : IntKind.i64.wrap ((x : Int) + 1) = (x : Int) + 1 := IntWalk.i64_in _ (by omega)
            have yw : IntKind.i64.wrap ((y : Int) + 1) = (y : Int) + 1 := IntWalk.i64_in _ (by omega)
            have xt : ((x : Int) + 1).toNat = x + 1 := by omega
            have yt : ((y : Int) + 1).toNat = y + 1 := by omega
            go_still_tail 17, (by kernel_rfl)
            go_wp2
            go_roundw
            case rel => exact ⟨y, by omega, rfl, HS2.out.drew, (HB.out.setCell (p := ⟨w.heap.size, x * 257 + y, none⟩) (Nat.le_refl _) _).drew, by simpa using HG.out⟩
            case measure => simp [intOf]
        · obtain rfl : m = 0 := by omega
          rw [show ((0 : Nat) : Int) - 1 = -1 from rfl]
          go_wp2_with fail
          go_roundw
          case rel => exact ⟨x, by omega, rfl, HT.out.same (fun X Y _ _ => within_zero sa sb x X Y), HB.out, HG.out⟩
          case measure => simp [intOf]
    · obtain rfl : k = 0 := by omega
      rw [show ((0 : Nat) : Int) - 1 = -1 from rfl]
      go_wp2_with fail
      go_ret
      exact ⟨rfl, HT.out.same (fun X Y hX hY => by unfold upto; rw [if_pos (Nat.zero_le _)]), HB.out⟩
end Go.Proofs.Ytfemanblkmcglaa
