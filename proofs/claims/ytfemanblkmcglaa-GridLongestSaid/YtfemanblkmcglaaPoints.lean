/- The points of a path. -/
import Derived.Test.YtfemanblkmcglaaOwn
import Derived.Laws.MakeOwn
import Derived.IntWalk
namespace Go.Proofs.Ytfemanblkmcglaa
open Go.RowKit Grid

/-- The first k points behind 0. -/
def ptl (p : List Nat) (k : Nat) : List Value := (List.range (k + 1)).map fun i => pv (xs (p.take i)) (ys (p.take i))
theorem ptl_length (p : List Nat) (k : Nat) : (ptl p k).length = k + 1 := by unfold ptl; rw [List.length_map, List.length_range]
theorem ptl_get (p : List Nat) {k i : Nat} (h : i ≤ k) : (ptl p k)[i]? = some (pv (xs (p.take i)) (ys (p.take i))) := by
  unfold ptl
  rw [List.getElem?_map, List.getElem?_range (by omega)]; rfl
theorem ptl_zero (p : List Nat) : ptl p 0 = [Value.complex .f64 0 0] := by
  show [pv (xs (p.take 0)) (ys (p.take 0))] = _
  rw [List.take_zero]
  show [Value.complex .f64 (fb 0) (fb 0)] = _
  rw [fb_zero]
theorem xs_next {p : List Nat} {k : Nat} (h : k < p.length) : xs (p.take (k + 1)) = xs (p.take k) + gx (p.getD k 0) := by
  rw [xs_take h, List.getD, List.getElem?_eq_getElem h]; rfl
theorem ys_next {p : List Nat} {k : Nat} (h : k < p.length) : ys (p.take (k + 1)) = ys (p.take k) + gy (p.getD k 0) := by
  rw [ys_take h, List.getD, List.getElem?_eq_getElem h]
  show _ = _ + gy p[k]
  unfold gy
  by_cases hc : p[k] = 1
  · rw [if_neg (by simpa using hc), if_pos hc]
  · rw [if_pos hc, if_neg hc]
theorem ptl_next {p : List Nat} {k : Nat} (h : k < p.length) : ptl p k ++ [pv (xs (p.take k) + gx (p.getD k 0)) (ys (p.take k) + gy (p.getD k 0))] = ptl p (k + 1) := by
  unfold ptl
  rw [List.range_succ (n := k + 1), List.map_append, ← xs_next h, ← ys_next h]; rfl
theorem xs_le (p : List Nat) (k : Nat) : xs (p.take k) ≤ k := by
  unfold xs; exact Nat.le_trans (List.length_filter_le _ _) (by rw [List.length_take]; omega)
theorem ys_le (p : List Nat) (k : Nat) : ys (p.take k) ≤ k := by
  unfold ys; exact Nat.le_trans (List.length_filter_le _ _) (by rw [List.length_take]; omega)
theorem pts_owned {base : Nat} {a : Option Addr} {cap : Nat} {p : List Nat} {w : World} (h : w.ownsRow base 34 1 (.slice a (p.length + 1) cap) (p.length + 1) (ptl p p.length)) : Pts a (p.length + 1) p w := by
  refine ⟨rfl, fun i hi => ?_⟩
  obtain ⟨b, off, h1, h2⟩ := owned_cell (d := sv 0) h i hi
  refine ⟨b, off, h1, h2.trans ?_⟩
  rw [List.getD, ptl_get p (by omega)]; rfl

def made (n : Nat) : Array Value := madeCells #[.complex .f64 0 0] (n + 1)
theorem run_made (n : Nat) (hn : n ≤ 1000000) (w : World) : (Instr.makeSlice 25 (.int .i64 1) (.int .i64 ((n : Int) + 1))).run Try.prog w = .ok (.slice (some ⟨w.heap.size, 0, none⟩) 1 (n + 1)) (w.alloc (.cells (made n) 34)) := by
  obtain ⟨i0, hi, hz0, hz1, hz2⟩ := info_parts info34
  have h := run_make (P := Try.prog) w 25 34 i0 _ Try.underlying25 hi hz0 .i64 .i64 1 ((n : Int) + 1) (by omega) (by omega) (by rw [hz2]; omega) (by omega)
  rw [hz1, Nat.mul_one, show ((n : Int) + 1).toNat = n + 1 from by omega] at h
  exact h
theorem made_owned (n : Nat) (hn : n ≤ 1000000) (w : World) : (w.alloc (.cells (made n) 34)).ownsRow w.heap.size 34 1 (.slice (some ⟨w.heap.size, 0, none⟩) 1 (n + 1)) 1 [.complex .f64 0 0] := by
  have hl := toList_madeCells_one (.complex .f64 0 0) (n + 1)
  refine ⟨rfl, .inr ⟨w.heap.size, n + 1, made n, rfl, Nat.le_refl _, heap_alloc_new w _, by omega, by unfold maxLen; omega, ?_, ?_⟩⟩
  · unfold made; rw [size_madeCells, Nat.mul_one]
  · unfold made; rw [hl, List.replicate_succ]; rfl

/-- The points, as they are handed back. -/
def Pointed (p : List Nat) (w : World) (e : Ending) (w' : World) : Prop :=
  ∃ ao cap, e = .returned (.slice ao (p.length + 1) cap) ∧ Pts ao (p.length + 1) p w' ∧ Below w.heap.size w w'

set_option maxRecDepth 100000 in
set_option maxHeartbeats 2000000 in
theorem points_any (a : Option Addr) (len cap : Nat) (p : List Nat) (w : World) (hS : Steps a len p w) (hlen : len ≤ 10000) :
    Calls Try.prog 13 #[.slice a len cap] w (Pointed p w) := by
  have hl1 : (len : Int) ≤ 10000 := by omega
  have hm := run_made len (by omega)
  have HC := Lib.hid hS.count
  have hw0 := (Below.refl w.heap.size w).alloc (Nat.le_refl _) (.cells (made len) 34)
  have hr0 : (w.alloc (.cells (made len) 34)).ownsRow w.heap.size 34 1 (.slice (some ⟨w.heap.size, 0, none⟩) 1 (len + 1)) 1 (ptl p 0) := by rw [ptl_zero]; exact made_owned len (by omega) w
  have HW := Lib.hid hw0
  have HR := Lib.hid hr0
  clear hw0 hr0
  go_enter Try.func13, Try.ntmps13
  go_wp2_with fail
  go_loopw [3, 12] (fun x i wr => ∃ (k : Nat) (ao : Option Addr) (c : Nat), k ≤ len ∧ i = .int .i64 k ∧ x = .slice ao (k + 1) c ∧ wr.ownsRow w.heap.size 34 1 (.slice ao (k + 1) c) (k + 1) (ptl p k) ∧ Below w.heap.size w wr) (fun _ i _ => len - (intOf i).toNat)
  case atStart => exact ⟨0, _, _, Nat.zero_le _, rfl, rfl, HR.out, HW.out⟩
  case round =>
    clear HR HW hm
    obtain ⟨k, ao, c, hk, rfl, rfl, hown, hB⟩ := hrel
    by_cases hlt : k < len
    · obtain ⟨b, off, rfl, hcell⟩ := hS.cell k hlt
      have hd := (hB.cell (p := ⟨b, off + k, none⟩) (block_lt_of_cell hcell)).trans hcell
      obtain ⟨g, o, rfl, hg⟩ := owned_cell (d := sv 0) hown k (by omega)
      rw [List.getD, ptl_get p (Nat.le_refl k)] at hg
      change wr.cell? ⟨g, o + k, none⟩ = some (pv (xs (p.take k)) (ys (p.take k))) at hg
      have hx := xs_le p k
      have hy := ys_le p k
      have hadd := fun w => pt_add (P := Try.prog) w 34 (x := xs (p.take k)) (y := ys (p.take k)) (p.getD k 0) (by omega) (by omega)
      have HN := Lib.hid (ptl_next (p := p) (k := k) (by rw [← HC.out]; exact hlt))
      have hk0 : (k : Int) < (len : Int) := by omega
      have hk2 : (k : Int) < (k : Int) + 1 := by omega
      generalize xs (p.take k) = X at hg hadd HN hx
      generalize ys (p.take k) = Y at hg hadd HN hy
      generalize p.getD k 0 = d at hd hadd HN
      clear hcell hS
      have HO := Lib.hid hown
      have HB := Lib.hid hB
      clear hown hB
      have HOA := Lib.hid (owns_below HO.out ((Below.refl wr.heap.size wr).alloc (Nat.le_refl _) (.cells #[pv (X + gx d) (Y + gy d)] 34)))
      have HBA := Lib.hid (HB.out.alloc HB.out.size (.cells #[pv (X + gx d) (Y + gy d)] 34))
      go_wp2_with (at_builtin; refine at_app1 rfl _ _ 25 34 Try.underlying25 rfl (.complex .f64 0 0) info34 rfl w.heap.size _ (k + 1) (ptl p k) (by rfl) HOA.out wr.heap.size (pv (X + gx d) (Y + gy d)) (by rfl) (by simp) rfl (by omega) HBA.out.size ?_; intro ao4 cap4 w4 hown4 hgrow4; have HB4 := Lib.hid (HBA.out.grown hgrow4 HBA.out.size (fun j hj => (owns_lt HOA.out j hj).1)); have HO4 := Lib.hid hown4; clear hown4 hgrow4)
      go_roundw
      case rel => exact ⟨k + 1, ao4, cap4, by omega, by go_num, rfl, by rw [← HN.out]; exact HO4.out, HB4.out⟩
      case measure => simp [intOf]; omega
    · obtain rfl : k = len := by omega
      have HO := Lib.hid hown
      have HB := Lib.hid hB
      clear hown hB
      go_wp2_with fail
      go_ret
      refine ⟨ao, c, ?_, ?_, HB.out⟩
      · rw [← HC.out]; rfl
      · have h := HO.out
        rw [HC.out] at h
        exact pts_owned h
end Go.Proofs.Ytfemanblkmcglaa
