/- The words of a block's rounds. -/
import Derived.Test.YtheobkepoocamaaGreatDoorLeaf
import Derived.BigRegion
import Derived.Deep.QuietTactic
import Derived.BigQuiet
import Derived.StillTailTactics
import Derived.Lib.Hide
import Derived.Laws.CopyOwn
namespace Go.Proofs.YtheobkepoocamaaGreatDoor
set_option maxRecDepth 100000
open Go.RowKit Sha
attribute [local go_sem 9000] sem_add32 sem_xor32 sem_and32 sem_or32 sem_not32 sem_shr32 sem_shl32 run_w8 run_b8 run_bytes4 run_bytes1

/-- 64 words as cells. -/
def wrow (f : Nat → BitVec 32) : Array Value := ((List.range 64).map fun j => wv (f j)).toArray
theorem wrow_size (f : Nat → BitVec 32) : (wrow f).size = 64 := by simp [wrow]
theorem wrow_get (f : Nat → BitVec 32) (j : Nat) (h : j < 64) : (wrow f)[j]? = some (wv (f j)) := by simp [wrow, h]
theorem wrow_set (f : Nat → BitVec 32) (k : Nat) (x : BitVec 32) : (wrow f).setIfInBounds k (wv x) = wrow (fun j => if j = k then x else f j) := by
  apply Array.ext
  · simp [wrow]
  · intro i h1 h2
    have h3 : i < 64 := by simpa [wrow] using h2
    rw [Array.getElem_setIfInBounds (by simpa using h1)]
    by_cases hk : k = i
    · subst hk; simp [wrow]
    · rw [if_neg hk]; simp [wrow, show ¬ i = k from fun e => hk e.symm]
theorem wrow_zero : wrow (fun _ => 0) = #[wv 0, wv 0, wv 0, wv 0, wv 0, wv 0, wv 0, wv 0, wv 0, wv 0, wv 0, wv 0, wv 0, wv 0, wv 0, wv 0, wv 0, wv 0, wv 0, wv 0, wv 0, wv 0, wv 0, wv 0, wv 0, wv 0, wv 0, wv 0, wv 0, wv 0, wv 0, wv 0, wv 0, wv 0, wv 0, wv 0, wv 0, wv 0, wv 0, wv 0, wv 0, wv 0, wv 0, wv 0, wv 0, wv 0, wv 0, wv 0, wv 0, wv 0, wv 0, wv 0, wv 0, wv 0, wv 0, wv 0, wv 0, wv 0, wv 0, wv 0, wv 0, wv 0, wv 0, wv 0] := rfl
theorem wrow_congr (f g : Nat → BitVec 32) (h : ∀ j, j < 64 → f j = g j) : wrow f = wrow g := by
  unfold wrow
  rw [List.map_congr_left (fun j hj => by rw [h j (List.mem_range.1 hj)])]
theorem wrow_one (f : Nat → BitVec 32) : ((wrow f).all fun x => x.oneCell') = true := by
  simp [wrow]; intros; rfl
/-- The first k words, the others nought. -/
def part (m : Nat → UInt8) (k j : Nat) : BitVec 32 := if j < k then wd m j else 0
theorem part_succ (m : Nat → UInt8) (k : Nat) : (fun j => if j = k then wd m k else part m k j) = part m (k + 1) := by
  funext j
  unfold part
  by_cases h : j = k
  · subst h; simp
  · rw [if_neg h]
    by_cases h2 : j < k
    · rw [if_pos h2, if_pos (by omega)]
    · rw [if_neg h2, if_neg (by omega)]

theorem wrow_64 (m : Nat → UInt8) : wrow (part m 64) = wrow (wd m) := wrow_congr _ _ fun _ hj => if_pos hj
structure SpreadW (m : Nat → UInt8) (w : World) (k : Nat) (wr : World) : Prop where
  own : wr.heap[w.heap.size + 1]? = some (.cells (wrow (part m k)) 118 (0, 0))
  res : wr.heap[w.heap.size]? = some (.cells (wrow (fun _ => 0)) 118 (0, 0))
  below : Below w.heap.size w wr

theorem part_zero (m : Nat → UInt8) : part m 0 = fun _ => 0 := by funext j; simp [part]
theorem SpreadW.cell {m : Nat → UInt8} {w wr : World} {k : Nat} (h : SpreadW m w k wr) (j : Nat) (hj : j < 64) : wr.cell? ⟨w.heap.size + 1, j, none⟩ = some (wv (part m k j)) :=
  (cell_of_row wr (w.heap.size + 1) j _ _ _ h.own).trans (wrow_get _ j hj)
theorem SpreadW.free {m : Nat → UInt8} {w wr : World} {k : Nat} (h : SpreadW m w k wr) (j : Nat) : wr.frozen? ⟨w.heap.size + 1, j, none⟩ = false :=
  frozen_of_row wr _ j _ _ h.own
theorem SpreadW.step {m : Nat → UInt8} {w wr : World} {k : Nat} (h : SpreadW m w k wr) (x : BitVec 32) (hx : x = wd m k) :
    SpreadW m w (k + 1) (wr.setCell ⟨w.heap.size + 1, k, none⟩ (wv x)).drew := by
  subst hx
  refine ⟨?_, ?_, ?_⟩
  · show (wr.setCell ⟨w.heap.size + 1, k, none⟩ (wv (wd m k))).heap[w.heap.size + 1]? = _
    rw [heap_setCell_same wr _ k _ _ _ h.own, wrow_set, part_succ]
  · show (wr.setCell ⟨w.heap.size + 1, k, none⟩ (wv (wd m k))).heap[w.heap.size]? = _
    rw [heap_setCell_other wr _ _ _ (by simp)]; exact h.res
  · exact (h.below.setCell (p := ⟨w.heap.size + 1, k, none⟩) (by simp) _).drew
theorem SpreadW.drewN {m : Nat → UInt8} {w wr : World} {k : Nat} (h : SpreadW m w k wr) (n : Nat) : SpreadW m w k (wr.drewN n) :=
  ⟨by rw [← h.own]; rfl, by rw [← h.res]; rfl, h.below.trans ⟨rfl, rfl, rfl, Nat.le_refl _, fun _ _ => rfl⟩⟩
theorem SpreadW.start (m : Nat → UInt8) (w : World) : SpreadW m w 0 ((w.alloc (.cells (wrow (fun _ => 0)) 118)).alloc (.cells (wrow (fun _ => 0)) 118)) := by
  refine ⟨?_, ?_, ?_⟩
  · rw [heap_alloc2_new, part_zero]
  · rw [heap_alloc2_old]
  · exact ((Below.refl _ _).alloc (Nat.le_refl _) _).alloc (by simp) _

set_option maxRecDepth 100000 in
set_option maxHeartbeats 1000000 in
theorem spread_any (b : Nat) (m : Nat → UInt8) (w : World) (hb : b < w.heap.size) (hm : ∀ j, j < 64 → w.cell? ⟨b, 8 + j, none⟩ = some (bv (m j))) :
    Calls Tryz.prog 93 #[.pointer (some ⟨b, 0, none⟩)] w fun e w' => e = .returned (.agg (wrow (wd m))) ∧ Below w.heap.size w w' := by
  have HM := Lib.hid hm
  clear hm
  go_enter Tryz.func93, Tryz.ntmps93
  go_wp2
  go_loopw [11] (fun i wr => ∃ k : Nat, k ≤ 16 ∧ i = .int .i64 k ∧ SpreadW m w k wr) (fun i _ => 16 - (intOf i).toNat)
  case atStart => exact ⟨0, by omega, rfl, SpreadW.start m w⟩
  case round =>
    obtain ⟨k, hk, rfl, hr⟩ := hrel
    by_cases hlt : k < 16
    · have hs := run_blockSlice wr b 8 (4 * (k : Int)) (4 * k) (by omega) (by omega)
      have hc : ∀ j, j < 64 → wr.cell? ⟨b, 8 + j, none⟩ = some (bv (m j)) := fun j hj => (hr.below.cell (p := ⟨b, 8 + j, none⟩) hb).trans (HM.out j hj)
      have c0 := hc (4 * k) (by omega)
      have c1 := hc (4 * k + 1) (by omega)
      have c2 := hc (4 * k + 2) (by omega)
      have c3 := hc (4 * k + 3) (by omega)
      have hl : 4 ≤ 64 - 4 * k := by omega
      rw [← Nat.add_assoc] at c1 c2 c3
      generalize 8 + 4 * k = o at hs c0 c1 c2 c3
      generalize 64 - 4 * k = L at hs hl
      clear hc
      have hl0 : 0 < L := by omega
      have hl1 : (1 : Int) < (L : Int) := by omega
      have hl2 : (2 : Int) < (L : Int) := by omega
      have hl3 : (3 : Int) < (L : Int) := by omega
      have hk64 : (k : Int) < 64 := by omega
      have hd := hr.cell k (by omega)
      have hf := hr.free k
      go_wp2
      go_still_tail 24, (by kernel_rfl)
      change wpList _ _ _ _ _ wr.drew
      go_wp2
      go_roundw
      case rel => exact ⟨k + 1, by omega, by go_num, hr.step _ (by rw [wd_first _ _ hlt]; rfl)⟩
      case measure => simp [intOf]; omega
    · replace hr : SpreadW m w 16 wr := by
        obtain rfl : k = 16 := by omega
        exact hr
      have hge : (16 : Int) ≤ (k : Int) := by omega
      clear hlt hk
      go_wp2
      clear hge
      obtain ⟨w2, rfl⟩ : ∃ w2 : World, w2 = wr := ⟨_, rfl⟩
      go_loopw [6] (fun i wr => ∃ k : Nat, 16 ≤ k ∧ k ≤ 64 ∧ i = .int .i64 k ∧ SpreadW m w k wr) (fun i _ => 64 - (intOf i).toNat)
      case atStart => exact ⟨16, by omega, by omega, rfl, hr⟩
      case round =>
        clear hr
        obtain ⟨k, hk0, hk, rfl, hr⟩ := hrel
        by_cases hlt : k < 64
        · have p16 : part m k (k - 16) = wd m (k - 16) := if_pos (by omega)
          have p15 : part m k (k - 15) = wd m (k - 15) := if_pos (by omega)
          have p2 : part m k (k - 2) = wd m (k - 2) := if_pos (by omega)
          have c15 := hr.cell (k - 15) (by omega)
          have c2 := hr.cell (k - 2) (by omega)
          rw [p15] at c15
          rw [p2] at c2
          clear p15 p2
          have hi15 : (0 : Int) ≤ (k : Int) - 15 := by omega
          have hj15 : (k : Int) - 15 < 64 := by omega
          have hi16 : (0 : Int) ≤ (k : Int) - 16 := by omega
          have hj16 : (k : Int) - 16 < 64 := by omega
          have hi7 : (0 : Int) ≤ (k : Int) - 7 := by omega
          have hj7 : (k : Int) - 7 < 64 := by omega
          have hi2 : (0 : Int) ≤ (k : Int) - 2 := by omega
          have hj2 : (k : Int) - 2 < 64 := by omega
          have hk64 : (k : Int) < 64 := by omega
          go_wp2
          go_quiet (fail)
          go_wp2_with (go_at_call 94; refine (turnRight_any _ _ _ (by omega) (by omega)).mono ?_; rintro e w' ⟨rfl, rfl⟩)
          replace hr : SpreadW m w k (wr.drewN nq) := hr.drewN nq
          clear c15 c2
          generalize wr.drewN nq = wq at *
          have p16 : part m k (k - 16) = wd m (k - 16) := if_pos (by omega)
          have p7 : part m k (k - 7) = wd m (k - 7) := if_pos (by omega)
          have c16 := hr.cell (k - 16) (by omega)
          have c7 := hr.cell (k - 7) (by omega)
          rw [p16] at c16
          rw [p7] at c7
          clear p16 p7
          have hd := hr.cell k (by omega)
          have hf := hr.free k
          have g16 : (16 : Int) ≤ (k : Int) := by omega
          have g7 : (7 : Int) ≤ (k : Int) := by omega
          have e16 : IntKind.i64.wrap ((k : Int) - 16) = (k : Int) - 16 := IntWalk.i64_in _ (by omega)
          have e7 : IntKind.i64.wrap ((k : Int) - 7) = (k : Int) - 7 := IntWalk.i64_in _ (by omega)
          have t16 : ((k : Int) - 16).toNat = k - 16 := by omega
          have t7 : ((k : Int) - 7).toNat = k - 7 := by omega
          go_still_tail 15, (by kernel_rfl)
          clear e16 e7 t16 t7
          change wpList _ _ _ _ _ wq.drew
          go_wp2
          go_roundw
          case rel => exact ⟨k + 1, by omega, by omega, by go_num, hr.step _ (wd_next m k hk0).symm⟩
          case measure => simp [intOf]; omega
        · replace hr : SpreadW m w 64 wr := by
            obtain rfl : k = 64 := by omega
            exact hr
          have hge : (64 : Int) ≤ (k : Int) := by omega
          have h64 := wrow_64 m
          go_wp2_with (first
            | (refine wpList_load_row rfl 118 _ rfl (w.heap.size + 1) rfl 118 (wrow (part m 64)) (0, 0) _ hr.own Tryz.underlying118 rfl (by rw [wrow_size]; kernel_rfl) ?_)
            | (refine wpList_store_row rfl 118 _ _ rfl w.heap.size (wrow (part m 64)) rfl rfl 118 (wrow (fun _ => 0)) hr.res (by rw [wrow_size]; kernel_rfl) (by rw [wrow_size, wrow_size]) (wrow_one _) ?_))
          refine bodyPost_ret (v := .agg (wrow (wd m))) (results_cell_row (P := Tryz.prog) Tryz.results93 _ _ w.heap.size 118 (wrow (wd m)) (0, 0) _ rfl ?_ Tryz.underlying118 rfl (by rw [wrow_size]; kernel_rfl)) rfl ⟨rfl, below_setRow hr.below (Nat.le_refl _) _⟩
          rw [← h64]
          exact setRow_heap _ _ _ _ _ _ hr.res
end Go.Proofs.YtheobkepoocamaaGreatDoor
