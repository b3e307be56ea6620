/- Layer 11, a part of the proofs: no statement of its own. -/
import Derived.BigRegion
import Derived.Deep.QuietTactic
import Derived.BigQuiet
import Derived.StillTailTactics
import Derived.Lib.Hide
import Derived.Laws.CopyOwn
import Derived.ScopeJumps
import Derived.Test.YthehblmjloohiaaGreatDoorM01
namespace Go.Proofs.YthehblmjloohiaaGreatDoor.T8
set_option maxRecDepth 100000
open Go.RowKit Sha
attribute [local go_sem 9000] sem_add32 sem_xor32 sem_and32 sem_or32 sem_not32 sem_shr32 sem_shl32 run_w8 run_b8 run_bytes4 run_bytes1
def wrow (f : Nat → BitVec 32) : Array Value := ((List.range 64).map fun j => wv (f j)).toArray
theorem wrow_size (f : Nat → BitVec 32) : (wrow f).size = 64 := by simp [wrow]
theorem wrow_get (f : Nat → BitVec 32) (j : Nat) (h : j < 64) : (wrow f)[j]? = some (wv (f j)) := by simp [wrow, h]
theorem wrow_set (f : Nat → BitVec 32) (k : Nat) (x : BitVec 32) : (wrow f).setIfInBounds k (wv x) = wrow (fun j => if j = k then x else f j) := by
 apply Array.ext
 ·simp [wrow]
 ·intro i h1 h2
  have h3 : i < 64 := by simpa [wrow] using h2
  rw [Array.getElem_setIfInBounds (by simpa using h1)]
  by_cases hk : k = i
  ·subst hk; simp [wrow]
  ·rw [if_neg hk]; simp [wrow, show ¬ i = k from fun e => hk e.symm]
theorem wrow_congr (f g : Nat → BitVec 32) (h : ∀ j, j < 64 → f j = g j) : wrow f = wrow g := by
 unfold wrow
 rw [List.map_congr_left (fun j hj => by rw [h j (List.mem_range.1 hj)])]
theorem wrow_one (f : Nat → BitVec 32) : ((wrow f).all fun x => x.oneCell') = true := by
 simp [wrow]; intros; rfl
def part (m : Nat → UInt8) (k j : Nat) : BitVec 32 := if j < k then wd m j else 0
theorem part_succ (m : Nat → UInt8) (k : Nat) : (fun j => if j = k then wd m k else part m k j) = part m (k + 1) := by
 funext j
 unfold part
 by_cases h : j = k
 ·subst h; simp
 ·rw [if_neg h]
  by_cases h2 : j < k
  ·rw [if_pos h2, if_pos (by omega)]
  ·rw [if_neg h2, if_neg (by omega)]
theorem wrow_64 (m : Nat → UInt8) : wrow (part m 64) = wrow (wd m) := wrow_congr _ _ fun _ hj => if_pos hj
structure SpreadW (m : Nat → UInt8) (w : World) (k : Nat) (wr : World) : Prop where
 own : wr.heap[w.heap.size + 1]? = some (.cells (wrow (part m k)) 195 (0, 0))
 res : wr.heap[w.heap.size]? = some (.cells (wrow (fun _ => 0)) 195 (0, 0))
 below : Below w.heap.size w wr
theorem part_zero (m : Nat → UInt8) : part m 0 = fun _ => 0 := by funext j; simp [part]
theorem SpreadW.cell {m : Nat → UInt8} {w wr : World} {k : Nat} (h : SpreadW m w k wr) (j : Nat) (hj : j < 64) : wr.cell? ⟨w.heap.size + 1, j, none⟩ = some (wv (part m k j)) :=
 (cell_of_row wr (w.heap.size + 1) j _ _ _ h.own).trans (wrow_get _ j hj)
theorem SpreadW.free {m : Nat → UInt8} {w wr : World} {k : Nat} (h : SpreadW m w k wr) (j : Nat) : wr.frozen? ⟨w.heap.size + 1, j, none⟩ = false :=
 frozen_of_row wr _ j _ _ h.own
theorem SpreadW.step {m : Nat → UInt8} {w wr : World} {k : Nat} (h : SpreadW m w k wr) (x : BitVec 32) (hx : x = wd m k) :
  SpreadW m w (k + 1) (wr.setCell ⟨w.heap.size + 1, k, none⟩ (wv x)).drew := by
 subst hx
 refine ⟨?_, ?_, ?_⟩
 ·show (wr.setCell ⟨w.heap.size + 1, k, none⟩ (wv (wd m k))).heap[w.heap.size + 1]? = _
  rw [heap_setCell_same wr _ k _ _ _ h.own, wrow_set, part_succ]
 ·show (wr.setCell ⟨w.heap.size + 1, k, none⟩ (wv (wd m k))).heap[w.heap.size]? = _
  rw [heap_setCell_other wr _ _ _ (by simp)]; exact h.res
 ·exact (h.below.setCell (p := ⟨w.heap.size + 1, k, none⟩) (by simp) _).drew
theorem SpreadW.drewN {m : Nat → UInt8} {w wr : World} {k : Nat} (h : SpreadW m w k wr) (n : Nat) : SpreadW m w k (wr.drewN n) :=
 ⟨by rw [← h.own]; rfl, by rw [← h.res]; rfl, h.below.trans ⟨rfl, rfl, rfl, Nat.le_refl _, fun _ _ => rfl⟩⟩
theorem SpreadW.start (m : Nat → UInt8) (w : World) : SpreadW m w 0 ((w.alloc (.cells (wrow (fun _ => 0)) 195)).alloc (.cells (wrow (fun _ => 0)) 195)) := by
 refine ⟨?_, ?_, ?_⟩
 ·rw [heap_alloc2_new, part_zero]
 ·rw [heap_alloc2_old]
 ·exact ((Below.refl _ _).alloc (Nat.le_refl _) _).alloc (by simp) _
set_option maxRecDepth 100000 in
set_option maxHeartbeats 1000000 in
theorem spread_any (b : Nat) (m : Nat → UInt8) (w : World) (hb : b < w.heap.size) (hm : ∀ j, j < 64 → w.cell? ⟨b, 8 + j, none⟩ = some (bv (m j))) :
  Calls Tryz.prog 225 #[.pointer (some ⟨b, 0, none⟩)] w fun e w' => e = .returned (.agg (wrow (wd m))) ∧ Below w.heap.size w w' := by
 have HM := Lib.hid hm
 clear hm
 go_enter Tryz.func225, Tryz.ntmps225
 go_wp2
 go_loopw [11] (fun i wr => ∃ k : Nat, k ≤ 16 ∧ i = .int .i64 k ∧ SpreadW m w k wr) (fun i _ => 16 - (intOf i).toNat)
 case atStart => exact ⟨0, by omega, rfl, SpreadW.start m w⟩
 case round =>
  obtain ⟨k, hk, rfl, hr⟩ := hrel
  by_cases hlt : k < 16
  ·have hs := run_blockSlice wr b 8 (4 * (k : Int)) (4 * k) (by omega) (by omega)
   have hc : ∀ j, j < 64 → wr.cell? ⟨b, 8 + j, none⟩ = some (bv (m j)) := fun j hj => (hr.below.cell (p := ⟨b, 8 + j, none⟩) hb).trans (HM.out j hj)
   have c0 := hc (4 * k) (by omega)
   have c1 := hc (4 * k + 1) (by omega)
   have c2 := hc (4 * k + 2) (by omega)
   have c3 := hc (4 * k + 3) (by omega)
   have hl : 4 ≤ 64 - 4 * k := by omega
   rw [← Nat.add_assoc] at c1 c2 c3
   generalize 8 + 4 * k = o at hs c0 c1 c2 c3
   generalize 64 - 4 * k = L at hs hl
   clear hc
   have hl0 : 0 < L := by omega
   have hl1 : (1 : Int) < (L : Int) := by omega
   have hl2 : (2 : Int) < (L : Int) := by omega
   have hl3 : (3 : Int) < (L : Int) := by omega
   have hk64 : (k : Int) < 64 := by omega
   have hd := hr.cell k (by omega)
   have hf := hr.free k
   go_wp2
   go_still_tail 24, (by kernel_rfl)
   change wpList _ _ _ _ _ wr.drew
   go_wp2
   go_roundw
   case rel => exact ⟨k + 1, by omega, by go_num, hr.step _ (by rw [wd_first _ _ hlt]; rfl)⟩
   case measure => simp [intOf]; omega
  ·replace hr : SpreadW m w 16 wr := by
    obtain rfl : k = 16 := by omega
    exact hr
   have hge : (16 : Int) ≤ (k : Int) := by omega
   clear hlt hk
   go_wp2
   clear hge
   obtain ⟨w2, rfl⟩ : ∃ w2 : World, w2 = wr := ⟨_, rfl⟩
   go_loopw [6] (fun i wr => ∃ k : Nat, 16 ≤ k ∧ k ≤ 64 ∧ i = .int .i64 k ∧ SpreadW m w k wr) (fun i _ => 64 - (intOf i).toNat)
   case atStart => exact ⟨16, by omega, by omega, rfl, hr⟩
   case round =>
    clear hr
    obtain ⟨k, hk0, hk, rfl, hr⟩ := hrel
    by_cases hlt : k < 64
    ·have p16 : part m k (k - 16) = wd m (k - 16) := if_pos (by omega)
     have p15 : part m k (k - 15) = wd m (k - 15) := if_pos (by omega)
     have p2 : part m k (k - 2) = wd m (k - 2) := if_pos (by omega)
     have c15 := hr.cell (k - 15) (by omega)
     have c2 := hr.cell (k - 2) (by omega)
     rw [p15] at c15
     rw [p2] at c2
     clear p15 p2
     have hi15 : (0 : Int) ≤ (k : Int) - 15 := by omega
     have hj15 : (k : Int) - 15 < 64 := by omega
     have hi16 : (0 : Int) ≤ (k : Int) - 16 := by omega
     have hj16 : (k : Int) - 16 < 64 := by omega
     have hi7 : (0 : Int) ≤ (k : Int) - 7 := by omega
     have hj7 : (k : Int) - 7 < 64 := by omega
     have hi2 : (0 : Int) ≤ (k : Int) - 2 := by omega
     have hj2 : (k : Int) - 2 < 64 := by omega
     have hk64 : (k : Int) < 64 := by omega
     go_wp2
     go_quiet (fail)
     go_wp2_with (go_at_call 226; refine (turnRight_any _ _ _ (by omega) (by omega)).mono ?_; rintro e w' ⟨rfl, rfl⟩)
     replace hr : SpreadW m w k (wr.drewN nq) := hr.drewN nq
     clear c15 c2
     generalize wr.drewN nq = wq at *
     have p16 : part m k (k - 16) = wd m (k - 16) := if_pos (by omega)
     have p7 : part m k (k - 7) = wd m (k - 7) := if_pos (by omega)
     have c16 := hr.cell (k - 16) (by omega)
     have c7 := hr.cell (k - 7) (by omega)
     rw [p16] at c16
     rw [p7] at c7
     clear p16 p7
     have hd := hr.cell k (by omega)
     have hf := hr.free k
     have g16 : (16 : Int) ≤ (k : Int) := by omega
     have g7 : (7 : Int) ≤ (k : Int) := by omega
     have e16 : IntKind.i64.wrap ((k : Int) - 16) = (k : Int) - 16 := IntWalk.i64_in _ (by omega)
     have e7 : IntKind.i64.wrap ((k : Int) - 7) = (k : Int) - 7 := IntWalk.i64_in _ (by omega)
     have t16 : ((k : Int) - 16).toNat = k - 16 := by omega
     have t7 : ((k : Int) - 7).toNat = k - 7 := by omega
     go_still_tail 15, (by kernel_rfl)
     clear e16 e7 t16 t7
     change wpList _ _ _ _ _ wq.drew
     go_wp2
     go_roundw
     case rel => exact ⟨k + 1, by omega, by omega, by go_num, hr.step _ (wd_next m k hk0).symm⟩
     case measure => simp [intOf]; omega
    ·replace hr : SpreadW m w 64 wr := by
      obtain rfl : k = 64 := by omega
      exact hr
     have hge : (64 : Int) ≤ (k : Int) := by omega
     have h64 := wrow_64 m
     go_wp2_with (first
      | (refine wpList_load_row rfl 195 _ rfl (w.heap.size + 1) rfl 195 (wrow (part m 64)) (0, 0) _ hr.own Tryz.underlying195 rfl (by rw [wrow_size]; kernel_rfl) ?_)
      | (refine wpList_store_row rfl 195 _ _ rfl w.heap.size (wrow (part m 64)) rfl rfl 195 (wrow (fun _ => 0)) hr.res (by rw [wrow_size]; kernel_rfl) (by rw [wrow_size, wrow_size]) (wrow_one _) ?_))
     refine bodyPost_ret (v := .agg (wrow (wd m))) (results_cell_row (P := Tryz.prog) Tryz.results225 _ _ w.heap.size 195 (wrow (wd m)) (0, 0) _ rfl ?_ Tryz.underlying195 rfl (by rw [wrow_size]; kernel_rfl)) rfl ⟨rfl, below_setRow hr.below (Nat.le_refl _) _⟩
     rw [← h64]
     exact setRow_heap _ _ _ _ _ _ hr.res
end Go.Proofs.YthehblmjloohiaaGreatDoor.T8

namespace Go.Proofs.YthehblmjloohiaaGreatDoor.T8
set_option maxRecDepth 100000
open Go.RowKit Sha
attribute [local go_sem 9000] sem_add32 sem_xor32 sem_and32 sem_or32 sem_not32 sem_shr32 sem_shl32 run_w8 run_b8 run_bytes4 run_bytes1
structure OnlyB (b : Nat) (w w' : World) : Prop where
 os : w'.os = w.os
 tape : w'.tape = w.tape
 output : w'.output = w.output
 size : w.heap.size ≤ w'.heap.size
 block : ∀ k, k < w.heap.size → k ≠ b → w'.heap[k]? = w.heap[k]?
theorem OnlyB.refl (b : Nat) (w : World) : OnlyB b w w := ⟨rfl, rfl, rfl, Nat.le_refl _, fun _ _ _ => rfl⟩
theorem OnlyB.trans {b : Nat} {x y z : World} (h : OnlyB b x y) (k : OnlyB b y z) : OnlyB b x z :=
 ⟨k.os.trans h.os, k.tape.trans h.tape, k.output.trans h.output, Nat.le_trans h.size k.size,
  fun i hi hne => (k.block i (Nat.lt_of_lt_of_le hi h.size) hne).trans (h.block i hi hne)⟩
theorem OnlyB.of_below {b : Nat} {x y z : World} (h : OnlyB b x y) (k : Below y.heap.size y z) : OnlyB b x z :=
 h.trans ⟨k.os, k.tape, k.output, k.size, fun i hi _ => k.block i hi⟩
theorem OnlyB.alloc {b : Nat} {x y : World} (h : OnlyB b x y) (o : Obj) : OnlyB b x (y.alloc o) := h.of_below ((Below.refl _ _).alloc (Nat.le_refl _) o)
theorem OnlyB.setCell {b : Nat} {x y : World} (h : OnlyB b x y) {p : Addr} (hp : p.block = b ∨ x.heap.size ≤ p.block) (v : Value) : OnlyB b x (y.setCell p v) :=
 ⟨h.os, h.tape, h.output, Nat.le_trans h.size (by simp), fun i hi hne => (heap_setCell_other y p i v (by omega)).trans (h.block i hi hne)⟩
theorem OnlyB.setRow {b : Nat} {x y : World} (h : OnlyB b x y) {g : Nat} (hp : g = b ∨ x.heap.size ≤ g) (cs : Array Value) : OnlyB b x (y.setRow g cs) :=
 ⟨h.os, h.tape, h.output, Nat.le_trans h.size (by simp), fun i hi hne => (setRow_other y g i cs (by omega)).trans (h.block i hi hne)⟩
theorem OnlyB.drewN {b : Nat} {x y : World} (h : OnlyB b x y) (n : Nat) : OnlyB b x (y.drewN n) := ⟨h.os, h.tape, h.output, h.size, h.block⟩
theorem OnlyB.below {b B : Nat} {x y : World} (h : OnlyB b x y) (hb : B ≤ b) (hB : B ≤ x.heap.size) : Below B x y :=
 ⟨h.os, h.tape, h.output, h.size, fun k hk => h.block k (by omega) (by omega)⟩
theorem OnlyB.cell {b : Nat} {x y : World} (h : OnlyB b x y) (p : Addr) (hp : p.block < x.heap.size) (hne : p.block ≠ b) : y.cell? p = x.cell? p :=
 World.cell?_of_block (h.block p.block hp hne)
def pcL (ws : Nat → BitVec 32) (m : Nat → UInt8) (h t : Int) : List Value :=
 ((List.range 8).map fun j => wv (ws j)) ++ (((List.range 64).map fun j => bv (m j)) ++ [.int .i64 h, .int .u64 t])
def pc (ws : Nat → BitVec 32) (m : Nat → UInt8) (h t : Int) : Array Value := (pcL ws m h t).toArray
section
variable (ws : Nat → BitVec 32) (m : Nat → UInt8) (h t : Int)
theorem pc_word (j : Nat) (hj : j < 8) : (pc ws m h t)[j]? = some (wv (ws j)) := by
 simp only [pc, pcL, List.getElem?_toArray]
 rw [List.getElem?_append_left (by simpa using hj)]
 simp [hj]
theorem pc_byte (j : Nat) (hj : j < 64) : (pc ws m h t)[8 + j]? = some (bv (m j)) := by
 simp only [pc, pcL, List.getElem?_toArray]
 rw [List.getElem?_append_right (by simp), List.getElem?_append_left (by simp; omega)]
 simp [hj]
theorem pc_held : (pc ws m h t)[72]? = some (.int .i64 h) := rfl
theorem pc_total : (pc ws m h t)[73]? = some (.int .u64 t) := rfl
theorem pc_size : (pc ws m h t).size = 74 := by simp [pc, pcL]
theorem pc_setWord (k : Nat) (hk : k < 8) (x : BitVec 32) : (pc ws m h t).setIfInBounds k (wv x) = pc (fun j => if j = k then x else ws j) m h t := by
 match k, hk with
 | 0, _ => rfl
 | 1, _ => rfl
 | 2, _ => rfl
 | 3, _ => rfl
 | 4, _ => rfl
 | 5, _ => rfl
 | 6, _ => rfl
 | 7, _ => rfl
theorem pc_setHeld (x : Int) : (pc ws m h t).setIfInBounds 72 (.int .i64 x) = pc ws m x t := rfl
theorem pc_setTotal (x : Int) : (pc ws m h t).setIfInBounds 73 (.int .u64 x) = pc ws m h x := rfl
end
structure RoundW (b g : Nat) (s : St) (m : Nat → UInt8) (h t : Int) (w wr : World) : Prop where
 press : wr.heap[b]? = some (.cells (pc s.get m h t) 239 (0, 0))
 own : wr.heap[g]? = some (.cells (wrow (wd m)) 195 (0, 0))
 only : OnlyB b w wr
theorem RoundW.drewN {b g : Nat} {s : St} {m : Nat → UInt8} {h t : Int} {w wr : World} (hr : RoundW b g s m h t w wr) (n : Nat) : RoundW b g s m h t w (wr.drewN n) :=
 ⟨hr.press, hr.own, hr.only.drewN n⟩
theorem lt_of_K {w : World} {f : Nat → Value} (h : ∀ j, j < 64 → w.cell? ⟨2, j, none⟩ = some (f j)) : 2 < w.heap.size := block_lt_of_cell (h 0 (by omega))
theorem RoundW.start {b : Nat} {s : St} {m : Nat → UInt8} {h t : Int} {w w1 : World} (hp : w.heap[b]? = some (.cells (pc s.get m h t) 239 (0, 0))) (hw1 : Below w.heap.size w w1) :
  RoundW b w1.heap.size s m h t w ((w1.alloc (.cells (wrow (fun _ => 0)) 195)).setRow w1.heap.size (wrow (wd m))) := by
 have hb : b < w.heap.size := lt_of_block hp
 have hs := hw1.size
 refine ⟨?_, ?_, ?_⟩
 ·rw [setRow_other _ _ _ _ (by omega), Below.heap_alloc _ _ _ (by omega), hw1.block b hb, hp]
 ·exact setRow_heap _ _ _ _ _ _ (heap_alloc_new w1 _)
 ·exact (((OnlyB.refl b w).of_below hw1).alloc _).setRow (.inr hs) _
def mix (s f : St) (k j : Nat) : BitVec 32 := if j < k then s.get j + f.get j else s.get j
structure SumW (b : Nat) (s f : St) (m : Nat → UInt8) (h t : Int) (w : World) (k : Nat) (wr : World) : Prop where
 press : wr.heap[b]? = some (.cells (pc (mix s f k) m h t) 239 (0, 0))
 only : OnlyB b w wr
theorem SumW.cell {b : Nat} {s f : St} {m : Nat → UInt8} {h t : Int} {w wr : World} {k : Nat} (hr : SumW b s f m h t w k wr) (hk : k < 8) : wr.cell? ⟨b, k, none⟩ = some (wv (s.get k)) := by
 rw [cell_of_row wr b _ _ _ _ hr.press, pc_word _ _ _ _ k hk, mix, if_neg (by omega)]
theorem SumW.free {b : Nat} {s f : St} {m : Nat → UInt8} {h t : Int} {w wr : World} {k : Nat} (hr : SumW b s f m h t w k wr) (j : Nat) : wr.frozen? ⟨b, j, none⟩ = false :=
 frozen_of_row wr b j _ _ hr.press
theorem SumW.step {b : Nat} {s f : St} {m : Nat → UInt8} {h t : Int} {w wr : World} {k : Nat} (hr : SumW b s f m h t w k wr) (hk : k < 8) :
  SumW b s f m h t w (k + 1) (wr.setCell ⟨b, k, none⟩ (wv (s.get k + f.get k))).drew := by
 refine ⟨?_, (hr.only.setCell (p := ⟨b, k, none⟩) (.inl rfl) _).drewN 1⟩
 show (wr.setCell ⟨b, k, none⟩ (wv (s.get k + f.get k))).heap[b]? = _
 rw [heap_setCell_same wr b k _ _ _ hr.press, pc_setWord _ _ _ _ k hk]
 congr 3
 funext j
 unfold mix
 by_cases h1 : j = k
 ·subst h1; simp
 ·rw [if_neg h1]
  by_cases h2 : j < k
  ·rw [if_pos h2, if_pos (by omega)]
  ·rw [if_neg h2, if_neg (by omega)]
theorem pc_congr (f g : Nat → BitVec 32) (m : Nat → UInt8) (h t : Int) (hfg : ∀ j, j < 8 → f j = g j) : pc f m h t = pc g m h t := by
 unfold pc pcL
 rw [List.map_congr_left (fun j hj => by rw [hfg j (List.mem_range.1 hj)])]
theorem SumW.done {b : Nat} {s f : St} {m : Nat → UInt8} {h t : Int} {w wr : World} (hr : SumW b s f m h t w 8 wr) :
  wr.heap[b]? = some (.cells (pc (addSt s f).get m h t) 239 (0, 0)) := by
 rw [hr.press, pc_congr (mix s f 8) (addSt s f).get m h t fun j hj => (if_pos hj).trans (addSt_get s f j).symm]
theorem index_st (f : St) (k : Nat) (hk : k < 8) : ∀ w : World, (Instr.index 194 (.agg #[wv f.a, wv f.b, wv f.c, wv f.d, wv f.e, wv f.f, wv f.g, wv f.h]) (.int .i64 (k : Int))).run Tryz.prog w = .ok (wv (f.get k)) w := by
 intro w
 match k, hk with
 | 0, _ => exact rfl
 | 1, _ => exact rfl
 | 2, _ => exact rfl
 | 3, _ => exact rfl
 | 4, _ => exact rfl
 | 5, _ => exact rfl
 | 6, _ => exact rfl
 | 7, _ => exact rfl
set_option maxRecDepth 100000 in
set_option maxHeartbeats 1000000 in
theorem pressBlock_any (b : Nat) (s : St) (m : Nat → UInt8) (h t : Int) (w : World) (hb1 : b ≠ 2) (hp : w.heap[b]? = some (.cells (pc s.get m h t) 239 (0, 0)))
  (hK : ∀ j, j < 64 → w.cell? ⟨2, j, none⟩ = some (wv (kAt j))) :
  Calls Tryz.prog 204 #[.pointer (some ⟨b, 0, none⟩)] w fun e w' => e = .returned (.tuple #[]) ∧ OnlyB b w w' ∧ w'.heap[b]? = some (.cells (pc (press s m).get m h t) 239 (0, 0)) := by
 have hb : b < w.heap.size := lt_of_block hp
 have hm : ∀ j, j < 64 → w.cell? ⟨b, 8 + j, none⟩ = some (bv (m j)) := fun j hj => (cell_of_row w b _ _ _ _ hp).trans (pc_byte _ _ _ _ j hj)
 have HS := Lib.hid (spread_any b m w hb hm)
 have HP := Lib.hid hp
 have HK := Lib.hid hK
 clear hK hm hp
 go_enter Tryz.func204, Tryz.ntmps204
 go_wp2_with (first
  | (go_at_call 225; refine HS.out.mono ?_; rintro e w1 ⟨rfl, hw1⟩)
  | (refine wpList_store_row rfl 195 _ _ rfl w1.heap.size (wrow (wd m)) rfl rfl 195 (wrow (fun _ => 0)) (heap_alloc_new w1 _) (by rw [wrow_size]; kernel_rfl) (by rw [wrow_size, wrow_size]) (wrow_one _) ?_
     change wpList _ _ _ _ _ ((w1.alloc (.cells (wrow (fun _ => 0)) 195)).setRow w1.heap.size (wrow (wd m)))
     have hr := RoundW.start HP.out hw1
     have hsz : b < w1.heap.size ∧ w.heap.size ≤ w1.heap.size := ⟨Nat.lt_of_lt_of_le hb hw1.size, hw1.size⟩
     generalize World.setRow _ _ _ = w2 at hr ⊢
     generalize w1.heap.size = g at hr hsz ⊢
     clear hw1))
 dsimp only [Act.put]
 have hc : ∀ j, j < 8 → w2.cell? ⟨b, j, none⟩ = some (wv (s.get j)) := fun j hj => (cell_of_row w2 b _ _ _ _ hr.press).trans (pc_word _ _ _ _ j hj)
 have c0 := hc 0 (by omega)
 have c1 := hc 1 (by omega)
 have c2 := hc 2 (by omega)
 have c3 := hc 3 (by omega)
 have c4 := hc 4 (by omega)
 have c5 := hc 5 (by omega)
 have c6 := hc 6 (by omega)
 have c7 := hc 7 (by omega)
 simp only [St.get] at c0 c1 c2 c3 c4 c5 c6 c7
 clear hc
 go_quiet (fail)
 go_wp2
 go_quiet (fail)
 go_wp2
 clear c0 c1 c2 c3 c4 c5 c6 c7
 generalize hw3 : World.drewN w2 _ = w3
 replace hr : RoundW b g s m h t w w3 := by rw [← hw3]; exact hr.drewN _
 clear hw3
 go_loopw [61, 3, 4, 5, 6, 7, 8, 9, 10] (fun i va vb vc vd ve vf vg vh wr => ∃ k : Nat, k ≤ 64 ∧ i = .int .i64 k ∧ va = wv (rounds m s k).a ∧ vb = wv (rounds m s k).b ∧ vc = wv (rounds m s k).c ∧ vd = wv (rounds m s k).d ∧
   ve = wv (rounds m s k).e ∧ vf = wv (rounds m s k).f ∧ vg = wv (rounds m s k).g ∧ vh = wv (rounds m s k).h ∧ RoundW b g s m h t w wr) (fun i _ _ _ _ _ _ _ _ _ => 64 - (intOf i).toNat)
 case atStart => exact ⟨0, by omega, rfl, rfl, rfl, rfl, rfl, rfl, rfl, rfl, rfl, hr.drewN _⟩
 case round =>
  clear hr
  obtain ⟨k, hk, rfl, rfl, rfl, rfl, rfl, rfl, rfl, rfl, rfl, hr⟩ := hrel
  by_cases hlt : k < 64
  ·have hst := Lib.hid (show rounds m s (k + 1) = round (rounds m s k) (kAt k) (wd m k) from rfl)
   generalize rounds m s k = st at hst ⊢
   have hck := (hr.only.cell ⟨2, k, none⟩ (lt_of_K HK.out) hb1.symm).trans (HK.out k hlt)
   have hcw := (cell_of_row wr g k _ _ _ hr.own).trans (wrow_get (wd m) k hlt)
   have hk0 : (k : Int) < 64 := by omega
   go_wp2_with (go_at_call 226; refine (turnRight_any _ _ _ (by omega) (by omega)).mono ?_; rintro e w' ⟨rfl, rfl⟩)
   go_quiet (fail)
   go_wp2_with (go_at_call 226; refine (turnRight_any _ _ _ (by omega) (by omega)).mono ?_; rintro e w' ⟨rfl, rfl⟩)
   go_roundw
   case rel =>
    refine ⟨k + 1, by omega, by go_num, ?_, ?_, ?_, ?_, ?_, ?_, ?_, ?_, hr.drewN _⟩ <;> (rw [hst.out]; rfl)
   case measure => simp [intOf]; omega
  ·have HF := Lib.hid (show Sha.press s m = addSt s (rounds m s k) by rw [show k = 64 by omega]; rfl)
   have hge : (64 : Int) ≤ (k : Int) := by omega
   clear hlt hk
   generalize rounds m s k = f at HF ⊢
   go_wp2
   clear hge
   have hr0 : SumW b s f m h t w 0 wr := ⟨hr.press, hr.only⟩
   clear hr
   go_loopw [136] (fun i wr => ∃ k : Nat, k ≤ 8 ∧ i = .int .i64 k ∧ SumW b s f m h t w k wr) (fun i _ => 8 - (intOf i).toNat)
   case atStart => exact ⟨0, by omega, rfl, hr0⟩
   case round =>
    clear hr0
    obtain ⟨k, hk, rfl, hr⟩ := hrel
    by_cases hlt : k < 8
    ·have hix := index_st f k hlt
     have hk0 : (k : Int) < 8 := by omega
     have hc := hr.cell hlt
     have hf := hr.free k
     go_wp2
     go_still_tail 11, (by kernel_rfl)
     change wpList _ _ _ _ _ wr.drew
     go_wp2
     go_roundw
     case rel => exact ⟨k + 1, by omega, by go_num, hr.step hlt⟩
     case measure => simp [intOf]; omega
    ·obtain rfl : k = 8 := by omega
     clear hlt hk
     go_wp2
     go_end0
     exact ⟨rfl, hr.only, by rw [HF.out]; exact hr.done⟩
end Go.Proofs.YthehblmjloohiaaGreatDoor.T8

namespace Go.Proofs.YthehblmjloohiaaGreatDoor.T8
set_option maxRecDepth 100000
open Go.RowKit Sha
def strLen : Value → Nat | .string s => s.size | _ => 0
theorem pc_over (ws : Nat → BitVec 32) (m : Nat → UInt8) (h n : Nat) (hl t : Int) (r : List UInt8) (hn : h + n ≤ 64) (hr : n ≤ r.length) :
  ((pc ws m hl t).toList.take (8 + h + 0) ++ (r.take n).map (fun b => bv b) ++ (pc ws m hl t).toList.drop (8 + h + 0 + ((r.take n).map (fun b => bv b)).length)).toArray = pc ws (over m h n r) hl t := by
 have hlen : ((r.take n).map (fun b => bv b)).length = n := by simp; omega
 have hz := pc_size ws m hl t
 have key : ∀ i : Nat, ((pc ws m hl t).toList.take (8 + h + 0) ++ (r.take n).map (fun b => bv b) ++ (pc ws m hl t).toList.drop (8 + h + 0 + ((r.take n).map (fun b => bv b)).length))[i]? = (pc ws (over m h n r) hl t)[i]? := by
  intro i
  rw [hlen, Nat.add_zero]
  have hT : ((pc ws m hl t).toList.take (8 + h)).length = 8 + h := by rw [List.length_take, Array.length_toList, hz]; omega
  by_cases h1 : i < 8
  ·rw [List.append_assoc, List.getElem?_append_left (by omega), List.getElem?_take, if_pos (by omega), Array.getElem?_toList, pc_word _ _ _ _ i h1, pc_word _ _ _ _ i h1]
  ·by_cases h2 : i < 72
   ·obtain ⟨j, rfl⟩ : ∃ j, i = 8 + j := ⟨i - 8, by omega⟩
    rw [pc_byte _ _ _ _ j (by omega)]
    unfold over
    by_cases h3 : j < h
    ·rw [List.append_assoc, List.getElem?_append_left (by omega), List.getElem?_take, if_pos (by omega), Array.getElem?_toList, pc_byte _ _ _ _ j (by omega), if_neg (by omega)]
    ·by_cases h4 : j < h + n
     ·rw [List.getElem?_append_left (by rw [List.length_append, hT, hlen]; omega), List.getElem?_append_right (by omega), hT, if_pos ⟨by omega, h4⟩, show 8 + j - (8 + h) = j - h by omega]
      rw [List.getElem?_map, List.getElem?_take, if_pos (by omega), List.getElem?_eq_getElem (by omega)]
      simp [List.getD, List.getElem?_eq_getElem (show j - h < r.length by omega)]
     ·rw [List.getElem?_append_right (by rw [List.length_append, hT, hlen]; omega), List.length_append, hT, hlen, List.getElem?_drop, Array.getElem?_toList, show 8 + h + n + (8 + j - (8 + h + n)) = 8 + j by omega, pc_byte _ _ _ _ j (by omega), if_neg (by omega)]
   ·rw [List.getElem?_append_right (by rw [List.length_append, hT, hlen]; omega), List.length_append, hT, hlen, List.getElem?_drop, Array.getElem?_toList, show 8 + h + n + (i - (8 + h + n)) = i by omega]
    by_cases h5 : i < 74
    ·obtain rfl | rfl : i = 72 ∨ i = 73 := by omega
     ·rfl
     ·rfl
    ·rw [Array.getElem?_eq_none (by rw [pc_size]; omega), Array.getElem?_eq_none (by rw [pc_size]; omega)]
 apply Array.ext'
 apply List.ext_getElem?
 intro i
 rw [List.toList_toArray, key i, Array.getElem?_toList]
theorem run_copy_gen {P : Program} (w : World) (dT sT ty elem : TypeId) (hu : P.underlying dT = some (.slice elem)) (hz : (sizeOf elem).run P w = .ok 1 w) (base : Option Addr) (dLen dCap : Nat) (r : ByteArray) (n : Nat) (hn : Nat.min r.size dLen = n) (a : Addr) (w2 : World) (hb : base = some a)
  (hst : (storeCells a ((r.data.toList.map fun b => (Value.int .u8 (b.toNat : Int))).take n)).run P w = .ok () w2) :
  (Builtin.copy_ #[dT, sT] ty #[.slice base dLen dCap, .string r]).run P w = .ok (goInt n) w2 := by
 subst hb
 simp [Builtin.copy_, run_underlying hu, Builtin.lenOf, Builtin.firstCells, hz, hn, hst]
theorem run_copy_str (w : World) (b h n : Nat) (r : ByteArray) (ws : Nat → BitVec 32) (m : Nat → UInt8) (hl t : Int) (ty : TypeId) (hh : h < 64) (hn : n = min r.size (64 - h)) (hp : w.heap[b]? = some (.cells (pc ws m hl t) 239 (0, 0))) :
  (Builtin.copy_ #[137, 9] ty #[.slice (some ⟨b, 8 + h, none⟩) (64 - h) (64 - h), .string r]).run Tryz.prog w =
   .ok (goInt n) (w.setRow b (pc ws (over m h n r.data.toList) hl t)) := by
 have hrs : r.data.toList.length = r.size := by rw [Array.length_toList]; rfl
 have hst := run_storeCells_at Tryz.prog b (8 + h) 239 ((r.data.toList.take n).map (fun b => bv b)) 0 _ w hp (by rw [pc_size, List.length_map, List.length_take]; omega) (by intro v hv; obtain ⟨x, _, rfl⟩ := List.mem_map.1 hv; rfl)
 rw [pc_over ws m h n hl t r.data.toList (by omega) (by omega)] at hst
 have hz : (sizeOf 5).run Tryz.prog w = .ok 1 w := by kernel_rfl
 have hmin : Nat.min r.size (64 - h) = n := hn.symm
 exact run_copy_gen w 137 9 ty 5 Tryz.underlying137 hz (some ⟨b, 8 + h, none⟩) (64 - h) (64 - h) r n hmin _ _ rfl (by rw [← List.map_take]; exact hst)
theorem scope_jumps2 {P : Program} {a : Act} {w : World} {Q : Exit → Act → World → Prop} {c rest : Code} (l : Nat) (J : Act → World → Prop) (μ : Act → World → Nat) (hf : findLabel c l = some (Code.skip.seq rest))
  (pass : ∀ a w, J a w → rest.wp P (Exit.jump l (fun a' w' => J a' w' ∧ μ a' w' < μ a w) Q) a w)
  (first : (∀ a w, J a w → rest.wp P (Exit.jump l J Q) a w) → c.wp P (Exit.jump l J Q) a w) : (Code.scope c).wp P Q a w :=
 wp_scope_jumps l J μ hf (first fun a w hj => Code.wp_mono (fun e a w h => by cases e <;> first | exact h | exact ⟨h.1, h.2.1⟩) (pass a w hj))
  (fun a w hj => wp_seq (wp_skip (pass a w hj)))
structure FeedW (b : Nat) (Z : List UInt8) (T : Int) (w : World) (r : ByteArray) (wr : World) : Prop where
 ex : ∃ (F : List UInt8) (s : St) (m : Nat → UInt8) (h : Nat), F ++ r.data.toList = Z ∧ Holds F s m h ∧ wr.heap[b]? = some (.cells (pc s.get m h T) 239 (0, 0))
 only : OnlyB b w wr
def Fed (b : Nat) (S : List UInt8) (w : World) : Prop := ∃ (s : St) (m : Nat → UInt8) (h : Nat), Holds S s m h ∧ w.heap[b]? = some (.cells (pc s.get m h S.length) 239 (0, 0))
theorem FeedW.start {b : Nat} {S : List UInt8} {x : ByteArray} {s : St} {m : Nat → UInt8} {h : Nat} {w : World} (hh : Holds S s m h) (hp : w.heap[b]? = some (.cells (pc s.get m h S.length) 239 (0, 0))) :
  FeedW b (S ++ x.data.toList) ((S.length + x.size : Nat) : Int) w x (w.setCell ⟨b, 73, none⟩ (.int .u64 ((S.length : Int) + (x.size : Int)))) := by
 refine ⟨⟨S, s, m, h, rfl, hh, ?_⟩, (OnlyB.refl b w).setCell (p := ⟨b, 73, none⟩) (.inl rfl) _⟩
 rw [heap_setCell_same w b 73 _ _ _ hp, pc_setTotal, Int.natCast_add]
theorem cut_tail (r : ByteArray) (n : Nat) : (r.extract n r.size).data.toList = r.data.toList.drop n := by
 rw [ByteArray.data_extract, Array.toList_extract, List.extract_eq_take_drop, List.take_of_length_le]
 rw [List.length_drop, Array.length_toList]; exact Nat.le_refl _
theorem fed_over (wr : World) (b : Nat) (ws : Nat → BitVec 32) (m m' : Nat → UInt8) (h t : Int) (w : World) (hp : wr.heap[b]? = some (.cells (pc ws m h t) 239 (0, 0))) (ho : OnlyB b w wr) :
  (wr.drew.setRow b (pc ws m' h t)).heap[b]? = some (.cells (pc ws m' h t) 239 (0, 0)) ∧ OnlyB b w (wr.drew.setRow b (pc ws m' h t)) :=
 ⟨setRow_heap wr.drew b _ _ _ _ hp, (ho.drewN 1).setRow (.inl rfl) _⟩
set_option maxRecDepth 100000 in
set_option maxHeartbeats 2000000 in
theorem feed_any (b : Nat) (S : List UInt8) (x : ByteArray) (w : World) (hb1 : b ≠ 2) (hp : Fed b S w) (hsz : S.length + x.size ≤ 1099511627776)
  (hK : ∀ j, j < 64 → w.cell? ⟨2, j, none⟩ = some (wv (kAt j))) :
  Calls Tryz.prog 178 #[.pointer (some ⟨b, 0, none⟩), .string x] w fun e w' => e = .returned (.tuple #[]) ∧ OnlyB b w w' ∧ Fed b (S ++ x.data.toList) w' := by
 obtain ⟨s, m, h, hh, hp⟩ := hp
 have ht := (cell_of_row w b 73 _ _ _ hp).trans (pc_total _ _ _ _)
 have hf := frozen_of_row w b 73 _ _ hp
 have HK := Lib.hid hK
 clear hK
 have hs0 : 0 ≤ (x.size : Int) := by omega
 have hs1 : (S.length : Int) + (x.size : Int) ≤ 1099511627776 := by omega
 go_enter Tryz.func178, Tryz.ntmps178
 go_wp2
 refine scope_jumps2 0 (fun a' wr => ∃ (r : ByteArray) (v4 v5 v6 v7 v8 v9 v10 v11 v12 v13 v14 v15 v16 v17 v18 v19 v20 v21 v22 v23 v24 v25 v26 v27 v28 v29 v30 v31 v32 v33 v34 v35 v36 v37 v38 v39 v40 v41 v42 v43 v44 v45 : Value), a' = { tmps := #[.pointer (some ⟨b, 0, none⟩), .string r, undef, undef, v4, v5, v6, v7, v8, v9, v10, v11, v12, v13, v14, v15, v16, v17, v18, v19, v20, v21, v22, v23, v24, v25, v26, v27, v28, v29, v30, v31, v32, v33, v34, v35, v36, v37, v38, v39, v40, v41, v42, v43, v44, v45], defers := [] } ∧ FeedW b (S ++ x.data.toList) ((S.length + x.size : Nat) : Int) w r wr) (fun a' _ => strLen (a'.tmps.getD 1 undef)) rfl ?_ ?_
 ·rintro a' wr ⟨r, v4, v5, v6, v7, v8, v9, v10, v11, v12, v13, v14, v15, v16, v17, v18, v19, v20, v21, v22, v23, v24, v25, v26, v27, v28, v29, v30, v31, v32, v33, v34, v35, v36, v37, v38, v39, v40, v41, v42, v43, v44, v45, rfl, hr⟩
  obtain ⟨⟨F, s1, m1, h1, hF, hH, hp1⟩, ho⟩ := hr
  have hh1 : h1 < 64 := by have := hH.place; omega
  have c2 := (cell_of_row wr b 72 _ _ _ hp1).trans (pc_held _ _ _ _)
  have f2 := frozen_of_row wr b 72 _ _ hp1
  have hs := fun W : World => run_blockSlice W b 8 (h1 : Int) h1 rfl hh1
  by_cases hc : 64 - h1 ≤ r.size
  ·have hcp := run_copy_str wr.drew b h1 (64 - h1) r s1.get m1 h1 ((S.length + x.size : Nat) : Int) 3 hh1 (by omega) hp1
   have hw2 := fed_over wr b s1.get m1 (over m1 h1 (64 - h1) r.data.toList) h1 ((S.length + x.size : Nat) : Int) w hp1 ho
   generalize World.setRow _ _ _ = w2 at hcp hw2
   obtain ⟨hp2, ho2⟩ := hw2
   have c2' := (cell_of_row w2 b 72 _ _ _ hp2).trans (pc_held _ _ _ _)
   have f2' := frozen_of_row w2 b 72 _ _ hp2
   have hfull := fun m' => hH.full r.data.toList m' (by rw [Array.length_toList]; exact hc)
   have hdone : ∀ n, (F ++ r.data.toList.take n) ++ (r.extract n r.size).data.toList = S ++ x.data.toList := by
    intro n
    rw [← hF, List.append_assoc, cut_tail, List.take_append_drop]
   have hmeas : 0 < 64 - h1 := by omega
   have HF := Lib.hid hfull
   have HD := Lib.hid hdone
   have hq : ((h1 : Int) + ((64 - h1 : Nat) : Int) == 64) = true := by rw [beq_iff_eq]; omega
   have hge : ((64 - h1 : Nat) : Int) ≤ (r.size : Int) := by omega
   have h1le : (h1 : Int) + ((64 - h1 : Nat) : Int) ≤ 64 := by omega
   have hrange : 0 < r.size := by omega
   clear hfull hdone hF hH ho hc
   generalize 64 - h1 = n at *
   have hg1 : (0 : Int) ≤ (h1 : Int) := by omega
   have hg2 : (h1 : Int) < 64 := by omega
   have hp3 : (w2.setCell ⟨b, 72, none⟩ (.int .i64 ((h1 : Int) + (n : Int)))).heap[b]? = some (.cells (pc s1.get (over m1 h1 n r.data.toList) ((h1 : Int) + (n : Int)) ((S.length + x.size : Nat) : Int)) 239 (0, 0)) := by
    rw [heap_setCell_same w2 b 72 _ _ _ hp2, pc_setHeld]
   have ho3 : OnlyB b w (w2.setCell ⟨b, 72, none⟩ (.int .i64 ((h1 : Int) + (n : Int)))) := ho2.setCell (p := ⟨b, 72, none⟩) (.inl rfl) _
   have HP := Lib.hid (pressBlock_any b s1 (over m1 h1 n r.data.toList) _ _ _ hb1 hp3 (fun j hj => (ho3.cell ⟨2, j, none⟩ (lt_of_K HK.out) hb1.symm).trans (HK.out j hj)))
   have HO := Lib.hid ho3
   clear hp3 ho3 ho2 hp2
   go_wp2
   go_still_tail 9, (by kernel_rfl)
   change wpList _ _ _ _ _ wr.drew
   go_wp2_with (go_at_call 204; refine HP.out.mono ?_; rintro e w4 ⟨rfl, ho4, hp4⟩; have c4 := (cell_of_row w4 b 72 _ _ _ hp4).trans (pc_held _ _ _ _); have f4 := frozen_of_row w4 b 72 _ _ hp4)
   go_step3
   refine ⟨rfl, ⟨r.extract n r.size, _, _, _, _, _, _, _, _, _, _, _, _, _, _, _, _, _, _, _, _, _, _, _, _, _, _, _, _, _, _, _, _, _, _, _, _, _, _, _, _, _, _, rfl, ⟨⟨F ++ r.data.toList.take n, _, over m1 h1 n r.data.toList, 0, HD.out n, HF.out _, ?_⟩, (HO.out.trans ho4).setCell (p := ⟨b, 72, none⟩) (.inl rfl) _⟩⟩, ?_⟩
   ·rw [heap_setCell_same w4 b 72 _ _ _ hp4, pc_setHeld]; rfl
   ·simp [strLen]; omega
  ·have hcp := run_copy_str wr.drew b h1 r.size r s1.get m1 h1 ((S.length + x.size : Nat) : Int) 3 hh1 (by omega) hp1
   have hw2 := fed_over wr b s1.get m1 (over m1 h1 r.size r.data.toList) h1 ((S.length + x.size : Nat) : Int) w hp1 ho
   generalize World.setRow _ _ _ = w2 at hcp hw2
   obtain ⟨hp2, ho2⟩ := hw2
   have c2' := (cell_of_row w2 b 72 _ _ _ hp2).trans (pc_held _ _ _ _)
   have f2' := frozen_of_row w2 b 72 _ _ hp2
   have hless := Lib.hid (hH.less r.data.toList (by rw [Array.length_toList]; show h1 + r.size < 64; omega))
   have HF := Lib.hid hF
   have HP2 := Lib.hid hp2
   have hq : (h1 : Int) + (r.size : Int) < 64 := by omega
   have hg1 : (0 : Int) ≤ (h1 : Int) := by omega
   have hg2 : (h1 : Int) < 64 := by omega
   clear hF hH ho hc hp2
   go_wp2
   go_still_tail 9, (by kernel_rfl)
   change wpList _ _ _ _ _ wr.drew
   go_wp2
   simp only [Exit.jump]
   go_end0
   refine ⟨rfl, ho2.setCell (p := ⟨b, 72, none⟩) (.inl rfl) _, s1, over m1 h1 r.size r.data.toList, h1 + r.size, ?_, ?_⟩
   ·rw [← HF.out]; exact hless.out
   ·rw [heap_setCell_same w2 b 72 _ _ _ HP2.out, pc_setHeld, List.length_append, Array.length_toList, Int.natCast_add]; rfl
 ·intro hpass
  go_wp2
  go_step3
  rename_i Kf hKf
  exact hKf _ _ (hpass _ _ ⟨x, _, _, _, _, _, _, _, _, _, _, _, _, _, _, _, _, _, _, _, _, _, _, _, _, _, _, _, _, _, _, _, _, _, _, _, _, _, _, _, _, _, _, rfl, FeedW.start hh hp⟩)
end Go.Proofs.YthehblmjloohiaaGreatDoor.T8
