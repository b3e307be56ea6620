/- A block pressed. -/
import Derived.Test.YtheobkepoocamaaGreatDoorSpread
namespace Go.Proofs.YtheobkepoocamaaGreatDoor
set_option maxRecDepth 100000
open Go.RowKit Sha
attribute [local go_sem 9000] sem_add32 sem_xor32 sem_and32 sem_or32 sem_not32 sem_shr32 sem_shl32 run_w8 run_b8 run_bytes4 run_bytes1

/-- What was there is as it was, but for block b. -/
structure OnlyB (b : Nat) (w w' : World) : Prop where
  os : w'.os = w.os
  tape : w'.tape = w.tape
  output : w'.output = w.output
  size : w.heap.size ≤ w'.heap.size
  block : ∀ k, k < w.heap.size → k ≠ b → w'.heap[k]? = w.heap[k]?

theorem OnlyB.refl (b : Nat) (w : World) : OnlyB b w w := ⟨rfl, rfl, rfl, Nat.le_refl _, fun _ _ _ => rfl⟩
theorem OnlyB.trans {b : Nat} {x y z : World} (h : OnlyB b x y) (k : OnlyB b y z) : OnlyB b x z :=
  ⟨k.os.trans h.os, k.tape.trans h.tape, k.output.trans h.output, Nat.le_trans h.size k.size,
   fun i hi hne => (k.block i (Nat.lt_of_lt_of_le hi h.size) hne).trans (h.block i hi hne)⟩
theorem OnlyB.of_below {b : Nat} {x y z : World} (h : OnlyB b x y) (k : Below y.heap.size y z) : OnlyB b x z :=
  h.trans ⟨k.os, k.tape, k.output, k.size, fun i hi _ => k.block i hi⟩
theorem OnlyB.alloc {b : Nat} {x y : World} (h : OnlyB b x y) (o : Obj) : OnlyB b x (y.alloc o) := h.of_below ((Below.refl _ _).alloc (Nat.le_refl _) o)
theorem OnlyB.setCell {b : Nat} {x y : World} (h : OnlyB b x y) {p : Addr} (hp : p.block = b ∨ x.heap.size ≤ p.block) (v : Value) : OnlyB b x (y.setCell p v) :=
  ⟨h.os, h.tape, h.output, Nat.le_trans h.size (by simp), fun i hi hne => (heap_setCell_other y p i v (by omega)).trans (h.block i hi hne)⟩
theorem OnlyB.setRow {b : Nat} {x y : World} (h : OnlyB b x y) {g : Nat} (hp : g = b ∨ x.heap.size ≤ g) (cs : Array Value) : OnlyB b x (y.setRow g cs) :=
  ⟨h.os, h.tape, h.output, Nat.le_trans h.size (by simp), fun i hi hne => (setRow_other y g i cs (by omega)).trans (h.block i hi hne)⟩
theorem OnlyB.drewN {b : Nat} {x y : World} (h : OnlyB b x y) (n : Nat) : OnlyB b x (y.drewN n) := ⟨h.os, h.tape, h.output, h.size, h.block⟩
theorem OnlyB.below {b B : Nat} {x y : World} (h : OnlyB b x y) (hb : B ≤ b) (hB : B ≤ x.heap.size) : Below B x y :=
  ⟨h.os, h.tape, h.output, h.size, fun k hk => h.block k (by omega) (by omega)⟩
theorem OnlyB.cell {b : Nat} {x y : World} (h : OnlyB b x y) (p : Addr) (hp : p.block < x.heap.size) (hne : p.block ≠ b) : y.cell? p = x.cell? p :=
  World.cell?_of_block (h.block p.block hp hne)

/-- The cells of a press. -/
def pcL (ws : Nat → BitVec 32) (m : Nat → UInt8) (h t : Int) : List Value :=
  ((List.range 8).map fun j => wv (ws j)) ++ (((List.range 64).map fun j => bv (m j)) ++ [.int .i64 h, .int .u64 t])
def pc (ws : Nat → BitVec 32) (m : Nat → UInt8) (h t : Int) : Array Value := (pcL ws m h t).toArray
section
variable (ws : Nat → BitVec 32) (m : Nat → UInt8) (h t : Int)
theorem pc_word (j : Nat) (hj : j < 8) : (pc ws m h t)[j]? = some (wv (ws j)) := by
  simp only [pc, pcL, List.getElem?_toArray]
  rw [List.getElem?_append_left (by simpa using hj)]
  simp [hj]
theorem pc_byte (j : Nat) (hj : j < 64) : (pc ws m h t)[8 + j]? = some (bv (m j)) := by
  simp only [pc, pcL, List.getElem?_toArray]
  rw [List.getElem?_append_right (by simp), List.getElem?_append_left (by simp; omega)]
  simp [hj]
theorem pc_held : (pc ws m h t)[72]? = some (.int .i64 h) := rfl
theorem pc_total : (pc ws m h t)[73]? = some (.int .u64 t) := rfl
theorem pc_size : (pc ws m h t).size = 74 := by simp [pc, pcL]
theorem pc_setWord (k : Nat) (hk : k < 8) (x : BitVec 32) : (pc ws m h t).setIfInBounds k (wv x) = pc (fun j => if j = k then x else ws j) m h t := by
  match k, hk with
  | 0, _ => rfl
  | 1, _ => rfl
  | 2, _ => rfl
  | 3, _ => rfl
  | 4, _ => rfl
  | 5, _ => rfl
  | 6, _ => rfl
  | 7, _ => rfl
theorem pc_setHeld (x : Int) : (pc ws m h t).setIfInBounds 72 (.int .i64 x) = pc ws m x t := rfl
theorem pc_setTotal (x : Int) : (pc ws m h t).setIfInBounds 73 (.int .u64 x) = pc ws m h x := rfl
end

/-- The world in the rounds: the press as it was, the words of the rounds in a block of its own. -/
structure RoundW (b g : Nat) (s : St) (m : Nat → UInt8) (h t : Int) (w wr : World) : Prop where
  press : wr.heap[b]? = some (.cells (pc s.get m h t) 123 (0, 0))
  own : wr.heap[g]? = some (.cells (wrow (wd m)) 118 (0, 0))
  only : OnlyB b w wr

theorem RoundW.drewN {b g : Nat} {s : St} {m : Nat → UInt8} {h t : Int} {w wr : World} (hr : RoundW b g s m h t w wr) (n : Nat) : RoundW b g s m h t w (wr.drewN n) :=
  ⟨hr.press, hr.own, hr.only.drewN n⟩
theorem lt_of_K {w : World} {f : Nat → Value} (h : ∀ j, j < 64 → w.cell? ⟨2, j, none⟩ = some (f j)) : 2 < w.heap.size := block_lt_of_cell (h 0 (by omega))
theorem RoundW.start {b : Nat} {s : St} {m : Nat → UInt8} {h t : Int} {w w1 : World} (hp : w.heap[b]? = some (.cells (pc s.get m h t) 123 (0, 0))) (hw1 : Below w.heap.size w w1) :
    RoundW b w1.heap.size s m h t w ((w1.alloc (.cells (wrow (fun _ => 0)) 118)).setRow w1.heap.size (wrow (wd m))) := by
  have hb : b < w.heap.size := lt_of_block hp
  have hs := hw1.size
  refine ⟨?_, ?_, ?_⟩
  · rw [setRow_other _ _ _ _ (by omega), Below.heap_alloc _ _ _ (by omega), hw1.block b hb, hp]
  · exact setRow_heap _ _ _ _ _ _ (heap_alloc_new w1 _)
  · exact (((OnlyB.refl b w).of_below hw1).alloc _).setRow (.inr hs) _

/-- The first k words added. -/
def mix (s f : St) (k j : Nat) : BitVec 32 := if j < k then s.get j + f.get j else s.get j
structure SumW (b : Nat) (s f : St) (m : Nat → UInt8) (h t : Int) (w : World) (k : Nat) (wr : World) : Prop where
  press : wr.heap[b]? = some (.cells (pc (mix s f k) m h t) 123 (0, 0))
  only : OnlyB b w wr
theorem SumW.cell {b : Nat} {s f : St} {m : Nat → UInt8} {h t : Int} {w wr : World} {k : Nat} (hr : SumW b s f m h t w k wr) (hk : k < 8) : wr.cell? ⟨b, k, none⟩ = some (wv (s.get k)) := by
  rw [cell_of_row wr b _ _ _ _ hr.press, pc_word _ _ _ _ k hk, mix, if_neg (by omega)]
theorem SumW.free {b : Nat} {s f : St} {m : Nat → UInt8} {h t : Int} {w wr : World} {k : Nat} (hr : SumW b s f m h t w k wr) (j : Nat) : wr.frozen? ⟨b, j, none⟩ = false :=
  frozen_of_row wr b j _ _ hr.press
theorem SumW.step {b : Nat} {s f : St} {m : Nat → UInt8} {h t : Int} {w wr : World} {k : Nat} (hr : SumW b s f m h t w k wr) (hk : k < 8) :
    SumW b s f m h t w (k + 1) (wr.setCell ⟨b, k, none⟩ (wv (s.get k + f.get k))).drew := by
  refine ⟨?_, (hr.only.setCell (p := ⟨b, k, none⟩) (.inl rfl) _).drewN 1⟩
  show (wr.setCell ⟨b, k, none⟩ (wv (s.get k + f.get k))).heap[b]? = _
  rw [heap_setCell_same wr b k _ _ _ hr.press, pc_setWord _ _ _ _ k hk]
  congr 3
  funext j
  unfold mix
  by_cases h1 : j = k
  · subst h1; simp
  · rw [if_neg h1]
    by_cases h2 : j < k
    · rw [if_pos h2, if_pos (by omega)]
    · rw [if_neg h2, if_neg (by omega)]
theorem pc_congr (f g : Nat → BitVec 32) (m : Nat → UInt8) (h t : Int) (hfg : ∀ j, j < 8 → f j = g j) : pc f m h t = pc g m h t := by
  unfold pc pcL
  rw [List.map_congr_left (fun j hj => by rw [hfg j (List.mem_range.1 hj)])]
theorem SumW.done {b : Nat} {s f : St} {m : Nat → UInt8} {h t : Int} {w wr : World} (hr : SumW b s f m h t w 8 wr) :
    wr.heap[b]? = some (.cells (pc (addSt s f).get m h t) 123 (0, 0)) := by
  rw [hr.press, pc_congr (mix s f 8) (addSt s f).get m h t fun j hj => (if_pos hj).trans (addSt_get s f j).symm]
theorem index_st (f : St) (k : Nat) (hk : k < 8) : ∀ w : World, (Instr.index 117 (.agg #[wv f.a, wv f.b, wv f.c, wv f.d, wv f.e, wv f.f, wv f.g, wv f.h]) (.int .i64 (k : Int))).run Tryz.prog w = .ok (wv (f.get k)) w := by
  intro w
  match k, hk with
  | 0, _ => exact rfl
  | 1, _ => exact rfl
  | 2, _ => exact rfl
  | 3, _ => exact rfl
  | 4, _ => exact rfl
  | 5, _ => exact rfl
  | 6, _ => exact rfl
  | 7, _ => exact rfl

set_option maxRecDepth 100000 in
set_option maxHeartbeats 1000000 in
theorem pressBlock_any (b : Nat) (s : St) (m : Nat → UInt8) (h t : Int) (w : World) (hb1 : b ≠ 2) (hp : w.heap[b]? = some (.cells (pc s.get m h t) 123 (0, 0)))
    (hK : ∀ j, j < 64 → w.cell? ⟨2, j, none⟩ = some (wv (kAt j))) :
    Calls Tryz.prog 88 #[.pointer (some ⟨b, 0, none⟩)] w fun e w' => e = .returned (.tuple #[]) ∧ OnlyB b w w' ∧ w'.heap[b]? = some (.cells (pc (press s m).get m h t) 123 (0, 0)) := by
  have hb : b < w.heap.size := lt_of_block hp
  have hm : ∀ j, j < 64 → w.cell? ⟨b, 8 + j, none⟩ = some (bv (m j)) := fun j hj => (cell_of_row w b _ _ _ _ hp).trans (pc_byte _ _ _ _ j hj)
  have HS := Lib.hid (spread_any b m w hb hm)
  have HP := Lib.hid hp
  have HK := Lib.hid hK
  clear hK hm hp
  go_enter Tryz.func88, Tryz.ntmps88
  go_wp2_with (first
    | (go_at_call 93; refine HS.out.mono ?_; rintro e w1 ⟨rfl, hw1⟩)
    | (refine wpList_store_row rfl 118 _ _ rfl w1.heap.size (wrow (wd m)) rfl rfl 118 (wrow (fun _ => 0)) (heap_alloc_new w1 _) (by rw [wrow_size]; kernel_rfl) (by rw [wrow_size, wrow_size]) (wrow_one _) ?_
       change wpList _ _ _ _ _ ((w1.alloc (.cells (wrow (fun _ => 0)) 118)).setRow w1.heap.size (wrow (wd m)))
       have hr := RoundW.start HP.out hw1
       have hsz : b < w1.heap.size ∧ w.heap.size ≤ w1.heap.size := ⟨Nat.lt_of_lt_of_le hb hw1.size, hw1.size⟩
       generalize World.setRow _ _ _ = w2 at hr ⊢
       generalize w1.heap.size = g at hr hsz ⊢
       clear hw1))
  dsimp only [Act.put]
  have hc : ∀ j, j < 8 → w2.cell? ⟨b, j, none⟩ = some (wv (s.get j)) := fun j hj => (cell_of_row w2 b _ _ _ _ hr.press).trans (pc_word _ _ _ _ j hj)
  have c0 := hc 0 (by omega)
  have c1 := hc 1 (by omega)
  have c2 := hc 2 (by omega)
  have c3 := hc 3 (by omega)
  have c4 := hc 4 (by omega)
  have c5 := hc 5 (by omega)
  have c6 := hc 6 (by omega)
  have c7 := hc 7 (by omega)
  simp only [St.get] at c0 c1 c2 c3 c4 c5 c6 c7
  clear hc
  go_quiet (fail)
  go_wp2
  go_quiet (fail)
  go_wp2
  clear c0 c1 c2 c3 c4 c5 c6 c7
  generalize hw3 : World.drewN w2 _ = w3
  replace hr : RoundW b g s m h t w w3 := by rw [← hw3]; exact hr.drewN _
  clear hw3
  go_loopw [61, 3, 4, 5, 6, 7, 8, 9, 10] (fun i va vb vc vd ve vf vg vh wr => ∃ k : Nat, k ≤ 64 ∧ i = .int .i64 k ∧ va = wv (rounds m s k).a ∧ vb = wv (rounds m s k).b ∧ vc = wv (rounds m s k).c ∧ vd = wv (rounds m s k).d ∧
      ve = wv (rounds m s k).e ∧ vf = wv (rounds m s k).f ∧ vg = wv (rounds m s k).g ∧ vh = wv (rounds m s k).h ∧ RoundW b g s m h t w wr) (fun i _ _ _ _ _ _ _ _ _ => 64 - (intOf i).toNat)
  case atStart => exact ⟨0, by omega, rfl, rfl, rfl, rfl, rfl, rfl, rfl, rfl, rfl, hr.drewN _⟩
  case round =>
    clear hr
    obtain ⟨k, hk, rfl, rfl, rfl, rfl, rfl, rfl, rfl, rfl, rfl, hr⟩ := hrel
    by_cases hlt : k < 64
    · have hst := Lib.hid (show rounds m s (k + 1) = round (rounds m s k) (kAt k) (wd m k) from rfl)
      generalize rounds m s k = st at hst ⊢
      have hck := (hr.only.cell ⟨2, k, none⟩ (lt_of_K HK.out) hb1.symm).trans (HK.out k hlt)
      have hcw := (cell_of_row wr g k _ _ _ hr.own).trans (wrow_get (wd m) k hlt)
      have hk0 : (k : Int) < 64 := by omega
      go_wp2_with (go_at_call 94; refine (turnRight_any _ _ _ (by omega) (by omega)).mono ?_; rintro e w' ⟨rfl, rfl⟩)
      go_quiet (fail)
      go_wp2_with (go_at_call 94; refine (turnRight_any _ _ _ (by omega) (by omega)).mono ?_; rintro e w' ⟨rfl, rfl⟩)
      go_roundw
      case rel =>
        refine ⟨k + 1, by omega, by go_num, ?_, ?_, ?_, ?_, ?_, ?_, ?_, ?_, hr.drewN _⟩ <;> (rw [hst.out]; rfl)
      case measure => simp [intOf]; omega
    · have HF := Lib.hid (show Sha.press s m = addSt s (rounds m s k) by rw [show k = 64 by omega]; rfl)
      have hge : (64 : Int) ≤ (k : Int) := by omega
      clear hlt hk
      generalize rounds m s k = f at HF ⊢
      go_wp2
      clear hge
      have hr0 : SumW b s f m h t w 0 wr := ⟨hr.press, hr.only⟩
      clear hr
      go_loopw [136] (fun i wr => ∃ k : Nat, k ≤ 8 ∧ i = .int .i64 k ∧ SumW b s f m h t w k wr) (fun i _ => 8 - (intOf i).toNat)
      case atStart => exact ⟨0, by omega, rfl, hr0⟩
      case round =>
        clear hr0
        obtain ⟨k, hk, rfl, hr⟩ := hrel
        by_cases hlt : k < 8
        · have hix := index_st f k hlt
          have hk0 : (k : Int) < 8 := by omega
          have hc := hr.cell hlt
          have hf := hr.free k
          go_wp2
          go_still_tail 11, (by kernel_rfl)
          change wpList _ _ _ _ _ wr.drew
          go_wp2
          go_roundw
          case rel => exact ⟨k + 1, by omega, by go_num, hr.step hlt⟩
          case measure => simp [intOf]; omega
        · obtain rfl : k = 8 := by omega
          clear hlt hk
          go_wp2
          go_end0
          exact ⟨rfl, hr.only, by rw [HF.out]; exact hr.done⟩
end Go.Proofs.YtheobkepoocamaaGreatDoor
