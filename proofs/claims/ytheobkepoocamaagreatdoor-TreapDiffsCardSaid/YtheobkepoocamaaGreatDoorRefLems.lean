/- The document's Sum. -/
import Derived.Test.YtheobkepoocamaaGreatDoorRef
import Derived.Test.YtheobkepoocamaaGreatDoorRefDig
import Derived.Lib.AppendStr
import Derived.Deep.QuietTactic
import Derived.BigQuiet
namespace Go.Proofs.YtheobkepoocamaaGreatDoor
set_option maxRecDepth 100000
open Go.RowKit Sha
attribute [local go_sem 9000] sem_add32 sem_xor32 sem_and32 sem_or32 sem_not32 sem_shr32 sem_shl32 run_w8 run_b8

def sliceLen : Value → Nat | .slice _ n _ => n | _ => 0
theorem ownsRow_shape {w : World} {base : Nat} {e : TypeId} {size : Nat} {v : Value} {n : Nat} {xs : List Value} (h : w.ownsRow base e size v n xs) : ∃ a c, v = .slice a n c := by
  obtain ⟨_, ⟨rfl, rfl⟩ | ⟨g, cap, cur, rfl, _⟩⟩ := h
  · exact ⟨none, 0, rfl⟩
  · exact ⟨_, cap, rfl⟩
theorem info5 : (Tryz.prog.info? 5).map (fun i => (i.zero, i.size, i.bytes)) = some (some (.int .u8 0), 1, 1) := by kernel_rfl
/-- The call's own bytes. -/
def Owns (base : Nat) (a : Option Addr) (cap : Nat) (l : List UInt8) (w : World) : Prop := w.ownsRow base 5 1 (.slice a l.length cap) l.length (Lib.byteCells l)
theorem Owns.nil (base : Nat) (w : World) : Owns base none 0 [] w := World.ownsRow_nil _ _ _ _
theorem Owns.of {base n : Nat} {v : Value} {l : List UInt8} {w : World} (h : w.ownsRow base 5 1 v n (Lib.byteCells l)) (hn : n = l.length) : ∃ a c, v = .slice a l.length c ∧ Owns base a c l w := by
  subst hn
  obtain ⟨a, c, rfl⟩ := ownsRow_shape h
  exact ⟨a, c, rfl, h⟩
def row8 (f : Nat → BitVec 32) : Array Value := ((List.range 8).map fun j => wv (f j)).toArray
theorem row8_size (f : Nat → BitVec 32) : (row8 f).size = 8 := by simp [row8]
theorem row8_one (f : Nat → BitVec 32) : ((row8 f).all fun x => x.oneCell') = true := by simp [row8]; intros; rfl
theorem owns_below {base : Nat} {a : Option Addr} {c : Nat} {l : List UInt8} {w w' : World} (h : Owns base a c l w) (hb : Below w.heap.size w w') : Owns base a c l w' :=
  World.ownsRow.kept h (⟨hb.os, hb.tape, hb.output, hb.size, fun k hk _ => hb.block k hk⟩ : w.grownBy w' none) (by cases a <;> simp [Value.ownBlock])
/-- The world ahead of the constants. -/
structure HalfW (w : World) (P : List UInt8) (a : Option Addr) (c hB : Nat) (s : St) (wr : World) : Prop where
  pad : Owns w.heap.size a c P wr
  hh : wr.heap[hB]? = some (.cells (row8 s.get) 117 (0, 0))
  below : Below w.heap.size w wr
  low : w.heap.size ≤ hB
theorem owns_alloc {base : Nat} {a : Option Addr} {c : Nat} {l : List UInt8} {w : World} (h : Owns base a c l w) (o : Obj) : Owns base a c l (w.alloc o) := owns_below h ((Below.refl _ _).alloc (Nat.le_refl _) o)
theorem owns_setRow {base : Nat} {a : Option Addr} {c g : Nat} {l : List UInt8} {w : World} (h : Owns base a c l w) (cs : Array Value) (hg : ∀ k, (Value.slice a l.length c).ownBlock = some k → k ≠ g) : Owns base a c l (w.setRow g cs) := by
  refine World.ownsRow.kept h (⟨rfl, rfl, rfl, by simp, fun k _ hk => setRow_other w g k cs (fun e => hk (by rw [e]))⟩ : w.grownBy (w.setRow g cs) (some g)) ?_
  cases hq : (Value.slice a l.length c).ownBlock with
  | none => exact .inl rfl
  | some k => exact .inr fun e => hg k hq (by injection e)
theorem main_start {w w2 : World} {P : List UInt8} {a : Option Addr} {c : Nat} (hO : Owns w.heap.size a c P w2) (hW : Below w.heap.size w w2) :
    HalfW w P a c w2.heap.size init ((w2.alloc (.cells (row8 (fun _ => 0)) 117)).setRow w2.heap.size (row8 init.get)) := by
  refine ⟨owns_setRow (owns_alloc hO _) _ fun k hk => ?_, setRow_heap _ _ _ _ _ _ (heap_alloc_new w2 _), below_setRow (hW.alloc hW.size _) hW.size _, hW.size⟩
  have := (World.ownsRow.lt hO k hk).2
  omega
theorem HalfW.under {w wr w' : World} {P : List UInt8} {a : Option Addr} {c hB : Nat} {s : St} (h : HalfW w P a c hB s wr) (hb : Below wr.heap.size wr w') : HalfW w P a c hB s w' :=
  ⟨owns_below h.pad hb, (hb.block hB (lt_of_block h.hh)).trans h.hh, h.below.trans (hb.mono h.below.size), h.low⟩
/-- The world of the blocks' loop. -/
structure MainW (w : World) (P : List UInt8) (a : Option Addr) (c hB kB : Nat) (s : St) (wr : World) : Prop where
  half : HalfW w P a c hB s wr
  kk : wr.heap[kB]? = some (.cells (wrow kAt) 118 (0, 0))
  ne : hB ≠ kB
theorem HalfW.main {w wr : World} {P : List UInt8} {a : Option Addr} {c hB : Nat} {s : St} (h : HalfW w P a c hB s wr) :
    MainW w P a c hB wr.heap.size s ((wr.alloc (.cells (wrow (fun _ => 0)) 118)).setRow wr.heap.size (wrow kAt)) :=
  ⟨h.under (below_setRow ((Below.refl _ _).alloc (Nat.le_refl _) _) (Nat.le_refl _) _), setRow_heap _ _ _ _ _ _ (heap_alloc_new wr _), Nat.ne_of_lt (lt_of_block h.hh)⟩
theorem Owns.addr {base : Nat} {a : Option Addr} {c : Nat} {l : List UInt8} {w : World} (h : Owns base a c l w) (hl : 0 < l.length) : ∃ g, a = some ⟨g, 0, none⟩ := by
  obtain ⟨_, ⟨e, hn⟩ | ⟨g, cap, cur, e, _⟩⟩ := h
  · omega
  · injection e with e1; exact ⟨g, e1⟩
theorem Owns.under {base g : Nat} {c : Nat} {l : List UInt8} {w w' : World} (h : Owns base (some ⟨g, 0, none⟩) c l w) (hb : Below w.heap.size w w') (j : Nat) (hj : j < l.length) : w'.cell? ⟨g, j, none⟩ = some (bv (l.getD j 0)) := by
  have h1 : w.cell? ⟨g, j, none⟩ = (Lib.byteCells l)[j]? := World.ownsRow.cellAt h j (by omega)
  have h2 : (Lib.byteCells l)[j]? = some (bv (l.getD j 0)) := by
    unfold Lib.byteCells
    rw [List.getElem?_map, List.getElem?_eq_getElem hj]
    simp [List.getD, List.getElem?_eq_getElem hj]
  rw [h2] at h1
  exact (hb.cell (p := ⟨g, j, none⟩) (block_lt_of_cell h1)).trans h1
/-- Words of the round's own, in the block of the heap's old size. -/
structure OwnW (g : Nat) (f : Nat → BitVec 32) (w1 wr : World) : Prop where
  own : wr.heap[g]? = some (.cells (wrow f) 118 (0, 0))
  below : Below w1.heap.size w1 wr
  low : w1.heap.size ≤ g
theorem OwnW.start (m : Nat → UInt8) (w : World) : OwnW w.heap.size (part m 0) w (w.alloc (.cells (wrow (fun _ => 0)) 118)) :=
  ⟨by rw [part_zero]; exact heap_alloc_new w _, (Below.refl _ _).alloc (Nat.le_refl _) _, Nat.le_refl _⟩
theorem OwnW.cell {g : Nat} {f : Nat → BitVec 32} {w1 wr : World} (h : OwnW g f w1 wr) (j : Nat) (hj : j < 64) : wr.cell? ⟨g, j, none⟩ = some (wv (f j)) :=
  (cell_of_row wr g j _ _ _ h.own).trans (wrow_get _ j hj)
theorem OwnW.free {g : Nat} {f : Nat → BitVec 32} {w1 wr : World} (h : OwnW g f w1 wr) (j : Nat) : wr.frozen? ⟨g, j, none⟩ = false := frozen_of_row wr _ j _ _ h.own
theorem OwnW.drewN {g : Nat} {f : Nat → BitVec 32} {w1 wr : World} (h : OwnW g f w1 wr) (n : Nat) : OwnW g f w1 (wr.drewN n) :=
  ⟨h.own, h.below.trans ⟨rfl, rfl, rfl, Nat.le_refl _, fun _ _ => rfl⟩, h.low⟩
theorem OwnW.step {g : Nat} {m : Nat → UInt8} {k : Nat} {w1 wr : World} (h : OwnW g (part m k) w1 wr) (x : BitVec 32) (hx : x = wd m k) :
    OwnW g (part m (k + 1)) w1 (wr.setCell ⟨g, k, none⟩ (wv x)).drew := by
  subst hx
  refine ⟨?_, (h.below.setCell (p := ⟨g, k, none⟩) h.low _).drew, h.low⟩
  show (wr.setCell ⟨g, k, none⟩ (wv (wd m k))).heap[g]? = _
  rw [heap_setCell_same wr _ k _ _ _ h.own, wrow_set, part_succ]
theorem ref_first (P : List UInt8) (o t : Nat) (ht : t < 16) :
    w8 (P.getD (o + (4 * t)) 0) <<< 24 + w8 (P.getD (o + (4 * t + 1)) 0) <<< 16 + w8 (P.getD (o + (4 * t + 2)) 0) <<< 8 + w8 (P.getD (o + (4 * t + 3)) 0) = wd (fun i => P.getD (o + i) 0) t := by
  rw [wd_first _ _ ht]
  exact (word4_add _ _ _ _).symm
theorem turn_q (x : BitVec 32) (n : Int) (w : World) (h1 : 1 ≤ n) (h2 : n ≤ 31) : Calls Tryz.prog 80 #[wv x, .int .u64 n] w fun e w' => e = .returned (wv (rotr x n.toNat)) ∧ w' = w :=
  (turn_any x n w h1 h2).mono fun _ _ h => ⟨h.1, h.2.symm⟩
theorem next_comm (a b c d : BitVec 32) : (a + b + c) + d = d + c + b + a := by
  rw [BitVec.add_comm (a + b + c) d, BitVec.add_comm (a + b) c, BitVec.add_comm a b, ← BitVec.add_assoc, ← BitVec.add_assoc]
/-- The rounds' world. -/
structure RoundsW (g1 g2 : Nat) (m : Nat → UInt8) (st : St) (w1 wr : World) : Prop where
  own : wr.heap[g1]? = some (.cells (wrow (wd m)) 118 (0, 0))
  vv : wr.heap[g2]? = some (.cells (row8 st.get) 117 (0, 0))
  below : Below w1.heap.size w1 wr
  low : w1.heap.size ≤ g2
  ne : g1 ≠ g2
theorem row8_get (f : Nat → BitVec 32) (j : Nat) (h : j < 8) : (row8 f)[j]? = some (wv (f j)) := by simp [row8, h]
theorem row8_set (f : Nat → BitVec 32) (k : Nat) (x : BitVec 32) : (row8 f).setIfInBounds k (wv x) = row8 (fun j => if j = k then x else f j) := by
  apply Array.ext
  · simp [row8]
  · intro i h1 h2
    have h3 : i < 8 := by simpa [row8] using h2
    rw [Array.getElem_setIfInBounds (by simpa using h1)]
    by_cases hk : k = i
    · subst hk; simp [row8]
    · rw [if_neg hk]; simp [row8, show ¬ i = k from fun e => hk e.symm]
theorem row8_congr (f g : Nat → BitVec 32) (h : ∀ j, j < 8 → f j = g j) : row8 f = row8 g := by
  unfold row8
  rw [List.map_congr_left (fun j hj => by rw [h j (List.mem_range.1 hj)])]
theorem RoundsW.start {g1 : Nat} {m : Nat → UInt8} {s : St} {w1 wr : World} (h : OwnW g1 (part m 64) w1 wr) :
    RoundsW g1 wr.heap.size m s w1 ((wr.alloc (.cells (row8 (fun _ => 0)) 117)).setRow wr.heap.size (row8 s.get)) := by
  have hlt := lt_of_block h.own
  refine ⟨?_, setRow_heap _ _ _ _ _ _ (heap_alloc_new wr _), below_setRow (h.below.alloc h.below.size _) h.below.size _, h.below.size, Nat.ne_of_lt hlt⟩
  rw [setRow_other _ _ _ _ (by omega), Below.heap_alloc _ _ _ hlt, h.own, wrow_64]
theorem RoundsW.drewN {g1 g2 : Nat} {m : Nat → UInt8} {s : St} {w1 wr : World} (h : RoundsW g1 g2 m s w1 wr) (n : Nat) : RoundsW g1 g2 m s w1 (wr.drewN n) :=
  ⟨h.own, h.vv, h.below.trans ⟨rfl, rfl, rfl, Nat.le_refl _, fun _ _ => rfl⟩, h.low, h.ne⟩
theorem RoundsW.step {g1 g2 : Nat} {m : Nat → UInt8} {s s' : St} {w1 wr : World} (h : RoundsW g1 g2 m s w1 wr) : RoundsW g1 g2 m s' w1 (wr.setRow g2 (row8 s'.get)) :=
  ⟨(setRow_other _ _ _ _ h.ne).trans h.own, setRow_heap _ _ _ _ _ _ h.vv, below_setRow h.below h.low _, h.low, h.ne⟩
theorem RoundsW.cell {g1 g2 : Nat} {m : Nat → UInt8} {s : St} {w1 wr : World} (h : RoundsW g1 g2 m s w1 wr) (j : Nat) (hj : j < 8) : wr.cell? ⟨g2, j, none⟩ = some (wv (s.get j)) :=
  (cell_of_row wr g2 j _ _ _ h.vv).trans (row8_get _ j hj)
/-- The world in which the words are added. -/
structure AddW (hB g2 : Nat) (s f : St) (k : Nat) (w1 wr : World) : Prop where
  hh : wr.heap[hB]? = some (.cells (row8 (mix s f k)) 117 (0, 0))
  vv : wr.heap[g2]? = some (.cells (row8 f.get) 117 (0, 0))
  only : OnlyB hB w1 wr
  ne : g2 ≠ hB
theorem AddW.step {hB g2 : Nat} {s f : St} {k : Nat} {w1 wr : World} (h : AddW hB g2 s f k w1 wr) (hk : k < 8) : AddW hB g2 s f (k + 1) w1 (wr.setCell ⟨hB, k, none⟩ (wv (s.get k + f.get k))).drew := by
  refine ⟨?_, (heap_setCell_other wr ⟨hB, k, none⟩ g2 _ h.ne).trans h.vv, (h.only.setCell (p := ⟨hB, k, none⟩) (.inl rfl) _).drewN 1, h.ne⟩
  show (wr.setCell ⟨hB, k, none⟩ (wv (s.get k + f.get k))).heap[hB]? = _
  rw [heap_setCell_same wr hB k _ _ _ h.hh, row8_set]
  congr 3
  funext j
  unfold mix
  by_cases h1 : j = k
  · subst h1; simp
  · rw [if_neg h1]
    by_cases h2 : j < k
    · rw [if_pos h2, if_pos (by omega)]
    · rw [if_neg h2, if_neg (by omega)]
theorem MainW.next {w wo wr : World} {P : List UInt8} {g c hB kB g2 : Nat} {s f : St} (h : MainW w P (some ⟨g, 0, none⟩) c hB kB s wo) (hl : 0 < P.length) (ha : AddW hB g2 s f 8 wo wr) :
    MainW w P (some ⟨g, 0, none⟩) c hB kB (addSt s f) wr := by
  have hp := h.half.pad
  have hgl := World.ownsRow.lt hp g rfl
  have hg : g ≠ hB := by
    obtain ⟨_, ⟨e, hn⟩ | ⟨g', cap, cur, e, _, hcur, _⟩⟩ := hp
    · omega
    · injection e with e1
      injection e1 with e1
      injection e1 with e1
      subst e1
      intro e2
      rw [e2, h.half.hh] at hcur
      injection hcur with e3
      injection e3 with _ e4
      exact absurd e4 (by decide)
  have hk : kB < wo.heap.size := lt_of_block h.kk
  refine ⟨⟨?_, ?_, h.half.below.trans (ha.only.below h.half.low h.half.below.size), h.half.low⟩, (ha.only.block kB hk h.ne.symm).trans h.kk, h.ne⟩
  · exact World.ownsRow.kept hp (⟨ha.only.os, ha.only.tape, ha.only.output, ha.only.size, fun k hk2 hne => ha.only.block k hk2 (fun e => hne (by rw [e]))⟩ : wo.grownBy wr (some hB)) (.inr (by intro e; injection e with e; exact hg e))
  · rw [ha.hh, row8_congr (mix s f 8) (addSt s f).get fun j hj => (if_pos hj).trans (addSt_get s f j).symm]
theorem one_new (w : World) (n : Int) : ∀ (j : Nat) u, [Value.int .u8 n][j]? = some u → (w.alloc (.cells #[.int .u8 n] 5)).cell? ((⟨w.heap.size, 0, none⟩ : Addr).add j) = some u := by
  intro j u hj
  match j with
  | 0 => simp at hj; subst hj; simp [Addr.add]
  | j + 1 => simp at hj
theorem one_cell (n : Int) : ∀ u ∈ [Value.int .u8 n], u.oneCell' = true := by simp [Value.oneCell']
theorem own_lt {base : Nat} {a : Option Addr} {c : Nat} {l : List UInt8} {w : World} (h : Owns base a c l w) : ∀ k, (Value.slice a l.length c).ownBlock = some k → base ≤ k := fun k hk => (World.ownsRow.lt h k hk).1

def allLoops : Code → List Code
  | .loop c => c :: allLoops c
  | .seq a b => allLoops a ++ allLoops b
  | .block _ c => allLoops c
  | .scope c => allLoops c
  | .cond _ a b => allLoops a ++ allLoops b
  | _ => []
/-- The body of the n-th loop. -/
noncomputable def body (n : Nat) : Code := ((Tryz.f62.body.map allLoops).getD []).getD n .skip
end Go.Proofs.YtheobkepoocamaaGreatDoor
