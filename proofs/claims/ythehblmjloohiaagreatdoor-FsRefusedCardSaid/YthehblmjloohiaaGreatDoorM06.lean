/- Layer 11, a part of the proofs: no statement of its own. -/
import Derived.Lib.AppendStr
import Derived.Deep.QuietTactic
import Derived.BigQuiet
import Derived.Deep.RegionLaw
import Derived.Deep.AppendLies
import Derived.Laws.OwnMore
import Derived.OwnWalk
import Derived.Laws.MakeOwn
import Derived.Test.YthehblmjloohiaaGreatDoorM05
namespace Go.Proofs.YthehblmjloohiaaGreatDoor.T8
set_option maxRecDepth 100000
open Go.RowKit Go.Less Sha
theorem field51_1 (a b : ByteArray) (c : Int) (w : World) : (Instr.field 122 (.agg #[.string a, .string b, .int .i64 c]) 1).run Tryz.prog w = .ok (.string b) w := by kernel_rfl
theorem field51_2 (a b : ByteArray) (c : Int) (w : World) : (Instr.field 122 (.agg #[.string a, .string b, .int .i64 c]) 2).run Tryz.prog w = .ok (.int .i64 c) w := by kernel_rfl
def Mapped (l : List Pr) (w : World) (e : Ending) (w' : World) : Prop := ∃ m, e = .returned (pv m) ∧ Rp w' m l ∧ Below w.heap.size w w'
theorem lone_node {w : World} {b : Nat} {x y : ByteArray} (h : Tree w (some b) (.node .leaf x y .leaf)) : Node w b .leaf x y .leaf none none := by
 obtain ⟨b', pl, pr, e, hN⟩ := tree_node h
 injection e with e
 subst e
 have h1 : pl = none := hN.left
 have h2 : pr = none := hN.right
 subst h1; subst h2
 exact hN
set_option maxHeartbeats 1000000 in
theorem mput_any {w : World} {m : Option Nat} {l : List Pr} (h : Rp w m l) (hD : Dg w) (hn : l.length ≤ 5000) (k v : ByteArray) (hk : k.size ≤ 100) (hv : v.size ≤ 10000) :
  Calls Tryz.prog 34 #[pv m, .string k, .string v] w (Mapped (Tr.put less l k v) w) := by
 have HT := Lib.hid (treeOf_any h.map)
 have HP := Lib.hid (pair_any k v w hD hk hv)
 have HS := Lib.hid h.sorted
 have HD := Lib.hid hD
 have hlen : (cn l).len ≤ 10000 := by rw [cn_len]; omega
 have HL := Lib.hid hlen
 have HE := Lib.hid (cn_put h.sorted k v)
 have HQ := Lib.hid (Tr.sorted_put rising h.sorted k v)
 clear h hD hn hk hv hlen
 go_enter Tryz.func34, Tryz.ntmps34
 go_wp2_with fail
 refine HT.out.mono ?_
 rintro e w' ⟨p, rfl, hp, rfl⟩
 have HPP := Lib.hid hp
 clear hp
 dsimp only
 go_wp2_with fail
 refine HP.out.mono ?_
 rintro e w1 ⟨b, rfl, hb, hw1⟩
 dsimp only
 go_wp2_with fail
 refine (put_any k v b (cn l) p w1 (HPP.out.below hw1) (lone_node hb) (HD.out.below hw1) HL.out).mono ?_
 rintro e w2 ⟨q, rfl, hq, hw2⟩
 dsimp only
 go_wp2_with fail
 refine (mapOf_any hq).mono ?_
 rintro e w3 ⟨m', rfl, hm, hw3⟩
 dsimp only
 go_wp2_with fail
 go_ret
 exact ⟨m', rfl, ⟨HQ.out, by rw [← HE.out]; exact hm⟩, btrans hw3 (btrans hw2 hw1)⟩
set_option maxHeartbeats 1000000 in
theorem mdel_any {w : World} {m : Option Nat} {l : List Pr} (h : Rp w m l) (hD : Dg w) (hn : l.length ≤ 5000) (k : ByteArray) :
  Calls Tryz.prog 163 #[pv m, .string k] w (Mapped (Tr.del l k) w) := by
 have HT := Lib.hid (treeOf_any h.map)
 have HD := Lib.hid hD
 have hlen : (cn l).len ≤ 10000 := by rw [cn_len]; omega
 have HL := Lib.hid hlen
 have HE := Lib.hid (cn_drop h.sorted k)
 have HQ := Lib.hid (Tr.sorted_del h.sorted k)
 clear h hD hn hlen
 go_enter Tryz.func163, Tryz.ntmps163
 go_wp2_with fail
 refine HT.out.mono ?_
 rintro e w' ⟨p, rfl, hp, rfl⟩
 have HPP := Lib.hid hp
 clear hp
 dsimp only
 go_wp2_with fail
 refine (drop_any k (cn l) p w HPP.out HD.out HL.out).mono ?_
 rintro e w2 ⟨q, rfl, hq, hw2⟩
 dsimp only
 go_wp2_with fail
 refine (mapOf_any hq).mono ?_
 rintro e w3 ⟨m', rfl, hm, hw3⟩
 dsimp only
 go_wp2_with fail
 go_ret
 exact ⟨m', rfl, ⟨HQ.out, by rw [← HE.out]; exact hm⟩, btrans hw3 hw2⟩
set_option maxHeartbeats 1000000 in
theorem mlen_any {w : World} {m : Option Nat} {l : List Pr} (h : Rp w m l) : Calls Tryz.prog 40 #[pv m] w fun e w' => e = .returned (.int .i64 (l.length : Int)) ∧ Below w.heap.size w w' := by
 have HT := Lib.hid (treeOf_any h.map)
 have HN := Lib.hid (cn_len l)
 have hf := field51_2
 clear h
 go_enter Tryz.func40, Tryz.ntmps40
 go_wp2_with fail
 refine HT.out.mono ?_
 rintro e w' ⟨p, rfl, hp, rfl⟩
 dsimp only
 go_wp2_with fail
 refine (loadOf_any hp).mono ?_
 rw [ld_eq]
 rintro e w1 ⟨rfl, hw1⟩
 dsimp only
 go_wp2_with fail
 go_ret
 exact ⟨by rw [← HN.out]; rfl, hw1⟩
set_option maxHeartbeats 1000000 in
theorem mname_any {w : World} {m : Option Nat} {l : List Pr} (h : Rp w m l) : Calls Tryz.prog 27 #[pv m] w fun e w' => e = .returned (.string (nm (cn l))) ∧ Below w.heap.size w w' := by
 have HT := Lib.hid (treeOf_any h.map)
 have HC := Lib.hid (fun W => clone_any (nm (cn l)) W (Nat.le_trans (nm_size _) (by decide)))
 have hf := field51_1
 clear h
 go_enter Tryz.func27, Tryz.ntmps27
 go_wp2_with fail
 refine HT.out.mono ?_
 rintro e w' ⟨p, rfl, hp, rfl⟩
 dsimp only
 go_wp2_with fail
 refine (loadOf_any hp).mono ?_
 rw [ld_eq]
 rintro e w1 ⟨rfl, hw1⟩
 dsimp only
 go_wp2_with fail
 refine (HC.out _).mono ?_
 rintro e w2 ⟨rfl, hw2⟩
 dsimp only
 go_wp2_with fail
 go_ret
 exact ⟨rfl, btrans hw2 hw1⟩
set_option maxHeartbeats 1000000 in
theorem mget_there {w : World} {m : Option Nat} {l : List Pr} (h : Rp w m l) (x v : ByteArray) (hx : Tr.get l x = some v) : Calls Tryz.prog 106 #[pv m, .string x] w fun e w' => e = .returned (.tuple #[.string v, .bool true]) ∧ Below w.heap.size w w' := by
 have HT := Lib.hid (treeOf_any h.map)
 have hf := cn_find h.sorted x
 rw [hx] at hf
 have HF := Lib.hid hf
 clear h hf
 go_enter Tryz.func106, Tryz.ntmps106
 go_wp2_with fail
 refine HT.out.mono ?_
 rintro e w' ⟨p, rfl, hp, rfl⟩
 dsimp only
 go_wp2_with fail
 refine (find_any hp x).mono ?_
 rintro e w' ⟨q, rfl, hq, rfl⟩
 have hfo := HF.out
 generalize Tr.T.find less (cn l) x = u at hq hfo
 cases u with
 | leaf => cases hfo
 | node l' k' v' r' =>
  obtain rfl : v' = v := by injection hfo
  obtain ⟨b, pl, pr, rfl, hN⟩ := tree_node hq
  have c2 := hN.c2
  have HC := Lib.hid (clone_any v' w (Nat.le_trans hN.val (by decide)))
  clear hN hq hfo HF hp HT
  simp only [pv, ap_some]
  go_wp2_with fail
  refine HC.out.mono ?_
  rintro e w2 ⟨rfl, hw2⟩
  dsimp only
  go_wp2_with fail
  go_ret2
  exact ⟨rfl, hw2⟩
end Go.Proofs.YthehblmjloohiaaGreatDoor.T8

namespace Go.Proofs.YthehblmjloohiaaGreatDoor.T8
set_option maxRecDepth 100000
open Go.RowKit Sha
attribute [local go_sem 9000] run_bytes1
def byteOf (q : Nat) : UInt8 := UInt8.ofNat q
theorem byteOf_eq (q : Nat) : (q : Int) % 256 = ((byteOf q).toNat : Int) := by unfold byteOf; rw [UInt8.toNat_ofNat']; rfl
def numStr (n k : Nat) : ByteArray := ⟨(num n k).toArray⟩
theorem numStr_data (n k : Nat) : (numStr n k).data.toList = num n k := rfl
end Go.Proofs.YthehblmjloohiaaGreatDoor.T8

namespace Go.Proofs.YthehblmjloohiaaGreatDoor.T8
set_option maxRecDepth 100000
open Go.RowKit Sha
attribute [local go_sem 9000] run_bytes1
def lstr (l : List UInt8) : ByteArray := ⟨l.toArray⟩
theorem lstr_size (l : List UInt8) : (lstr l).size = l.length := by show l.toArray.size = _; rw [List.size_toArray]
theorem lstr_append (a b : List UInt8) : lstr a ++ lstr b = lstr (a ++ b) := by
 apply ByteArray.ext
 rw [ByteArray.data_append]
 apply Array.ext'
 rw [Array.toList_append]; rfl
end Go.Proofs.YthehblmjloohiaaGreatDoor.T8

namespace Go.Proofs.YthehblmjloohiaaGreatDoor.T8
set_option maxRecDepth 100000
open Go.RowKit Sha
attribute [local go_sem 9000] sem_add32 sem_xor32 sem_and32 sem_or32 sem_not32 sem_shr32 sem_shl32 run_w8 run_b8
def Owns (base : Nat) (a : Option Addr) (cap : Nat) (l : List UInt8) (w : World) : Prop := w.ownsRow base 5 1 (.slice a l.length cap) l.length (Lib.byteCells l)
theorem Owns.nil (base : Nat) (w : World) : Owns base none 0 [] w := World.ownsRow_nil _ _ _ _
def row8 (f : Nat → BitVec 32) : Array Value := ((List.range 8).map fun j => wv (f j)).toArray
structure HalfW (w : World) (P : List UInt8) (a : Option Addr) (c hB : Nat) (s : St) (wr : World) : Prop where
 pad : Owns w.heap.size a c P wr
 hh : wr.heap[hB]? = some (.cells (row8 s.get) 194 (0, 0))
 below : Below w.heap.size w wr
 low : w.heap.size ≤ hB
structure MainW (w : World) (P : List UInt8) (a : Option Addr) (c hB kB : Nat) (s : St) (wr : World) : Prop where
 half : HalfW w P a c hB s wr
 kk : wr.heap[kB]? = some (.cells (wrow kAt) 195 (0, 0))
 ne : hB ≠ kB
structure OwnW (g : Nat) (f : Nat → BitVec 32) (w1 wr : World) : Prop where
 own : wr.heap[g]? = some (.cells (wrow f) 195 (0, 0))
 below : Below w1.heap.size w1 wr
 low : w1.heap.size ≤ g
theorem OwnW.start (m : Nat → UInt8) (w : World) : OwnW w.heap.size (part m 0) w (w.alloc (.cells (wrow (fun _ => 0)) 195)) :=
 ⟨by rw [part_zero]; exact heap_alloc_new w _, (Below.refl _ _).alloc (Nat.le_refl _) _, Nat.le_refl _⟩
theorem OwnW.cell {g : Nat} {f : Nat → BitVec 32} {w1 wr : World} (h : OwnW g f w1 wr) (j : Nat) (hj : j < 64) : wr.cell? ⟨g, j, none⟩ = some (wv (f j)) :=
 (cell_of_row wr g j _ _ _ h.own).trans (wrow_get _ j hj)
theorem OwnW.free {g : Nat} {f : Nat → BitVec 32} {w1 wr : World} (h : OwnW g f w1 wr) (j : Nat) : wr.frozen? ⟨g, j, none⟩ = false := frozen_of_row wr _ j _ _ h.own
theorem OwnW.drewN {g : Nat} {f : Nat → BitVec 32} {w1 wr : World} (h : OwnW g f w1 wr) (n : Nat) : OwnW g f w1 (wr.drewN n) :=
 ⟨h.own, h.below.trans ⟨rfl, rfl, rfl, Nat.le_refl _, fun _ _ => rfl⟩, h.low⟩
theorem OwnW.step {g : Nat} {m : Nat → UInt8} {k : Nat} {w1 wr : World} (h : OwnW g (part m k) w1 wr) (x : BitVec 32) (hx : x = wd m k) :
  OwnW g (part m (k + 1)) w1 (wr.setCell ⟨g, k, none⟩ (wv x)).drew := by
 subst hx
 refine ⟨?_, (h.below.setCell (p := ⟨g, k, none⟩) h.low _).drew, h.low⟩
 show (wr.setCell ⟨g, k, none⟩ (wv (wd m k))).heap[g]? = _
 rw [heap_setCell_same wr _ k _ _ _ h.own, wrow_set, part_succ]
structure RoundsW (g1 g2 : Nat) (m : Nat → UInt8) (st : St) (w1 wr : World) : Prop where
 own : wr.heap[g1]? = some (.cells (wrow (wd m)) 195 (0, 0))
 vv : wr.heap[g2]? = some (.cells (row8 st.get) 194 (0, 0))
 below : Below w1.heap.size w1 wr
 low : w1.heap.size ≤ g2
 ne : g1 ≠ g2
theorem row8_get (f : Nat → BitVec 32) (j : Nat) (h : j < 8) : (row8 f)[j]? = some (wv (f j)) := by simp [row8, h]
theorem row8_set (f : Nat → BitVec 32) (k : Nat) (x : BitVec 32) : (row8 f).setIfInBounds k (wv x) = row8 (fun j => if j = k then x else f j) := by
 apply Array.ext
 ·simp [row8]
 ·intro i h1 h2
  have h3 : i < 8 := by simpa [row8] using h2
  rw [Array.getElem_setIfInBounds (by simpa using h1)]
  by_cases hk : k = i
  ·subst hk; simp [row8]
  ·rw [if_neg hk]; simp [row8, show ¬ i = k from fun e => hk e.symm]
theorem row8_congr (f g : Nat → BitVec 32) (h : ∀ j, j < 8 → f j = g j) : row8 f = row8 g := by
 unfold row8
 rw [List.map_congr_left (fun j hj => by rw [h j (List.mem_range.1 hj)])]
theorem RoundsW.start {g1 : Nat} {m : Nat → UInt8} {s : St} {w1 wr : World} (h : OwnW g1 (part m 64) w1 wr) :
  RoundsW g1 wr.heap.size m s w1 ((wr.alloc (.cells (row8 (fun _ => 0)) 194)).setRow wr.heap.size (row8 s.get)) := by
 have hlt := lt_of_block h.own
 refine ⟨?_, setRow_heap _ _ _ _ _ _ (heap_alloc_new wr _), below_setRow (h.below.alloc h.below.size _) h.below.size _, h.below.size, Nat.ne_of_lt hlt⟩
 rw [setRow_other _ _ _ _ (by omega), Below.heap_alloc _ _ _ hlt, h.own, wrow_64]
theorem RoundsW.drewN {g1 g2 : Nat} {m : Nat → UInt8} {s : St} {w1 wr : World} (h : RoundsW g1 g2 m s w1 wr) (n : Nat) : RoundsW g1 g2 m s w1 (wr.drewN n) :=
 ⟨h.own, h.vv, h.below.trans ⟨rfl, rfl, rfl, Nat.le_refl _, fun _ _ => rfl⟩, h.low, h.ne⟩
theorem RoundsW.step {g1 g2 : Nat} {m : Nat → UInt8} {s s' : St} {w1 wr : World} (h : RoundsW g1 g2 m s w1 wr) : RoundsW g1 g2 m s' w1 (wr.setRow g2 (row8 s'.get)) :=
 ⟨(setRow_other _ _ _ _ h.ne).trans h.own, setRow_heap _ _ _ _ _ _ h.vv, below_setRow h.below h.low _, h.low, h.ne⟩
theorem RoundsW.cell {g1 g2 : Nat} {m : Nat → UInt8} {s : St} {w1 wr : World} (h : RoundsW g1 g2 m s w1 wr) (j : Nat) (hj : j < 8) : wr.cell? ⟨g2, j, none⟩ = some (wv (s.get j)) :=
 (cell_of_row wr g2 j _ _ _ h.vv).trans (row8_get _ j hj)
structure AddW (hB g2 : Nat) (s f : St) (k : Nat) (w1 wr : World) : Prop where
 hh : wr.heap[hB]? = some (.cells (row8 (mix s f k)) 194 (0, 0))
 vv : wr.heap[g2]? = some (.cells (row8 f.get) 194 (0, 0))
 only : OnlyB hB w1 wr
 ne : g2 ≠ hB
theorem AddW.step {hB g2 : Nat} {s f : St} {k : Nat} {w1 wr : World} (h : AddW hB g2 s f k w1 wr) (hk : k < 8) : AddW hB g2 s f (k + 1) w1 (wr.setCell ⟨hB, k, none⟩ (wv (s.get k + f.get k))).drew := by
 refine ⟨?_, (heap_setCell_other wr ⟨hB, k, none⟩ g2 _ h.ne).trans h.vv, (h.only.setCell (p := ⟨hB, k, none⟩) (.inl rfl) _).drewN 1, h.ne⟩
 show (wr.setCell ⟨hB, k, none⟩ (wv (s.get k + f.get k))).heap[hB]? = _
 rw [heap_setCell_same wr hB k _ _ _ h.hh, row8_set]
 congr 3
 funext j
 unfold mix
 by_cases h1 : j = k
 ·subst h1; simp
 ·rw [if_neg h1]
  by_cases h2 : j < k
  ·rw [if_pos h2, if_pos (by omega)]
  ·rw [if_neg h2, if_neg (by omega)]
theorem MainW.next {w wo wr : World} {P : List UInt8} {g c hB kB g2 : Nat} {s f : St} (h : MainW w P (some ⟨g, 0, none⟩) c hB kB s wo) (hl : 0 < P.length) (ha : AddW hB g2 s f 8 wo wr) :
  MainW w P (some ⟨g, 0, none⟩) c hB kB (addSt s f) wr := by
 have hp := h.half.pad
 have hgl := World.ownsRow.lt hp g rfl
 have hg : g ≠ hB := by
  obtain ⟨_, ⟨e, hn⟩ | ⟨g', cap, cur, e, _, hcur, _⟩⟩ := hp
  ·omega
  ·injection e with e1
   injection e1 with e1
   injection e1 with e1
   subst e1
   intro e2
   rw [e2, h.half.hh] at hcur
   injection hcur with e3
   injection e3 with _ e4
   exact absurd e4 (by decide)
 have hk : kB < wo.heap.size := lt_of_block h.kk
 refine ⟨⟨?_, ?_, h.half.below.trans (ha.only.below h.half.low h.half.below.size), h.half.low⟩, (ha.only.block kB hk h.ne.symm).trans h.kk, h.ne⟩
 ·exact World.ownsRow.kept hp (⟨ha.only.os, ha.only.tape, ha.only.output, ha.only.size, fun k hk2 hne => ha.only.block k hk2 (fun e => hne (by rw [e]))⟩ : wo.grownBy wr (some hB)) (.inr (by intro e; injection e with e; exact hg e))
 ·rw [ha.hh, row8_congr (mix s f 8) (addSt s f).get fun j hj => (if_pos hj).trans (addSt_get s f j).symm]
end Go.Proofs.YthehblmjloohiaaGreatDoor.T8

namespace Go.Proofs.YthehblmjloohiaaGreatDoor.T8
set_option maxRecDepth 100000
open Go.RowKit Sha
attribute [local go_sem 9000] sem_add32 sem_xor32 sem_and32 sem_or32 sem_not32 sem_shr32 sem_shl32 run_w8 run_b8
end Go.Proofs.YthehblmjloohiaaGreatDoor.T8

namespace Go.Proofs.YthehblmjloohiaaGreatDoor.T8
set_option maxRecDepth 100000
open Go.RowKit Sha
attribute [local go_sem 9000] sem_add32 sem_xor32 sem_and32 sem_or32 sem_not32 sem_shr32 sem_shl32 run_w8 run_b8
end Go.Proofs.YthehblmjloohiaaGreatDoor.T8

namespace Go.Proofs.YthehblmjloohiaaGreatDoor.T8
set_option maxRecDepth 100000
open Go.RowKit Sha
attribute [local go_sem 9000] sem_add32 sem_xor32 sem_and32 sem_or32 sem_not32 sem_shr32 sem_shl32 run_w8 run_b8
end Go.Proofs.YthehblmjloohiaaGreatDoor.T8

namespace Go.Proofs.YthehblmjloohiaaGreatDoor.T8
set_option maxRecDepth 100000
open Go.RowKit Sha
attribute [local go_sem 9000] sem_add32 sem_xor32 sem_and32 sem_or32 sem_not32 sem_shr32 sem_shl32 run_w8 run_b8
end Go.Proofs.YthehblmjloohiaaGreatDoor.T8

namespace Go.Proofs.YthehblmjloohiaaGreatDoor.T8
set_option maxRecDepth 100000
open Go.RowKit Sha
attribute [local go_sem 9000] sem_add32 sem_xor32 sem_and32 sem_or32 sem_not32 sem_shr32 sem_shl32 run_w8 run_b8
end Go.Proofs.YthehblmjloohiaaGreatDoor.T8

namespace Go.Proofs.YthehblmjloohiaaGreatDoor.T8
set_option maxRecDepth 100000
open Go.RowKit Sha
attribute [local go_sem 9000] run_bytes1
theorem info9' : (Tryz.prog.info? 9).map (fun i => (i.zero, i.size, i.bytes)) = some (some (.string ⟨#[]⟩), 1, 16) := by kernel_rfl
def Texts (base : Nat) (v : Value) (l : List ByteArray) (w : World) : Prop := w.ownsRow base 9 1 v l.length (l.map Value.string)
theorem Texts.below {base : Nat} {v : Value} {l : List ByteArray} {w w' : World} (h : Texts base v l w) (hb : Below w.heap.size w w') : Texts base v l w' :=
 World.ownsRow.kept h (⟨hb.os, hb.tape, hb.output, hb.size, fun k hk _ => hb.block k hk⟩ : w.grownBy w' none) (by cases v.ownBlock <;> simp)
end Go.Proofs.YthehblmjloohiaaGreatDoor.T8

namespace Go.Proofs.YthehblmjloohiaaGreatDoor.T8
set_option maxRecDepth 100000
open Go.RowKit
theorem owns_form {w : World} {base : Nat} {e : TypeId} {size : Nat} {v : Value} {n : Nat} {xs : List Value} (h : w.ownsRow base e size v n xs) : ∃ a c, v = .slice a n c := by
 obtain ⟨_, ⟨rfl, rfl⟩ | ⟨g, cap, _, rfl, _⟩⟩ := h
 ·exact ⟨_, _, rfl⟩
 ·exact ⟨_, _, rfl⟩
theorem owns_lt {w : World} {base : Nat} {e : TypeId} {size : Nat} {v : Value} {n : Nat} {xs : List Value} (h : w.ownsRow base e size v n xs) : ∀ k, v.ownBlock = some k → base ≤ k ∧ k < w.heap.size := by
 intro k hk
 obtain ⟨_, ⟨rfl, rfl⟩ | ⟨g, cap, cur, rfl, h1, h2, _⟩⟩ := h
 ·cases hk
 ·injection hk with hk
  subst hk
  refine ⟨h1, ?_⟩
  rcases Nat.lt_or_ge g w.heap.size with h3 | h3
  ·exact h3
  ·rw [Array.getElem?_eq_none h3] at h2; cases h2
theorem owned_below {w w' : World} {base : Nat} {e : TypeId} {size : Nat} {v : Value} {n : Nat} {xs : List Value} (h : w.ownsRow base e size v n xs) (hb : Below w.heap.size w w') : w'.ownsRow base e size v n xs :=
 World.ownsRow.kept h (⟨hb.os, hb.tape, hb.output, hb.size, fun k hk _ => hb.block k hk⟩ : w.grownBy w' none) (by cases v.ownBlock <;> simp)
theorem at_app1 {ops : Array Oper} {rest : List Oper} {o : Oper} {a : Act} {Q : Exit → Act → World → Prop} {w : World} (hgd : o.guard = none) (s x : Operand)
  (ho : o.op = .call { callee := .builtin .append, args := #[s, x], argTypes := #[52, 52] })
  (base : Nat) (v : Value) (n : Nat) (xs : List Value) (hs : a.eval s = v) (hown : w.ownsRow base 9 1 v n xs)
  (b : Nat) (u : Value) (hx : a.eval x = .slice (some ⟨b, 0, none⟩) 1 1) (hc : w.cell? ⟨b, 0, none⟩ = some u) (hu : u.oneCell' = true) (hn : n ≤ 1000000) (hbase : base ≤ w.heap.size)
  (h : ∀ ao' cap' w', w'.ownsRow base 9 1 (.slice ao' (n + 1) cap') (n + 1) (xs ++ [u]) → w.grownBy w' v.ownBlock → wpList Tryz.prog ops Q rest (a.put o.dst (.slice ao' (n + 1) cap')) w') :
  wpList Tryz.prog ops Q (o :: rest) a w := by
 obtain ⟨i0, hi, hz0, hz1, hz2⟩ := info_parts info9'
 refine wpList_append_own w hgd s x 52 ho base 9 i0 (.string ⟨#[]⟩) 1 16 Tryz.underlying52 hi hz0 hz1 hz2 rfl (by decide) v n xs hs hown ⟨b, 0, none⟩ 1 1 [u] hx rfl ?_ ?_ (by unfold maxLen; omega) (by omega) hbase ?_
 ·intro j y hj
  match j with
  | 0 => simp at hj; subst hj; simpa [Addr.add] using hc
  | j + 1 => simp at hj
 ·intro y hy; simp at hy; subst hy; exact hu
 ·intro v' w' hown' hg _
  obtain ⟨ao', cap', rfl⟩ := owns_form hown'
  exact h ao' cap' w' hown' hg
theorem step_app1 {ops : Array Oper} {o : Oper} {a : Act} {w : World} {K : Act → World → Prop} {Q : Exit → Act → World → Prop} {E : Prop} (hgd : o.guard = none) (s x : Operand)
  (ho : o.op = .call { callee := .builtin .append, args := #[s, x], argTypes := #[52, 52] })
  (base : Nat) (v : Value) (n : Nat) (xs : List Value) (hs : a.eval s = v) (hown : w.ownsRow base 9 1 v n xs)
  (b : Nat) (u : Value) (hx : a.eval x = .slice (some ⟨b, 0, none⟩) 1 1) (hc : w.cell? ⟨b, 0, none⟩ = some u) (hu : u.oneCell' = true) (hn : n ≤ 1000000) (hbase : base ≤ w.heap.size)
  (h : ∀ ao' cap' w', w'.ownsRow base 9 1 (.slice ao' (n + 1) cap') (n + 1) (xs ++ [u]) → w.grownBy w' v.ownBlock → K (a.put o.dst (.slice ao' (n + 1) cap')) w') :
  if Region.wanted o (yielded ops a.tmps) = true then Oper.wp Tryz.prog o a w K Q else E := by
 have hw : Region.wanted o (yielded ops a.tmps) = true := by simp [Region.wanted, hgd]
 rw [if_pos hw]
 obtain ⟨i0, hi, hz0, hz1, hz2⟩ := info_parts info9'
 refine wp_append_own w s x 52 ho base 9 i0 (.string ⟨#[]⟩) 1 16 Tryz.underlying52 hi hz0 hz1 hz2 rfl (by decide) v n xs hs hown ⟨b, 0, none⟩ 1 1 [u] hx rfl ?_ ?_ (by unfold maxLen; omega) (by omega) hbase ?_
 ·intro j y hj
  match j with
  | 0 => simp at hj; subst hj; simpa [Addr.add] using hc
  | j + 1 => simp at hj
 ·intro y hy; simp at hy; subst hy; exact hu
 ·intro v' w' hown' hg _
  obtain ⟨ao', cap', rfl⟩ := owns_form hown'
  exact h ao' cap' w' hown' hg
end Go.Proofs.YthehblmjloohiaaGreatDoor.T8

namespace Go.Proofs.YthehblmjloohiaaGreatDoor.T8
set_option maxRecDepth 100000
open Go.RowKit Go.Less
def Tells (gk : Nat) (lb : Array Value) (m : Nat) (w0 : World) (P : List Tt → World → Prop) : Prop := ∀ (pre : List Tt) (b : Nat) (l : Tt) (k v : ByteArray) (r : Tt) (pl pr : Option Nat) (W : World), pre.length < m → P pre W → Node w0 b l k v r pl pr →
 Calls Tryz.prog gk (#[.pointer (some ⟨b, 0, none⟩)] ++ lb) W fun e W' => e = .returned (.tuple #[]) ∧ P (pre ++ [.node l k v r]) W'
def Told (P : List Tt → World → Prop) (x : List Tt) (e : Ending) (w' : World) : Prop := e = .returned (.tuple #[]) ∧ P x w'
set_option maxHeartbeats 2000000 in
theorem walk_any (gk : Nat) (lb : Array Value) (eg : ∀ args w, (callFunc gk args).run Tryz.prog w = .ok (.enter gk args) w) (w0 : World) (m : Nat) (P : List Tt → World → Prop) (hP : Tells gk lb m w0 P) (hB : ∀ pre W, P pre W → Below w0.heap.size w0 W) :
  ∀ (t : Tt) (p : Option Nat) (pre : List Tt) (W : World), Tree w0 p t → P pre W → pre.length + t.len ≤ m → Calls Tryz.prog 143 #[pv p, .func (.func gk) #[] lb] W (Told P (pre ++ t.subs)) := by
 have HP := Lib.hid hP
 have HB := Lib.hid hB
 clear hP hB
 intro t
 induction t with
 | leaf =>
  intro p pre W hT hp hn
  obtain rfl : p = none := hT
  have HQ := Lib.hid hp
  have hm : pre ++ Tr.T.subs (.leaf : Tt) = pre := List.append_nil _
  rw [hm]
  clear hp hn hm
  show Calls Tryz.prog 143 #[.pointer none, .func (.func gk) #[] lb] W _
  go_enter Tryz.func143, Tryz.ntmps143
  go_wp2_with fail
  go_end0
  exact ⟨rfl, HQ.out⟩
 | node l k v r ihl ihr =>
  intro p pre W hT hp hn
  obtain ⟨b, pl, pr, rfl, hN⟩ := tree_node hT
  simp only [Tr.T.len] at hn
  have hb0 := HB.out pre W hp
  have c5 := (hN.below hb0).c5
  have hll := Tr.T.subs_len l
  have HI := Lib.hid (ihl pl pre W hN.left hp (by omega))
  have HF := Lib.hid (fun W1 (h1 : P (pre ++ l.subs) W1) => HP.out (pre ++ l.subs) b l k v r pl pr W1 (by rw [List.length_append, hll]; omega) h1 hN)
  have HJ := Lib.hid (fun W2 (h2 : P (pre ++ l.subs ++ [.node l k v r]) W2) => ihr pr (pre ++ l.subs ++ [.node l k v r]) W2 hN.right h2 (by simp only [List.length_append, List.length_singleton, hll]; omega))
  have HN := Lib.hid hN
  have hm : pre ++ Tr.T.subs (.node l k v r) = pre ++ l.subs ++ [.node l k v r] ++ r.subs := by simp [Tr.T.subs]
  rw [hm]
  clear hT hp hn hN hb0 hll ihl ihr hm
  show Calls Tryz.prog 143 #[.pointer (some ⟨b, 0, none⟩), .func (.func gk) #[] lb] W _
  go_enter Tryz.func143, Tryz.ntmps143
  go_wp2_with fail
  refine HI.out.mono ?_
  rintro e W1 ⟨rfl, h1⟩
  have HH1 := Lib.hid h1
  clear h1
  dsimp only
  go_wp2_with fail
  refine (HF.out _ HH1.out).mono ?_
  rintro e W2 ⟨rfl, h2⟩
  have c6 := (HN.out.below (HB.out _ _ h2)).c6
  have HH2 := Lib.hid h2
  clear h2
  dsimp only
  go_wp2_with fail
  refine (HJ.out _ HH2.out).mono ?_
  rintro e W3 ⟨rfl, h3⟩
  have HH3 := Lib.hid h3
  clear h3
  dsimp only
  go_wp2_with fail
  go_end0
  exact ⟨rfl, HH3.out⟩
end Go.Proofs.YthehblmjloohiaaGreatDoor.T8

namespace Go.Proofs.YthehblmjloohiaaGreatDoor.T8
set_option maxRecDepth 100000
open Go.RowKit Go.Less
attribute [local go_sem 9000] sem_eql sem_neq sem_lss sem_leq sem_gtr sem_geq
def pairs (l : List Tt) : List Pr := l.filterMap Tr.T.pair?
theorem pairs_snoc (pre : List Tt) (l : Tt) (k v : ByteArray) (r : Tt) : pairs (pre ++ [.node l k v r]) = pairs pre ++ [(k, v)] := by simp [pairs, Tr.T.pair?]
theorem pairs_len (l : List Tt) : (pairs l).length ≤ l.length := List.length_filterMap_le _ _
theorem pairs_subs (t : Tt) : pairs t.subs = t.rows := Tr.T.subs_rows t
structure Ks (w : World) (ga gb gk : Nat) (ma mb : Option Nat) (l : List ByteArray) (W : World) : Prop where
 a : W.heap[ga]? = some (.cells #[pv ma] 58 (0, 0))
 b : W.heap[gb]? = some (.cells #[pv mb] 58 (0, 0))
 keys : ∃ ao cap, W.heap[gk]? = some (.cells #[.slice ao l.length cap] 52 (0, 0)) ∧ W.ownsRow (gk + 1) 9 1 (.slice ao l.length cap) l.length (l.map Value.string)
 lo : w.heap.size ≤ gk
 na : ga < gk
 nb : gb < gk
 below : Below w.heap.size w W
theorem Ks.kept {w W W' : World} {ga gb gk : Nat} {ma mb : Option Nat} {l : List ByteArray} (h : Ks w ga gb gk ma mb l W) (hb : Below W.heap.size W W') : Ks w ga gb gk ma mb l W' := by
 obtain ⟨ao, cap, h1, h2⟩ := h.keys
 exact ⟨(hb.block _ (lt_of_obj h.a)).trans h.a, (hb.block _ (lt_of_obj h.b)).trans h.b, ⟨ao, cap, (hb.block _ (lt_of_obj h1)).trans h1, owned_below h2 hb⟩, h.lo, h.na, h.nb, h.below.trans (hb.mono h.below.size)⟩
theorem cell_obj {w : World} {b : Nat} {cs : Array Value} {t : TypeId} {fr : Nat × Nat} (h : w.heap[b]? = some (.cells cs t fr)) (k : Nat) : w.cell? ⟨b, k, none⟩ = cs[k]? := by
 simp [World.cell?, h]
theorem free_obj {w : World} {b : Nat} {cs : Array Value} {t : TypeId} (h : w.heap[b]? = some (.cells cs t (0, 0))) (k : Nat) : w.frozen? ⟨b, k, none⟩ = false := by
 simp [World.frozen?, h]
theorem grown_obj {w w' : World} {row : Option Nat} {b : Nat} {o : Obj} (hg : w.grownBy w' row) (h : w.heap[b]? = some o) (hne : some b ≠ row) : w'.heap[b]? = some o := (hg.block b (lt_of_obj h) hne).trans h
theorem set_obj {w : World} {b : Nat} {x y : Value} {t : TypeId} (h : w.heap[b]? = some (.cells #[x] t (0, 0))) : (w.setCell ⟨b, 0, none⟩ y).heap[b]? = some (.cells #[y] t (0, 0)) := by
 have := heap_setCell_same w b 0 #[x] t y h
 simpa using this
theorem below_drew {w w' : World} (h : Below w.drew.heap.size w.drew w') : Below w.heap.size w w' := ((Below.refl w.heap.size w).drew).trans h
def PointsIn (w : World) (t : Tt) (W : World) (e : Ending) (W' : World) : Prop := ∃ p, e = .returned (pv p) ∧ Tree w p t ∧ W = W'
set_option maxHeartbeats 400000 in
theorem treeOf_at {w W : World} {m : Option Nat} {t : Tt} (h : IsMap w m t) (hb : Below w.heap.size w W) : Calls Tryz.prog 68 #[pv m] W (PointsIn w t W) := by
 cases m with
 | none =>
  clear hb
  show Calls Tryz.prog 68 #[.pointer none] W _
  go_enter Tryz.func68, Tryz.ntmps68
  go_wp2_with fail
  go_ret
  exact ⟨none, rfl, h.symm ▸ rfl, rfl⟩
 | some b =>
  obtain ⟨p, h1, h2⟩ := h
  have c0 : W.cell? ⟨b, 0, none⟩ = some (pv p) := cell_obj ((hb.block b (lt_of_obj h1)).trans h1) 0
  have H := Lib.hid h2
  clear h1 h2 hb
  show Calls Tryz.prog 68 #[.pointer (some ⟨b, 0, none⟩)] W _
  go_enter Tryz.func68, Tryz.ntmps68
  go_wp2_with fail
  go_ret
  exact ⟨p, rfl, H.out, rfl⟩
theorem owns_lower {w : World} {base base' : Nat} {e : TypeId} {size : Nat} {v : Value} {n : Nat} {xs : List Value} (h : w.ownsRow base e size v n xs) (hb : base' ≤ base) : w.ownsRow base' e size v n xs := by
 refine ⟨h.1, ?_⟩
 rcases h.2 with hn | ⟨g, cap, cur, hv, h1, rest⟩
 ·exact .inl hn
 ·exact .inr ⟨g, cap, cur, hv, Nat.le_trans hb h1, rest⟩
end Go.Proofs.YthehblmjloohiaaGreatDoor.T8

namespace Go.Proofs.YthehblmjloohiaaGreatDoor.T8
set_option maxRecDepth 100000
open Go.RowKit Go.Less
attribute [local go_sem 9000] sem_eql sem_neq
theorem own_ne {W : World} {base : Nat} {v : Value} {n : Nat} {xs : List Value} {gk : Nat} {cs : Array Value} {fr : Nat × Nat} (h : W.ownsRow base 9 1 v n xs) (hk : W.heap[gk]? = some (.cells cs 52 fr)) : v.ownBlock ≠ some gk := by
 intro e
 obtain ⟨_, ⟨rfl, rfl⟩ | ⟨g, cap, cur, rfl, h1, h2, _⟩⟩ := h
 ·cases e
 ·injection e with e
  subst e
  rw [hk] at h2
  injection h2 with h2
  injection h2 with _ h2 _
  cases h2
structure Kz (w : World) (gk : Nat) (l : List ByteArray) (W : World) : Prop where
 keys : ∃ ao cap, W.heap[gk]? = some (.cells #[.slice ao l.length cap] 52 (0, 0)) ∧ W.ownsRow w.heap.size 9 1 (.slice ao l.length cap) l.length (l.map Value.string)
 lo : w.heap.size ≤ gk
 below : Below w.heap.size w W
theorem Kz.kept {w W W' : World} {gk : Nat} {l : List ByteArray} (h : Kz w gk l W) (hb : Below W.heap.size W W') : Kz w gk l W' := by
 obtain ⟨ao, cap, h1, h2⟩ := h.keys
 exact ⟨⟨ao, cap, (hb.block _ (lt_of_obj h1)).trans h1, owned_below h2 hb⟩, h.lo, h.below.trans (hb.mono h.below.size)⟩
theorem kz_more {w W5 w1 w4 : World} {gk : Nat} {l : List ByteArray} {k : ByteArray} {ao ao4 : Option Addr} {cap cap4 : Nat} (h : Kz w gk l W5) (hw : Below W5.heap.size W5 w1)
  (hO : (w1.alloc (.cells #[.string k] 9)).ownsRow w.heap.size 9 1 (.slice ao l.length cap) l.length (l.map Value.string))
  (hO4 : w4.ownsRow w.heap.size 9 1 (.slice ao4 (l.length + 1) cap4) (l.length + 1) (l.map Value.string ++ [.string k]))
  (hg : (w1.alloc (.cells #[.string k] 9)).grownBy w4 (Value.slice ao l.length cap).ownBlock) :
  (∃ v, w4.heap[gk]? = some (.cells #[v] 52 (0, 0))) ∧ Kz w gk (l ++ [k]) (w4.setCell ⟨gk, 0, none⟩ (.slice ao4 (l.length + 1) cap4)) := by
 have h3 := (h.kept hw).kept (below_one w1 (.cells #[.string k] 9))
 obtain ⟨a0, c0, hk, _⟩ := h3.keys
 have hk4 := grown_obj hg hk (own_ne hO hk).symm
 have lo := h.lo
 have hl : (l ++ [k]).length = l.length + 1 := by simp
 refine ⟨⟨_, hk4⟩, ⟨ao4, cap4, ?_, ?_⟩, lo, ?_⟩
 ·rw [hl]; exact set_obj hk4
 ·rw [hl, List.map_append]
  refine World.ownsRow.kept hO4 (?_ : w4.grownBy _ (some gk)) (.inr (own_ne hO4 hk4))
  exact ⟨rfl, rfl, rfl, by simp [World.setCell], fun j hj hne => heap_setCell_other w4 ⟨gk, 0, none⟩ j _ (fun e => hne (by rw [e]))⟩
 ·refine Below.setCell ?_ lo _
  exact h3.below.grown hg h3.below.size (fun j hj => (owns_lt hO j hj).1)
def keysOf (l : List Pr) : List ByteArray := l.map (·.1)
set_option maxHeartbeats 4000000 in
theorem keyz_any (w : World) (gk : Nat) (m : Nat) (hm : m ≤ 100000) :
  Tells 144 #[.pointer (some ⟨gk, 0, none⟩)] m w (fun pre W => Kz w gk (keysOf (pairs pre)) W) := by
 intro pre b l k v r pl pr W hp hK hN
 have hK : Kz w gk (keysOf (pairs pre)) W := hK
 show Calls Tryz.prog 144 #[.pointer (some ⟨b, 0, none⟩), .pointer (some ⟨gk, 0, none⟩)] W (fun e W' => e = .returned (.tuple #[]) ∧ Kz w gk (keysOf (pairs (pre ++ [.node l k v r]))) W')
 have hlen : (keysOf (pairs pre)).length ≤ 200000 := by unfold keysOf; rw [List.length_map]; have := pairs_len pre; omega
 have HE := Lib.hid (show keysOf (pairs (pre ++ [.node l k v r])) = keysOf (pairs pre) ++ [k] by rw [pairs_snoc]; unfold keysOf; rw [List.map_append]; rfl)
 have HLen := Lib.hid hlen
 generalize keysOf (pairs (pre ++ [.node l k v r])) = YL at *
 generalize keysOf (pairs pre) = XL at *
 have HC := Lib.hid (fun W1 => clone_any k W1 (Nat.le_trans hN.key (by decide)))
 have hNW := hN.below hK.below
 obtain ⟨ao, cap, hk1, hk2⟩ := hK.keys
 have ckb := hNW.c0
 have ck5 : W.cell? ⟨gk, 0, none⟩ = some (.slice ao XL.length cap) := cell_obj hk1 0
 have hgk := lt_of_obj hk1
 have HO5 := Lib.hid hk2
 have HK5 := Lib.hid hK
 have HZ0 := Lib.hid hK.below.size
 have hBd := (Below.refl W.heap.size W).drew
 clear hp hK hN hlen hNW hk1 hk2
 go_enter Tryz.func144, Tryz.ntmps144
 go_wp2_with fail
 go_region_law (first
   | (refine step_app1 rfl _ _ rfl w.heap.size _ XL.length (XL.map Value.string) (by rfl) HO3.out w1.heap.size (.string k) (by rfl) (by simp) rfl (Nat.le_trans HLen.out (by decide)) HZ.out ?_; intro ao4 cap4 w4 hown4 hgrow4; have hmid := kz_more HK5.out hw1 HO3.out hown4 hgrow4; have HK4 := Lib.hid hmid.2; obtain ⟨v4, hk4⟩ := hmid.1; have ck4 := cell_obj hk4 0; have fk4 := free_obj hk4 0; clear hown4 hgrow4 hk4 hmid)
   | (go_simp; (with_reducible refine (HC.out _).mono ?_); rintro e w1 ⟨rfl, hw1d⟩; have hw1 := below_drew hw1d; have ck1 := (hw1.cell (p := ⟨gk, 0, none⟩) hgk).trans ck5; have ck2 : (w1.alloc (.cells #[.string k] 9)).cell? ⟨gk, 0, none⟩ = some (.slice ao XL.length cap) := ((below_one w1 (.cells #[.string k] 9)).cell (p := ⟨gk, 0, none⟩) (Nat.lt_of_lt_of_le hgk hw1.size)).trans ck1; have HO3 := Lib.hid (owned_below (owned_below HO5.out hw1) (below_one w1 (.cells #[.string k] 9))); have HZ := Lib.hid (Nat.le_trans (Nat.le_trans HZ0.out hw1.size) (below_one w1 (.cells #[.string k] 9)).size)))
 all_goals
  go_wp2_with fail
  go_end0
  exact ⟨rfl, by rw [HE.out]; exact HK4.out⟩
theorem run_make52 (n : Nat) (hn : n ≤ 1000000) (w : World) : (Instr.makeSlice 52 (.int .i64 0) (.int .i64 (n : Int))).run Tryz.prog w = .ok (.slice (some ⟨w.heap.size, 0, none⟩) 0 n) (w.alloc (.cells (madeCells #[.string ⟨#[]⟩] n) 9)) := by
 obtain ⟨i0, hi, hz0, hz1, hz2⟩ := info_parts info9'
 have h := run_make (P := Tryz.prog) w 52 9 i0 _ Tryz.underlying52 hi hz0 .i64 .i64 0 (n : Int) (by omega) (by omega) (by rw [hz2]; omega) (by omega)
 rw [hz1, Nat.mul_one, Int.toNat_natCast] at h
 exact h
theorem kz_start (w w1 : World) (n : Nat) (hb : Below w.heap.size w w1) (hn : n ≤ 1000000) : Kz w (w1.heap.size + 1) [] ((w1.alloc (.cells (madeCells #[.string ⟨#[]⟩] n) 9)).alloc (.cells #[.slice (some ⟨w1.heap.size, 0, none⟩) 0 n] 52)) := by
 have h0 := heap_alloc_new (w1.alloc (.cells (madeCells #[.string ⟨#[]⟩] n) 9)) (.cells #[.slice (some ⟨w1.heap.size, 0, none⟩) 0 n] 52)
 rw [show (w1.alloc (.cells (madeCells #[.string ⟨#[]⟩] n) 9)).heap.size = w1.heap.size + 1 from by simp] at h0
 have hr : (w1.alloc (.cells (madeCells #[.string ⟨#[]⟩] n) 9)).ownsRow w1.heap.size 9 1 (.slice (some ⟨w1.heap.size, 0, none⟩) 0 n) 0 [] := World.ownsRow_made (e := 9) (size := 1) (base := w1.heap.size) w1 (madeCells #[.string ⟨#[]⟩] n) n (by simp) (by unfold maxLen; omega) (by rw [size_madeCells]; omega)
 have hs := hb.size
 exact ⟨⟨_, n, h0, (owned_below (owns_lower hr hs) (below_one _ _))⟩, by omega, balloc _ (balloc _ hb)⟩
def Keyed (l : List ByteArray) (w : World) (e : Ending) (w' : World) : Prop := ∃ ao cap, e = .returned (.slice ao l.length cap) ∧ w'.ownsRow w.heap.size 9 1 (.slice ao l.length cap) l.length (l.map Value.string) ∧ Below w.heap.size w w'
set_option maxHeartbeats 4000000 in
theorem mkeys_any {w : World} {m : Option Nat} {l : List Pr} (h : Rp w m l) (hn : l.length ≤ 5000) : Calls Tryz.prog 104 #[pv m] w (Keyed (keysOf l) w) := by
 have HL := Lib.hid (mlen_any h)
 have HT := Lib.hid (fun W (hb : Below w.heap.size w W) => treeOf_at h.map hb)
 have HK0 := Lib.hid (fun w1 (hb : Below w.heap.size w w1) => kz_start w w1 l.length hb (by omega))
 have hmk := run_make52 l.length (by omega)
 have hcl : (cn l).len ≤ 5000 := by rw [cn_len]; exact hn
 have HCL := Lib.hid hcl
 have HRow := Lib.hid (show keysOf (pairs (cn l).subs) = keysOf l by rw [pairs_subs, cn_rows])
 clear h hcl
 generalize l.length = n at *
 go_enter Tryz.func104, Tryz.ntmps104
 go_wp2_with fail
 refine HL.out.mono ?_
 rintro e w1 ⟨rfl, hw1⟩
 have HK1 := Lib.hid (HK0.out w1 hw1)
 clear HK0 HL hw1
 dsimp only
 go_wp2_with fail
 generalize ((w1.alloc (.cells (madeCells #[.string ⟨#[]⟩] n) 9)).alloc (.cells #[.slice (some ⟨w1.heap.size, 0, none⟩) 0 n] 52)) = W0 at HK1 ⊢
 generalize w1.heap.size + 1 = gk at HK1 ⊢
 refine (HT.out _ HK1.out.below).mono ?_
 rintro e w' ⟨p, rfl, hp, rfl⟩
 have HP := Lib.hid hp
 clear hp
 dsimp only
 go_wp2_with fail
 refine (walk_any 144 _ (enters_of Tryz.func144 (by kernel_rfl) rfl) w 5000 (fun pre W => Kz w gk (keysOf (pairs pre)) W) (keyz_any w gk 5000 (by decide)) (fun _ _ h => h.below) (cn l) p [] W0 HP.out HK1.out (by rw [List.length_nil, Nat.zero_add]; exact HCL.out)).mono ?_
 rintro e W1 ⟨rfl, h1⟩
 rw [List.nil_append, HRow.out] at h1
 obtain ⟨ao, cap, hk, ho⟩ := h1.keys
 have c2 := cell_obj hk 0
 have HO := Lib.hid ho
 have HB := Lib.hid h1.below
 clear hk ho h1
 dsimp only
 go_wp2_with fail
 go_ret
 exact ⟨ao, cap, rfl, HO.out, HB.out⟩
end Go.Proofs.YthehblmjloohiaaGreatDoor.T8
