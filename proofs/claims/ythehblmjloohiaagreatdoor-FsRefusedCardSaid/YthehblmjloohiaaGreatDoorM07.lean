/- Layer 11, a part of the proofs: no statement of its own. -/
import Derived.Lib.ConvBytes
import Derived.Laws.IdiomStrings
import Derived.Laws.AppendOwn
import Derived.Laws.BytesArg
import Derived.Laws.MakeOwn
import Derived.Laws.OwnMore
import Derived.IntWalk
import Derived.OwnWalk
import Derived.Lib.Hide
import Derived.Deep.RegionHeld3
import Derived.Deep.AppendLies
import Derived.Laws.CopyOwn
import Derived.Test.YthehblmjloohiaaGreatDoorM06
namespace Chk
def b (l : List UInt8) (i : Nat) : UInt8 := l.getD i 0
theorem ext {l m : List UInt8} (hl : l.length = m.length) (h : ∀ i, i < l.length → b l i = b m i) : l = m := by
 apply List.ext_getElem hl
 intro i h1 h2
 have := h i h1
 unfold b at this
 rwa [List.getD, List.getD, List.getElem?_eq_getElem h1, List.getElem?_eq_getElem h2] at this
def rule (n : Nat) (f : Nat → UInt8) : List UInt8 := (List.range n).map f
theorem rule_length (n : Nat) (f : Nat → UInt8) : (rule n f).length = n := by unfold rule; rw [List.length_map, List.length_range]
theorem rule_b {n i : Nat} (f : Nat → UInt8) (h : i < n) : b (rule n f) i = f i := by
 unfold b rule
 rw [List.getD, List.getElem?_map, List.getElem?_range h]; rfl
theorem rule_is {l : List UInt8} {n : Nat} {f : Nat → UInt8} (hl : l.length = n) (h : ∀ i, i < n → b l i = f i) : l = rule n f :=
 ext (by rw [rule_length]; exact hl) fun i hi => by rw [h i (by omega), rule_b f (by omega)]
theorem b_over {l : List UInt8} {i : Nat} (h : l.length ≤ i) : b l i = 0 := by unfold b; rw [List.getD, List.getElem?_eq_none h]; rfl
theorem b_append_left {l m : List UInt8} {i : Nat} (h : i < l.length) : b (l ++ m) i = b l i := by unfold b; rw [List.getD, List.getD, List.getElem?_append_left h]
theorem b_append_right {l m : List UInt8} {i : Nat} (h : l.length ≤ i) : b (l ++ m) i = b m (i - l.length) := by unfold b; rw [List.getD, List.getD, List.getElem?_append_right h]
theorem b_set {l : List UInt8} {k i : Nat} {v : UInt8} (h : k < l.length) : b (l.set k v) i = if i = k then v else b l i := by
 unfold b
 by_cases hi : i = k
 ·subst hi; rw [if_pos rfl, List.getD, List.getElem?_set_self h]; rfl
 ·rw [if_neg hi, List.getD, List.getD, List.getElem?_set_ne (by omega)]
theorem b_drop (l : List UInt8) (k i : Nat) : b (l.drop k) i = b l (k + i) := by unfold b; rw [List.getD, List.getD, List.getElem?_drop]
theorem b_take {l : List UInt8} {k i : Nat} (h : i < k) : b (l.take k) i = b l i := by unfold b; rw [List.getD, List.getD, List.getElem?_take, if_pos h]
def trunc (l : List UInt8) (n : Nat) : List UInt8 := rule n (b l)
def put (l : List UInt8) (off : Nat) (d : List UInt8) : List UInt8 := if d = [] then l else rule (max l.length (off + d.length)) fun i => if off ≤ i ∧ i < off + d.length then b d (i - off) else b l i
def get (l : List UInt8) (off n : Nat) : List UInt8 := rule (min n (l.length - off)) fun i => b l (off + i)
theorem get_take (l : List UInt8) (off n : Nat) : get l off n = (l.drop off).take n :=
 (rule_is (by rw [List.length_take, List.length_drop]) fun i hi => by rw [b_take (by omega), b_drop]).symm
theorem put_nil (l : List UInt8) (off : Nat) : put l off [] = l := by unfold put; rw [if_pos rfl]
theorem put_is {l d : List UInt8} {off : Nat} (h : d ≠ []) : put l off d = rule (max l.length (off + d.length)) fun i => if off ≤ i ∧ i < off + d.length then b d (i - off) else b l i := by unfold put; rw [if_neg h]
theorem put_length {l d : List UInt8} {off : Nat} (h : d ≠ []) : (put l off d).length = max l.length (off + d.length) := by rw [put_is h, rule_length]
theorem trunc_length (l : List UInt8) (n : Nat) : (trunc l n).length = n := rule_length _ _
theorem trunc_b {l : List UInt8} {n i : Nat} (h : i < n) : b (trunc l n) i = b l i := rule_b _ h
theorem get_length (l : List UInt8) (off n : Nat) : (get l off n).length = min n (l.length - off) := rule_length _ _
def cut (l : List UInt8) : List (List UInt8) := match l with
 | [] => []
 | x :: l => (x :: l).take 16 :: cut ((x :: l).drop 16)
 termination_by l.length
 decreasing_by rw [List.length_drop, List.length_cons]; omega
def blank (l : List UInt8) : Bool := l.all (· == 0)
end Chk

namespace Go.Proofs.YthehblmjloohiaaGreatDoor.T6
open T8
set_option maxRecDepth 100000
open Go.RowKit Sha
theorem info5b : (Tryz.prog.info? 5).map (fun i => (i.zero, i.size, i.bytes)) = some (some (.int .u8 0), 1, 1) := by kernel_rfl
structure Bown (base g cap : Nat) (l : List UInt8) (w : World) : Prop where
 base : base ≤ g
 lt : g < w.heap.size
 fit : l.length ≤ cap
 cell : ∀ i, i < l.length → w.cell? ⟨g, i, none⟩ = some (bv (Chk.b l i))
 any : ∀ i, i < cap → ∃ u, w.cell? ⟨g, i, none⟩ = some u
 free : ∀ i, i < cap → w.frozen? ⟨g, i, none⟩ = false
theorem Bown.below {base g cap : Nat} {l : List UInt8} {w w' : World} (h : Bown base g cap l w) (hb : Below w.heap.size w w') : Bown base g cap l w' :=
 ⟨h.base, Nat.lt_of_lt_of_le h.lt hb.size, h.fit, fun i hi => (hb.cell (p := ⟨g, i, none⟩) h.lt).trans (h.cell i hi), fun i hi => by obtain ⟨u, hu⟩ := h.any i hi; exact ⟨u, (hb.cell (p := ⟨g, i, none⟩) h.lt).trans hu⟩, fun i hi => (hb.frozen (p := ⟨g, i, none⟩) h.lt).trans (h.free i hi)⟩
theorem Bown.same {base g cap : Nat} {l m : List UInt8} {w : World} (h : Bown base g cap l w) (e : l = m) : Bown base g cap m w := e ▸ h
theorem Bown.set {base g cap : Nat} {l : List UInt8} {w : World} (h : Bown base g cap l w) {k : Nat} (hk : k < l.length) (v : UInt8) : Bown base g cap (l.set k v) (w.setCell ⟨g, k, none⟩ (bv v)) := by
 have key : ∀ i, (w.setCell ⟨g, k, none⟩ (bv v)).cell? ⟨g, i, none⟩ = if i = k then some (bv v) else w.cell? ⟨g, i, none⟩ := by
  intro i
  by_cases he : i = k
  ·subst he; rw [if_pos rfl]; exact World.cell?_setCell_same _ _ _ (h.cell i hk)
  ·rw [if_neg he]
   have hne : (⟨g, k, none⟩ : Addr) ≠ ⟨g, i, none⟩ := by
    intro e
    injection e with e1 e2
    exact he e2.symm
   exact World.cell?_setCell_other w (a := ⟨g, k, none⟩) (b := ⟨g, i, none⟩) (v := bv v) hne
 refine ⟨h.base, by rw [World.size_setCell]; exact h.lt, by rw [List.length_set]; exact h.fit, fun i hi => ?_, fun i hi => ?_, fun i hi => ?_⟩
 ·rw [List.length_set] at hi
  rw [key, Chk.b_set hk]
  by_cases he : i = k
  ·rw [if_pos he, if_pos he]
  ·rw [if_neg he, if_neg he]; exact h.cell i hi
 ·rw [key]
  by_cases he : i = k
  ·rw [if_pos he]; exact ⟨_, rfl⟩
  ·rw [if_neg he]; exact h.any i hi
 ·rw [World.frozen?_setCell]; exact h.free i hi
theorem Bown.push {base g cap : Nat} {l : List UInt8} {w : World} (h : Bown base g cap l w) (hr : l.length < cap) (v : UInt8) : Bown base g cap (l ++ [v]) (w.setCell ⟨g, l.length, none⟩ (bv v)) := by
 obtain ⟨u, hu⟩ := h.any l.length hr
 have key : ∀ i, (w.setCell ⟨g, l.length, none⟩ (bv v)).cell? ⟨g, i, none⟩ = if i = l.length then some (bv v) else w.cell? ⟨g, i, none⟩ := by
  intro i
  by_cases he : i = l.length
  ·subst he; rw [if_pos rfl]; exact World.cell?_setCell_same _ _ _ hu
  ·rw [if_neg he]
   have hne : (⟨g, l.length, none⟩ : Addr) ≠ ⟨g, i, none⟩ := by
    intro e
    injection e with e1 e2
    exact he e2.symm
   exact World.cell?_setCell_other w (a := ⟨g, l.length, none⟩) (b := ⟨g, i, none⟩) (v := bv v) hne
 refine ⟨h.base, by rw [World.size_setCell]; exact h.lt, by rw [List.length_append]; exact hr, fun i hi => ?_, fun i hi => ?_, fun i hi => ?_⟩
 ·rw [key]
  by_cases he : i = l.length
  ·subst he
   rw [if_pos rfl, Chk.b_append_right (Nat.le_refl _), Nat.sub_self]; rfl
  ·have hi' : i < l.length := by rw [List.length_append] at hi; simp at hi; omega
   rw [if_neg he, Chk.b_append_left hi']; exact h.cell i hi'
 ·rw [key]
  by_cases he : i = l.length
  ·rw [if_pos he]; exact ⟨_, rfl⟩
  ·rw [if_neg he]; exact h.any i hi
 ·rw [World.frozen?_setCell]; exact h.free i hi
theorem run_make8 (n : Nat) (hn : n ≤ 1000000) (w : World) : (Instr.makeSlice 137 (.int .i64 (n : Int)) (.int .i64 (n : Int))).run Tryz.prog w = .ok (.slice (some ⟨w.heap.size, 0, none⟩) n n) (w.alloc (.cells (madeCells #[.int .u8 0] n) 5)) := by
 obtain ⟨i0, hi, hz0, hz1, hz2⟩ := info_parts info5b
 have h := run_make (P := Tryz.prog) w 137 5 i0 _ Tryz.underlying137 hi hz0 .i64 .i64 (n : Int) (n : Int) (by omega) (Int.le_refl _) (by rw [hz2]; omega) (by omega)
 rw [hz1, Nat.mul_one, Int.toNat_natCast] at h
 exact h
end Go.Proofs.YthehblmjloohiaaGreatDoor.T6

namespace Go.Proofs.YthehblmjloohiaaGreatDoor.T6
open T8
set_option maxRecDepth 100000
open Go.RowKit Sha
def putR (s : List UInt8) (off : Int) (d : List UInt8) : List UInt8 × Int :=
 if off < 0 then ([], 1) else if 4096 < off + d.length then ([], 3) else (Chk.put s off.toNat d, 0)
def truncR (s : List UInt8) (n : Int) : List UInt8 × Int := if n < 0 then ([], 1) else if 4096 < n then ([], 3) else (Chk.trunc s n.toNat, 0)
def getR (s : List UInt8) (off n : Int) : List UInt8 × Int := if off < 0 ∨ n < 0 then ([], 1) else (Chk.get s off.toNat n.toNat, 0)
def copyR (s : List UInt8) (off : Int) (src : List UInt8) (f n : Int) : List UInt8 × Int :=
 if f < 0 ∨ n < 0 ∨ (src.length : Int) < f + n then ([], 1) else putR s off ((src.drop f.toNat).take n.toNat)
def Both (r : List UInt8 × Int) (w : World) (e : Ending) (w' : World) : Prop := e = .returned (.tuple #[.string (lstr r.1), .int .i64 r.2]) ∧ Below w.heap.size w w'
theorem b_at (s : ByteArray) {i : Nat} (h : i < s.size) : s[i] = Chk.b s.data.toList i := by
 unfold Chk.b
 rw [List.getD, List.getElem?_eq_getElem (by rw [Array.length_toList]; exact h)]; rfl
def lenOf : Value → Nat
 | .slice _ n _ => n
 | _ => 0
theorem str_empty {d : ByteArray} (h : d.size = 0) : d = ⟨#[]⟩ := Go.WideShapes.bytes_inj (List.eq_nil_of_length_eq_zero (Array.length_toList.trans h))
theorem cut_text (x : ByteArray) (a n : Nat) (_ : a + n ≤ x.size) : x.extract a (a + n) = lstr ((x.data.toList.drop a).take n) := by
 apply Go.WideShapes.bytes_inj
 rw [ByteArray.data_extract, Array.toList_extract, List.extract_eq_take_drop, Nat.add_sub_cancel_left]
 rfl
theorem lstr_data (l : List UInt8) : (lstr l).data.toList = l := rfl
end Go.Proofs.YthehblmjloohiaaGreatDoor.T6

namespace Go.Proofs.YthehblmjloohiaaGreatDoor.T6
open T8
set_option maxRecDepth 100000
open Go.RowKit Sha
def Bfile (g : Nat) (l : List UInt8) (w : World) : Prop := w.heap[g]? = some (.cells (l.map bv).toArray 5 (0, 0))
theorem Bfile.lt {g : Nat} {l : List UInt8} {w : World} (h : Bfile g l w) : g < w.heap.size := (Array.getElem?_eq_some_iff.1 h).1
theorem Bfile.below {g : Nat} {l : List UInt8} {w w' : World} (h : Bfile g l w) (hb : Below w.heap.size w w') : Bfile g l w' := (hb.block g h.lt).trans h
theorem Bfile.cell {g : Nat} {l : List UInt8} {w : World} (h : Bfile g l w) (i : Nat) (hi : i < l.length) : w.cell? ⟨g, i, none⟩ = some (bv (Chk.b l i)) := by
 unfold World.cell?
 rw [show w.heap[(⟨g, i, none⟩ : Addr).block]? = _ from h]
 simp [Chk.b, List.getD, hi]
theorem Bfile.text {g : Nat} {l : List UInt8} {w : World} (h : Bfile g l w) (n : Nat) (hn : n = l.length) (c : Nat) : (convert 137 9 (.slice (some ⟨g, 0, none⟩) n c)).run Tryz.prog w = .ok (.string (lstr l)) w := by
 subst hn
 refine run_convert_bytes_back (P := Tryz.prog) w 137 9 5 ⟨g, 0, none⟩ c l Tryz.underlying137 Tryz.underlying5 Tryz.underlying9 (fun j hj => ?_)
 rw [Go.WideShapes.add_plain, Nat.zero_add, h.cell j hj]
 simp [Chk.b, List.getD, List.getElem?_eq_getElem hj]
theorem bfile_new (n : Nat) (w : World) : Bfile w.heap.size (List.replicate n 0) (w.alloc (.cells (madeCells #[.int .u8 0] n) 5)) := by
 unfold Bfile
 rw [heap_alloc_new, List.map_replicate]
 have := toList_madeCells_one (.int .u8 0) n
 rw [show madeCells #[Value.int .u8 0] n = (List.replicate n (.int .u8 0)).toArray from by rw [← this, Array.toArray_toList]]
 rfl
def laid (l : List UInt8) (o : Nat) (xs : List UInt8) : List UInt8 := l.take o ++ xs ++ l.drop (o + xs.length)
theorem laid_length {l xs : List UInt8} {o : Nat} (h : o + xs.length ≤ l.length) : (laid l o xs).length = l.length := by
 unfold laid; rw [List.length_append, List.length_append, List.length_take, List.length_drop]; omega
theorem laid_b {l xs : List UInt8} {o i : Nat} (h : o + xs.length ≤ l.length) : Chk.b (laid l o xs) i = if o ≤ i ∧ i < o + xs.length then Chk.b xs (i - o) else Chk.b l i := by
 have ht : (l.take o).length = o := by rw [List.length_take]; omega
 unfold laid
 by_cases h1 : i < o
 ·rw [if_neg (by omega), Chk.b_append_left (by rw [List.length_append, ht]; omega), Chk.b_append_left (by rw [ht]; exact h1), Chk.b_take h1]
 ·by_cases h2 : i < o + xs.length
  ·rw [if_pos (by omega), Chk.b_append_left (by rw [List.length_append, ht]; exact h2), Chk.b_append_right (by rw [ht]; omega), ht]
  ·rw [if_neg (by omega), Chk.b_append_right (by rw [List.length_append, ht]; omega), List.length_append, ht, Chk.b_drop, show o + xs.length + (i - (o + xs.length)) = i from by omega]
theorem run_copy8 (w : World) (g o len cap n : Nat) (ty : TypeId) (l : List UInt8) (r : ByteArray) (hf : Bfile g l w) (hn : n = min r.size len) (hfit : o + len ≤ l.length) :
  (Builtin.copy_ #[137, 9] ty #[.slice (some ⟨g, o, none⟩) len cap, .string r]).run Tryz.prog w = .ok (goInt n) (w.setRow g ((laid l o (r.data.toList.take n)).map bv).toArray) := by
 have hrs : r.data.toList.length = r.size := by rw [Array.length_toList]; rfl
 have hst := run_storeCells_at Tryz.prog g o 5 ((r.data.toList.take n).map (fun b => bv b)) 0 _ w hf (by rw [List.size_toArray, List.length_map, List.length_map, List.length_take]; omega) (by intro v hv; obtain ⟨x, _, rfl⟩ := List.mem_map.1 hv; rfl)
 have hz : (sizeOf 5).run Tryz.prog w = .ok 1 w := by kernel_rfl
 have hmin : Nat.min r.size len = n := hn.symm
 have h := run_copy_gen w 137 9 ty 5 Tryz.underlying137 hz (some ⟨g, o, none⟩) len cap r n hmin _ _ rfl (by rw [← List.map_take]; exact hst)
 rw [h]
 congr 3
 unfold laid
 simp only [List.map_append, List.map_take, List.map_drop, List.length_map, List.length_take, Nat.add_zero]
theorem bfile_laid {w : World} {g o : Nat} {l : List UInt8} (xs : List UInt8) (hf : Bfile g l w) : Bfile g (laid l o xs) (w.setRow g ((laid l o xs).map bv).toArray) := setRow_heap w g _ _ 5 _ hf
theorem trunc_laid (l : List UInt8) (n : Nat) : laid (List.replicate n 0) 0 (l.take (min l.length n)) = Chk.trunc l n := by
 have hl : (l.take (min l.length n)).length = min l.length n := by rw [List.length_take]; omega
 refine Chk.rule_is (by rw [laid_length (by rw [hl, List.length_replicate]; omega), List.length_replicate]) fun i hi => ?_
 rw [laid_b (by rw [hl, List.length_replicate]; omega), hl]
 by_cases h : i < l.length
 ·rw [if_pos (by omega), Nat.sub_zero, Chk.b_take (by omega)]
 ·rw [if_neg (by omega), Chk.b_over (l := l) (by omega)]
  simp [Chk.b, List.getD, hi]
theorem put_laid {l d : List UInt8} {off : Nat} (hd : d ≠ []) : laid (Chk.trunc l (max l.length (off + d.length))) off d = Chk.put l off d := by
 rw [Chk.put_is hd]
 refine Chk.rule_is (by rw [laid_length (by rw [Chk.trunc_length]; omega), Chk.trunc_length]) fun i hi => ?_
 rw [laid_b (by rw [Chk.trunc_length]; omega)]
 split
 ·rfl
 ·exact Chk.trunc_b hi
def Sized (l : List UInt8) (n : Nat) (w : World) (e : Ending) (w' : World) : Prop := ∃ g, w.heap.size ≤ g ∧ e = .returned (.slice (some ⟨g, 0, none⟩) n n) ∧ Bfile g (Chk.trunc l n) w' ∧ Below w.heap.size w w'
set_option maxHeartbeats 1000000 in
theorem sized_any (s : ByteArray) (n : Nat) (w : World) (hn : n ≤ 1000000) : Calls Tryz.prog 169 #[.string s, .int .i64 (n : Int)] w (Sized s.data.toList n w) := by
 have hmk := run_make8 n hn
 have hcp := run_copy8 (w.alloc (.cells (madeCells #[.int .u8 0] n) 5)) w.heap.size 0 n n (min s.size n) 3 (List.replicate n 0) s (bfile_new n w) rfl (by rw [List.length_replicate]; omega)
 have hf := bfile_laid (o := 0) (s.data.toList.take (min s.size n)) (bfile_new n w)
 have ht := trunc_laid s.data.toList n
 rw [show s.data.toList.length = s.size from Array.length_toList] at ht
 rw [ht] at hf hcp
 have hB : Below w.heap.size w ((w.alloc (.cells (madeCells #[.int .u8 0] n) 5)).setRow w.heap.size ((Chk.trunc s.data.toList n).map bv).toArray) := below_setRow ((Below.refl w.heap.size w).alloc (Nat.le_refl _) _) (Nat.le_refl _) _
 generalize hw2 : (w.alloc (.cells (madeCells #[.int .u8 0] n) 5)).setRow w.heap.size ((Chk.trunc s.data.toList n).map bv).toArray = w2 at hcp hf hB
 have HF := Lib.hid hf
 clear hf ht hw2
 go_enter Tryz.func169, Tryz.ntmps169
 go_wp2_with fail
 go_ret
 exact ⟨_, Nat.le_refl _, rfl, HF.out, hB⟩
end Go.Proofs.YthehblmjloohiaaGreatDoor.T6

namespace Go.Proofs.YthehblmjloohiaaGreatDoor.T6
open T8
set_option maxRecDepth 100000
open Go.RowKit Sha
theorem str_isEmpty {d : ByteArray} (h : 0 < d.size) : d.toList.isEmpty = false := by
 rw [Lib.toList_data]
 cases hd : d.data.toList with
 | nil => have : d.data.toList.length = d.size := Array.length_toList
          rw [hd] at this; simp at this; omega
 | cons _ _ => rfl
theorem str_isEmpty0 {d : ByteArray} (h : d.size = 0) : d.toList.isEmpty = true := by
 rw [str_empty h, Lib.toList_data]; rfl
def PutEnd (s d : List UInt8) (o M : Nat) (w : World) : Prop := ∀ (w1 : World) (g : Nat), w.heap.size ≤ g → Bfile g (Chk.trunc s M) w1 → Below w.heap.size w w1 → ∃ w2, (Builtin.copy_ #[137, 9] 3 #[.slice (some ⟨g, o, none⟩) (M - o) (M - o), .string (lstr d)]).run Tryz.prog w1 = .ok (goInt d.length) w2 ∧ (convert 137 9 (.slice (some ⟨g, 0, none⟩) M M)).run Tryz.prog w2 = .ok (.string (lstr (Chk.put s o d))) w2 ∧ Below w.heap.size w w2
theorem put_end {s d : List UInt8} {o M : Nat} (w : World) (hd : d ≠ []) (hM : max s.length (o + d.length) = M) : PutEnd s d o M w := by
 intro w1 g hg hf hw
 have hl : (lstr d).size = d.length := lstr_size d
 have hoM : o + d.length ≤ M := by omega
 have hcp := run_copy8 w1 g o (M - o) (M - o) d.length 3 _ (lstr d) hf (by rw [hl]; omega) (by rw [Chk.trunc_length]; omega)
 rw [lstr_data, List.take_length, show laid (Chk.trunc s M) o d = Chk.put s o d from by rw [← hM]; exact put_laid hd] at hcp
 have hf2 := bfile_laid (o := o) d hf
 rw [show laid (Chk.trunc s M) o d = Chk.put s o d from by rw [← hM]; exact put_laid hd] at hf2
 exact ⟨_, hcp, hf2.text M (by rw [Chk.put_length hd, hM]) M, below_setRow hw hg _⟩
set_option maxHeartbeats 1000000 in
theorem put_some (s : ByteArray) (o : Nat) (d : ByteArray) (w : World) (hs : s.size ≤ 1000000) (h3 : 0 < d.size) (hos : o + d.size ≤ 4096) (HR : Hid (putR s.data.toList (o : Int) d.data.toList = (Chk.put s.data.toList o d.data.toList, 0))) :
  Calls Tryz.prog 132 #[.string s, .int .i64 (o : Int), .string d] w (Both (putR s.data.toList (o : Int) d.data.toList) w) := by
 have hdl : d.data.toList.length = d.size := Array.length_toList
 have hsl : s.data.toList.length = s.size := Array.length_toList
 have hne : d.toList.isEmpty = false := str_isEmpty h3
 have hdne : d.data.toList ≠ [] := fun e => by
  have h := congrArg List.length e
  rw [hdl] at h
  exact absurd h (by show ¬ d.size = 0; omega)
 obtain ⟨M, hM⟩ : ∃ M, max s.size (o + d.size) = M := ⟨_, rfl⟩
 have HX := Lib.hid (sized_any s M w (by omega))
 have HE := Lib.hid (put_end (s := s.data.toList) (d := d.data.toList) (o := o) (M := M) w hdne (by rw [hsl, hdl]; exact hM))
 unfold PutEnd at HE
 rw [show lstr d.data.toList = d from rfl, hdl] at HE
 have hoM : (o : Int) ≤ (M : Int) := by omega
 have hoM1 : ¬ o = M := by omega
 have hoM2 : ¬ (o : Int) = (M : Int) := by omega
 have hoM3 : o < M := by omega
 have hos1 : (o : Int) ≤ 4096 - (d.size : Int) := by omega
 have hos0 : (0 : Int) ≤ (o : Int) := by omega
 have hds : (d.size : Int) ≤ 4096 := by omega
 have hM1 : max (s.size : Int) ((o : Int) + (d.size : Int)) = (M : Int) := by omega
 clear hsl hdl hdne hM hos h3 hs
 go_enter Tryz.func132, Tryz.ntmps132
 go_wp2_with fail
 refine HX.out.mono ?_
 rintro e w1 ⟨g, hg, rfl, hf, hw⟩
 obtain ⟨w2, hcp, hcv, hB⟩ := HE.out w1 g hg hf hw
 have HB := Lib.hid hB
 clear hf hw hB HE HX hM1
 generalize Chk.put s.data.toList o d.data.toList = l at hcv HR
 dsimp only
 go_wp2_with fail
 go_ret2
 show Both (putR s.data.toList (o : Int) d.data.toList) w _ _
 rw [HR.out]
 exact ⟨rfl, HB.out⟩
end Go.Proofs.YthehblmjloohiaaGreatDoor.T6

namespace Go.Proofs.YthehblmjloohiaaGreatDoor.T6
open T8
set_option maxRecDepth 100000
open Go.RowKit Sha
set_option maxHeartbeats 1000000 in
theorem trunc_any (s : ByteArray) (n : Int) (w : World) :
  Calls Tryz.prog 134 #[.string s, .int .i64 n] w (Both (truncR s.data.toList n) w) := by
 by_cases h1 : n < 0
 ·have HR := Lib.hid (show truncR s.data.toList n = ([], 1) from by unfold truncR; rw [if_pos h1])
  go_enter Tryz.func134, Tryz.ntmps134
  go_wp2_with fail
  go_ret2
  show Both (truncR s.data.toList n) w _ _
  rw [HR.out]
  exact ⟨rfl, Below.refl _ _⟩
 ·have h1' : 0 ≤ n := by omega
  by_cases h2 : 4096 < n
  ·have HR := Lib.hid (show truncR s.data.toList n = ([], 3) from by unfold truncR; rw [if_neg h1, if_pos h2])
   go_enter Tryz.func134, Tryz.ntmps134
   go_wp2_with fail
   go_ret2
   show Both (truncR s.data.toList n) w _ _
   rw [HR.out]
   exact ⟨rfl, Below.refl _ _⟩
  ·obtain ⟨m, rfl⟩ : ∃ m : Nat, n = (m : Int) := ⟨n.toNat, by omega⟩
   have h2' : (m : Int) ≤ 4096 := by omega
   have HR := Lib.hid (show truncR s.data.toList (m : Int) = (Chk.trunc s.data.toList m, 0) from by unfold truncR; rw [if_neg h1, if_neg h2]; rfl)
   have HX := Lib.hid (sized_any s m w (by omega))
   clear h1 h2
   go_enter Tryz.func134, Tryz.ntmps134
   go_wp2_with fail
   refine HX.out.mono ?_
   rintro e w1 ⟨g, hg, rfl, hf, hw⟩
   have hcv := hf.text m (by rw [Chk.trunc_length]) m
   have HW := Lib.hid hw
   clear hf hw
   generalize Chk.trunc s.data.toList m = l at hcv HR
   dsimp only
   go_wp2_with fail
   go_ret2
   show Both (truncR s.data.toList (m : Int)) w _ _
   rw [HR.out]
   exact ⟨rfl, HW.out⟩
set_option maxHeartbeats 2000000 in
theorem put_any (s : ByteArray) (off : Int) (d : ByteArray) (w : World) (hs : s.size ≤ 1000000) (hd : d.size ≤ 140737488355328) (ho : off ≤ 9223372036854775807) :
  Calls Tryz.prog 132 #[.string s, .int .i64 off, .string d] w (Both (putR s.data.toList off d.data.toList) w) := by
 have hdl : d.data.toList.length = d.size := Array.length_toList
 have hsl : s.data.toList.length = s.size := Array.length_toList
 have hdi : (d.size : Int) ≤ 140737488355328 := by omega
 by_cases h1 : off < 0
 ·have HR := Lib.hid (show putR s.data.toList off d.data.toList = ([], 1) from by unfold putR; rw [if_pos h1])
  clear hdl hsl
  go_enter Tryz.func132, Tryz.ntmps132
  go_wp2_with fail
  go_ret2
  show Both (putR s.data.toList off d.data.toList) w _ _
  rw [HR.out]
  exact ⟨rfl, Below.refl _ _⟩
 ·have h1' : 0 ≤ off := by omega
  by_cases h2 : 4096 < off + (d.size : Int)
  ·have HR := Lib.hid (show putR s.data.toList off d.data.toList = ([], 3) from by unfold putR; rw [if_neg h1, if_pos (by rw [hdl]; exact h2)])
   have h2' : 4096 - (d.size : Int) < off := by omega
   clear hdl hsl h2
   go_enter Tryz.func132, Tryz.ntmps132
   go_wp2_with fail
   go_ret2
   show Both (putR s.data.toList off d.data.toList) w _ _
   rw [HR.out]
   exact ⟨rfl, Below.refl _ _⟩
  ·have h2' : off ≤ 4096 - (d.size : Int) := by omega
   have HR := Lib.hid (show putR s.data.toList off d.data.toList = (Chk.put s.data.toList off.toNat d.data.toList, 0) from by unfold putR; rw [if_neg h1, if_neg (by rw [hdl]; exact h2)])
   by_cases h3 : d.size = 0
   ·have hde : d.toList.isEmpty = true := str_isEmpty0 h3
    have HX := Lib.hid (clone_any s w (by omega))
    have HP := Lib.hid (show lstr (Chk.put s.data.toList off.toNat d.data.toList) = s from by rw [show d.data.toList = [] from by rw [str_empty h3], Chk.put_nil]; rfl)
    clear hdl hsl h2 h3
    go_enter Tryz.func132, Tryz.ntmps132
    go_wp2_with fail
    refine HX.out.mono ?_
    rintro e w1 ⟨rfl, hw⟩
    dsimp only
    go_wp2_with fail
    go_ret2
    show Both (putR s.data.toList off d.data.toList) w _ _
    rw [HR.out]
    refine ⟨?_, hw⟩
    show _ = Ending.returned (.tuple #[.string (lstr (Chk.put s.data.toList off.toNat d.data.toList)), .int .i64 0])
    rw [HP.out]
    rfl
   ·obtain ⟨o, rfl⟩ : ∃ o : Nat, off = (o : Int) := ⟨off.toNat, by omega⟩
    rw [Int.toNat_natCast] at HR
    exact put_some s o d w hs (by omega) (by omega) HR
theorem get_text (s : ByteArray) (o n : Nat) (ho : o ≤ s.size) : (s.extract o s.size).extract 0 (min n (s.size - o)) = lstr (Chk.get s.data.toList o n) := by
 have hl : s.data.toList.length = s.size := Array.length_toList
 have h1 : s.extract o s.size = lstr (s.data.toList.drop o) := by
  have h := cut_text s o (s.size - o) (by omega)
  rw [show o + (s.size - o) = s.size from by omega] at h
  rw [h, List.take_of_length_le (by rw [List.length_drop, hl]; omega)]
 have h2 := cut_text (lstr (s.data.toList.drop o)) 0 (min n (s.size - o)) (by rw [lstr_size, List.length_drop, hl]; omega)
 rw [Nat.zero_add, lstr_data, List.drop_zero] at h2
 rw [h1, h2, Chk.get_take]
 congr 1
 by_cases hn : n ≤ s.size - o
 ·rw [Nat.min_eq_left hn]
 ·rw [Nat.min_eq_right (by omega), List.take_of_length_le (by rw [List.length_drop, hl]; omega), List.take_of_length_le (by rw [List.length_drop, hl]; omega)]
theorem get_over (s : List UInt8) (o n : Nat) (ho : s.length ≤ o) : Chk.get s o n = Chk.get s s.length n := by
 rw [Chk.get_take, Chk.get_take, List.drop_eq_nil_of_le ho, List.drop_eq_nil_of_le (Nat.le_refl _)]
set_option maxHeartbeats 2000000 in
theorem get_any (s : ByteArray) (off n : Int) (w : World) (hs : s.size ≤ 1000000) (ho : off ≤ 9223372036854775807) (hn : n ≤ 9223372036854775807) :
  Calls Tryz.prog 61 #[.string s, .int .i64 off, .int .i64 n] w (Both (getR s.data.toList off n) w) := by
 have hsi : (s.size : Int) ≤ 1000000 := by omega
 have hsl : s.data.toList.length = s.size := Array.length_toList
 by_cases h1 : off < 0 ∨ n < 0
 ·have HR := Lib.hid (show getR s.data.toList off n = ([], 1) from by unfold getR; rw [if_pos h1])
  have key : ∀ e w', e = Ending.returned (.tuple #[.string ⟨#[]⟩, .int .i64 1]) ∧ w = w' → Both (getR s.data.toList off n) w e w' := by
   rintro e w' ⟨rfl, rfl⟩
   rw [HR.out]
   exact ⟨rfl, Below.refl _ _⟩
  refine Calls.mono ?_ key
  clear key hsl
  by_cases a1 : off < 0
  ·go_enter Tryz.func61, Tryz.ntmps61
   go_wp2_with fail
   go_ret2
   exact ⟨rfl, rfl⟩
  ·have a1' : 0 ≤ off := by omega
   have a2 : n < 0 := by omega
   clear h1
   go_enter Tryz.func61, Tryz.ntmps61
   go_wp2_with fail
   go_ret2
   exact ⟨rfl, rfl⟩
 ·have h2 : 0 ≤ off := by omega
  have h3 : 0 ≤ n := by omega
  obtain ⟨o, rfl⟩ : ∃ o : Nat, off = (o : Int) := ⟨off.toNat, by omega⟩
  obtain ⟨m, rfl⟩ : ∃ m : Nat, n = (m : Int) := ⟨n.toNat, by omega⟩
  have HR := Lib.hid (show getR s.data.toList (o : Int) (m : Int) = (Chk.get s.data.toList o m, 0) from by unfold getR; rw [if_neg h1]; rfl)
  obtain ⟨p, hp⟩ : ∃ p, min o s.size = p := ⟨_, rfl⟩
  have hp1 : min (o : Int) (s.size : Int) = (p : Int) := by omega
  have hps : p ≤ s.size := by omega
  have hpsi : (p : Int) ≤ (s.size : Int) := by omega
  have hEq : Chk.get s.data.toList o m = Chk.get s.data.toList p m := by
   by_cases hos : o ≤ s.size
   ·rw [show p = o from by omega]
   ·rw [get_over _ o m (by rw [hsl]; omega), hsl, show s.size = p from by omega]
  have hT := get_text s p m hps
  rw [← hEq] at hT
  have hxs : (s.extract p s.size).size = s.size - p := by rw [ByteArray.size_extract]; omega
  obtain ⟨q, hq⟩ : ∃ q, min m (s.size - p) = q := ⟨_, rfl⟩
  have hq1 : min (m : Int) ((s.size - p : Nat) : Int) = (q : Int) := by omega
  have hq2 : (q : Int) ≤ ((s.size - p : Nat) : Int) := by omega
  rw [hq] at hT
  have HX := Lib.hid (clone_any (lstr (Chk.get s.data.toList o m)) w (by rw [lstr_size, Chk.get_length]; omega))
  have HT := Lib.hid hT
  clear h1 hsl hEq hp hq hT
  generalize Chk.get s.data.toList o m = l at HR HT HX
  go_enter Tryz.func61, Tryz.ntmps61
  go_wp2_with fail
  rw [HT.out]
  refine HX.out.mono ?_
  rintro e w1 ⟨rfl, hw⟩
  have HW := Lib.hid hw
  clear hw
  dsimp only
  go_wp2_with fail
  go_ret2
  show Both (getR s.data.toList (o : Int) (m : Int)) w _ _
  rw [HR.out]
  exact ⟨rfl, HW.out⟩
set_option maxHeartbeats 4000000 in
theorem copy_any (s : ByteArray) (off : Int) (src : ByteArray) (f n : Int) (w : World) (hs : s.size ≤ 1000000) (hd : src.size ≤ 140737488355328) (ho : off ≤ 9223372036854775807) (hf : f ≤ 9223372036854775807) (hn : n ≤ 9223372036854775807) :
  Calls Tryz.prog 136 #[.string s, .int .i64 off, .string src, .int .i64 f, .int .i64 n] w (Both (copyR s.data.toList off src.data.toList f n) w) := by
 have hdi : (src.size : Int) ≤ 140737488355328 := by omega
 have hdl : src.data.toList.length = src.size := Array.length_toList
 by_cases h1 : f < 0 ∨ n < 0 ∨ (src.size : Int) < f + n
 ·have HR := Lib.hid (show copyR s.data.toList off src.data.toList f n = ([], 1) from by unfold copyR; rw [if_pos (by rw [hdl]; exact h1)])
  clear hdl
  have key : ∀ e w', e = Ending.returned (.tuple #[.string ⟨#[]⟩, .int .i64 1]) ∧ w = w' → Both (copyR s.data.toList off src.data.toList f n) w e w' := by
   rintro e w' ⟨rfl, rfl⟩
   rw [HR.out]
   exact ⟨rfl, Below.refl _ _⟩
  refine Calls.mono ?_ key
  clear key
  by_cases a1 : f < 0
  ·go_enter Tryz.func136, Tryz.ntmps136
   go_wp2_with fail
   go_ret2
   exact ⟨rfl, rfl⟩
  ·have a1' : 0 ≤ f := by omega
   by_cases a2 : n < 0
   ·go_enter Tryz.func136, Tryz.ntmps136
    go_wp2_with fail
    go_ret2
    exact ⟨rfl, rfl⟩
   ·have a2' : 0 ≤ n := by omega
    by_cases a3 : (src.size : Int) < f
    ·clear h1
     go_enter Tryz.func136, Tryz.ntmps136
     go_wp2_with fail
     go_ret2
     exact ⟨rfl, rfl⟩
    ·have a3' : f ≤ (src.size : Int) := by omega
     have a4 : (src.size : Int) - f < n := by omega
     clear h1
     go_enter Tryz.func136, Tryz.ntmps136
     go_wp2_with fail
     go_ret2
     exact ⟨rfl, rfl⟩
 ·have hf0 : 0 ≤ f := by omega
  have hn0 : 0 ≤ n := by omega
  have hfn : f + n ≤ (src.size : Int) := by omega
  obtain ⟨a, rfl⟩ : ∃ a : Nat, f = (a : Int) := ⟨f.toNat, by omega⟩
  obtain ⟨m, rfl⟩ : ∃ m : Nat, n = (m : Int) := ⟨n.toNat, by omega⟩
  have HR := Lib.hid (show copyR s.data.toList off src.data.toList (a : Int) (m : Int) = putR s.data.toList off ((src.data.toList.drop a).take m) from by unfold copyR; rw [if_neg (by rw [hdl]; exact h1)]; rfl)
  have hcut := cut_text src a m (by omega)
  have HX := Lib.hid (put_any s off (lstr ((src.data.toList.drop a).take m)) w hs (by rw [lstr_size, List.length_take, List.length_drop, hdl]; omega) ho)
  rw [lstr_data] at HX
  have HC := Lib.hid hcut
  have h3 : (a : Int) ≤ (src.size : Int) := by omega
  have h4 : (m : Int) ≤ (src.size : Int) - (a : Int) := by omega
  have ht : ((a : Int) + (m : Int)).toNat = a + m := by omega
  clear h1 hdl hcut
  go_enter Tryz.func136, Tryz.ntmps136
  go_wp2_with fail
  rw [HC.out]
  refine HX.out.mono ?_
  rintro e w1 ⟨rfl, hw1⟩
  have HW := Lib.hid hw1
  clear hw1
  dsimp only
  go_wp2_with fail
  go_ret2
  show Both (copyR s.data.toList off src.data.toList (a : Int) (m : Int)) w _ _
  rw [HR.out]
  exact ⟨rfl, HW.out⟩
end Go.Proofs.YthehblmjloohiaaGreatDoor.T6
