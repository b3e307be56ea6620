/- chunk.Put, Trunc, Get, Copy: the file's bytes in a block of the call's own. -/
import Derived.Test.YtnapjloapgfcfaaDoorNames
import Derived.Laws.CopyOwn
namespace Go.Proofs.YtnapjloapgfcfaaDoor
set_option maxRecDepth 100000
open Go.RowKit Sha

/-- A file's bytes lie in a block. -/
def Bfile (g : Nat) (l : List UInt8) (w : World) : Prop := w.heap[g]? = some (.cells (l.map bv).toArray 5 (0, 0))
theorem Bfile.lt {g : Nat} {l : List UInt8} {w : World} (h : Bfile g l w) : g < w.heap.size := (Array.getElem?_eq_some_iff.1 h).1
theorem Bfile.below {g : Nat} {l : List UInt8} {w w' : World} (h : Bfile g l w) (hb : Below w.heap.size w w') : Bfile g l w' := (hb.block g h.lt).trans h
theorem Bfile.cell {g : Nat} {l : List UInt8} {w : World} (h : Bfile g l w) (i : Nat) (hi : i < l.length) : w.cell? ⟨g, i, none⟩ = some (bv (Chk.b l i)) := by
  unfold World.cell?
  rw [show w.heap[(⟨g, i, none⟩ : Addr).block]? = _ from h]
  simp [Chk.b, List.getD, hi]
theorem Bfile.text {g : Nat} {l : List UInt8} {w : World} (h : Bfile g l w) (n : Nat) (hn : n = l.length) (c : Nat) : (convert 48 9 (.slice (some ⟨g, 0, none⟩) n c)).run Tryd.prog w = .ok (.string (lstr l)) w := by
  subst hn
  refine run_convert_bytes_back (P := Tryd.prog) w 48 9 5 ⟨g, 0, none⟩ c l Tryd.underlying48 Tryd.underlying5 Tryd.underlying9 (fun j hj => ?_)
  rw [Go.WideShapes.add_plain, Nat.zero_add, h.cell j hj]
  simp [Chk.b, List.getD, List.getElem?_eq_getElem hj]
theorem bfile_new (n : Nat) (w : World) : Bfile w.heap.size (List.replicate n 0) (w.alloc (.cells (madeCells #[.int .u8 0] n) 5)) := by
  unfold Bfile
  rw [heap_alloc_new, List.map_replicate]
  have := toList_madeCells_one (.int .u8 0) n
  rw [show madeCells #[Value.int .u8 0] n = (List.replicate n (.int .u8 0)).toArray from by rw [← this, Array.toArray_toList]]
  rfl
/-- Some bytes laid over others. -/
def laid (l : List UInt8) (o : Nat) (xs : List UInt8) : List UInt8 := l.take o ++ xs ++ l.drop (o + xs.length)
theorem laid_length {l xs : List UInt8} {o : Nat} (h : o + xs.length ≤ l.length) : (laid l o xs).length = l.length := by
  unfold laid; rw [List.length_append, List.length_append, List.length_take, List.length_drop]; omega
theorem laid_b {l xs : List UInt8} {o i : Nat} (h : o + xs.length ≤ l.length) : Chk.b (laid l o xs) i = if o ≤ i ∧ i < o + xs.length then Chk.b xs (i - o) else Chk.b l i := by
  have ht : (l.take o).length = o := by rw [List.length_take]; omega
  unfold laid
  by_cases h1 : i < o
  · rw [if_neg (by omega), Chk.b_append_left (by rw [List.length_append, ht]; omega), Chk.b_append_left (by rw [ht]; exact h1), Chk.b_take h1]
  · by_cases h2 : i < o + xs.length
    · rw [if_pos (by omega), Chk.b_append_left (by rw [List.length_append, ht]; exact h2), Chk.b_append_right (by rw [ht]; omega), ht]
    · rw [if_neg (by omega), Chk.b_append_right (by rw [List.length_append, ht]; omega), List.length_append, ht, Chk.b_drop, show o + xs.length + (i - (o + xs.length)) = i from by omega]
theorem run_copy8 (w : World) (g o len cap n : Nat) (ty : TypeId) (l : List UInt8) (r : ByteArray) (hf : Bfile g l w) (hn : n = min r.size len) (hfit : o + len ≤ l.length) :
    (Builtin.copy_ #[48, 9] ty #[.slice (some ⟨g, o, none⟩) len cap, .string r]).run Tryd.prog w = .ok (goInt n) (w.setRow g ((laid l o (r.data.toList.take n)).map bv).toArray) := by
  have hrs : r.data.toList.length = r.size := by rw [Array.length_toList]; rfl
  have hst := run_storeCells_at Tryd.prog g o 5 ((r.data.toList.take n).map (fun b => bv b)) 0 _ w hf (by rw [List.size_toArray, List.length_map, List.length_map, List.length_take]; omega) (by intro v hv; obtain ⟨x, _, rfl⟩ := List.mem_map.1 hv; rfl)
  have hz : (sizeOf 5).run Tryd.prog w = .ok 1 w := by kernel_rfl
  have hmin : Nat.min r.size len = n := hn.symm
  have h := run_copy_gen w 48 9 ty 5 Tryd.underlying48 hz (some ⟨g, o, none⟩) len cap r n hmin _ _ rfl (by rw [← List.map_take]; exact hst)
  rw [h]
  congr 3
  unfold laid
  simp only [List.map_append, List.map_take, List.map_drop, List.length_map, List.length_take, Nat.add_zero]
theorem bfile_laid {w : World} {g o : Nat} {l : List UInt8} (xs : List UInt8) (hf : Bfile g l w) : Bfile g (laid l o xs) (w.setRow g ((laid l o xs).map bv).toArray) := setRow_heap w g _ _ 5 _ hf
theorem trunc_laid (l : List UInt8) (n : Nat) : laid (List.replicate n 0) 0 (l.take (min l.length n)) = Chk.trunc l n := by
  have hl : (l.take (min l.length n)).length = min l.length n := by rw [List.length_take]; omega
  refine Chk.rule_is (by rw [laid_length (by rw [hl, List.length_replicate]; omega), List.length_replicate]) fun i hi => ?_
  rw [laid_b (by rw [hl, List.length_replicate]; omega), hl]
  by_cases h : i < l.length
  · rw [if_pos (by omega), Nat.sub_zero, Chk.b_take (by omega)]
  · rw [if_neg (by omega), Chk.b_over (l := l) (by omega)]
    simp [Chk.b, List.getD, hi]
theorem put_laid {l d : List UInt8} {off : Nat} (hd : d ≠ []) : laid (Chk.trunc l (max l.length (off + d.length))) off d = Chk.put l off d := by
  rw [Chk.put_is hd]
  refine Chk.rule_is (by rw [laid_length (by rw [Chk.trunc_length]; omega), Chk.trunc_length]) fun i hi => ?_
  rw [laid_b (by rw [Chk.trunc_length]; omega)]
  split
  · rfl
  · exact Chk.trunc_b hi
def Sized (l : List UInt8) (n : Nat) (w : World) (e : Ending) (w' : World) : Prop := ∃ g, w.heap.size ≤ g ∧ e = .returned (.slice (some ⟨g, 0, none⟩) n n) ∧ Bfile g (Chk.trunc l n) w' ∧ Below w.heap.size w w'
set_option maxHeartbeats 1000000 in
theorem sized_any (s : ByteArray) (n : Nat) (w : World) (hn : n ≤ 1000000) : Calls Tryd.prog 30 #[.string s, .int .i64 (n : Int)] w (Sized s.data.toList n w) := by
  have hmk := run_make8 n hn
  have hcp := run_copy8 (w.alloc (.cells (madeCells #[.int .u8 0] n) 5)) w.heap.size 0 n n (min s.size n) 3 (List.replicate n 0) s (bfile_new n w) rfl (by rw [List.length_replicate]; omega)
  have hf := bfile_laid (o := 0) (s.data.toList.take (min s.size n)) (bfile_new n w)
  have ht := trunc_laid s.data.toList n
  rw [show s.data.toList.length = s.size from Array.length_toList] at ht
  rw [ht] at hf hcp
  have hB : Below w.heap.size w ((w.alloc (.cells (madeCells #[.int .u8 0] n) 5)).setRow w.heap.size ((Chk.trunc s.data.toList n).map bv).toArray) := below_setRow ((Below.refl w.heap.size w).alloc (Nat.le_refl _) _) (Nat.le_refl _) _
  generalize hw2 : (w.alloc (.cells (madeCells #[.int .u8 0] n) 5)).setRow w.heap.size ((Chk.trunc s.data.toList n).map bv).toArray = w2 at hcp hf hB
  have HF := Lib.hid hf
  clear hf ht hw2
  go_enter Tryd.func30, Tryd.ntmps30
  go_wp2_with fail
  go_ret
  exact ⟨_, Nat.le_refl _, rfl, HF.out, hB⟩
end Go.Proofs.YtnapjloapgfcfaaDoor
