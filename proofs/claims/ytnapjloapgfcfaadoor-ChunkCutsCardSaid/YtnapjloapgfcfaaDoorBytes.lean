/- Bytes of the call's own: out of a text, made, one more at the end, written over, a text again. -/
import Derived.Test.YtnapjloapgfcfaaDoorRefDig
import Derived.Test.YtnapjloapgfcfaaDoorChk
import Derived.Lib.ConvBytes
import Derived.Laws.IdiomStrings
import Derived.Laws.AppendOwn
import Derived.Laws.BytesArg
import Derived.Laws.MakeOwn
import Derived.Laws.OwnMore
import Derived.IntWalk
import Derived.OwnWalk
namespace Go.Proofs.YtnapjloapgfcfaaDoor
set_option maxRecDepth 100000
open Go.RowKit Sha

theorem info5b : (Tryd.prog.info? 5).map (fun i => (i.zero, i.size, i.bytes)) = some (some (.int .u8 0), 1, 1) := by kernel_rfl
structure Bown (base g cap : Nat) (l : List UInt8) (w : World) : Prop where
  base : base ≤ g
  lt : g < w.heap.size
  fit : l.length ≤ cap
  cell : ∀ i, i < l.length → w.cell? ⟨g, i, none⟩ = some (bv (Chk.b l i))
  any : ∀ i, i < cap → ∃ u, w.cell? ⟨g, i, none⟩ = some u
  free : ∀ i, i < cap → w.frozen? ⟨g, i, none⟩ = false
theorem Bown.below {base g cap : Nat} {l : List UInt8} {w w' : World} (h : Bown base g cap l w) (hb : Below w.heap.size w w') : Bown base g cap l w' :=
  ⟨h.base, Nat.lt_of_lt_of_le h.lt hb.size, h.fit, fun i hi => (hb.cell (p := ⟨g, i, none⟩) h.lt).trans (h.cell i hi), fun i hi => by obtain ⟨u, hu⟩ := h.any i hi; exact ⟨u, (hb.cell (p := ⟨g, i, none⟩) h.lt).trans hu⟩, fun i hi => (hb.frozen (p := ⟨g, i, none⟩) h.lt).trans (h.free i hi)⟩
theorem Bown.same {base g cap : Nat} {l m : List UInt8} {w : World} (h : Bown base g cap l w) (e : l = m) : Bown base g cap m w := e ▸ h
theorem bown_of (y : ByteArray) (w : World) : ∃ cap w', (convert 9 48 (.string y)).run Tryd.prog w = .ok (.slice (some ⟨w.heap.size, 0, none⟩) y.size cap) w' ∧ Bown w.heap.size w.heap.size cap y.data.toList w' ∧ Below w.heap.size w w' := by
  have hl : y.data.toList.length = y.size := Array.length_toList
  have hs : (Lib.bytesCells w 5 y).size = grownCap w y.size 0 5 := by
    have := grownCap_ge w y.size 0 5
    unfold Lib.bytesCells
    rw [Array.size_append, Array.size_map, Array.size_replicate]
    show y.size + _ = _
    omega
  have hn := Lib.bytesWorld_at_new w 5 y
  refine ⟨_, _, Lib.run_convert_string_bytes (P := Tryd.prog) w 9 48 5 y Tryd.underlying9 Tryd.underlying48 Tryd.underlying5, ⟨Nat.le_refl _, by rw [Lib.bytesWorld_size]; omega, by rw [hl]; exact grownCap_ge w y.size 0 5, fun i hi => Lib.bytesWorld_cell w 5 y i (by omega), fun i hi => ?_, fun i hi => ?_⟩, ⟨rfl, rfl, rfl, by rw [Lib.bytesWorld_size]; omega, fun k hk => Lib.bytesWorld_at_old w 5 y k hk⟩⟩
  · unfold World.cell?
    rw [hn]
    exact ⟨(Lib.bytesCells w 5 y)[i]'(by rw [hs]; exact hi), by simp [hs, hi]⟩
  · unfold World.frozen?
    rw [hn]
    simp
    omega
theorem bown_text {base g cap : Nat} {l : List UInt8} {w : World} (h : Bown base g cap l w) (n : Nat) (hn : n = l.length) (c : Nat) : (convert 48 9 (.slice (some ⟨g, 0, none⟩) n c)).run Tryd.prog w = .ok (.string (lstr l)) w := by
  subst hn
  refine run_convert_bytes_back (P := Tryd.prog) w 48 9 5 ⟨g, 0, none⟩ c l Tryd.underlying48 Tryd.underlying5 Tryd.underlying9 (fun j hj => ?_)
  rw [Go.WideShapes.add_plain, Nat.zero_add, h.cell j hj]
  simp [Chk.b, List.getD, List.getElem?_eq_getElem hj]
theorem Bown.set {base g cap : Nat} {l : List UInt8} {w : World} (h : Bown base g cap l w) {k : Nat} (hk : k < l.length) (v : UInt8) : Bown base g cap (l.set k v) (w.setCell ⟨g, k, none⟩ (bv v)) := by
  have key : ∀ i, (w.setCell ⟨g, k, none⟩ (bv v)).cell? ⟨g, i, none⟩ = if i = k then some (bv v) else w.cell? ⟨g, i, none⟩ := by
    intro i
    by_cases he : i = k
    · subst he; rw [if_pos rfl]; exact World.cell?_setCell_same _ _ _ (h.cell i hk)
    · rw [if_neg he]
      have hne : (⟨g, k, none⟩ : Addr) ≠ ⟨g, i, none⟩ := by
        intro e
        injection e with e1 e2
        exact he e2.symm
      exact World.cell?_setCell_other w (a := ⟨g, k, none⟩) (b := ⟨g, i, none⟩) (v := bv v) hne
  refine ⟨h.base, by rw [World.size_setCell]; exact h.lt, by rw [List.length_set]; exact h.fit, fun i hi => ?_, fun i hi => ?_, fun i hi => ?_⟩
  · rw [List.length_set] at hi
    rw [key, Chk.b_set hk]
    by_cases he : i = k
    · rw [if_pos he, if_pos he]
    · rw [if_neg he, if_neg he]; exact h.cell i hi
  · rw [key]
    by_cases he : i = k
    · rw [if_pos he]; exact ⟨_, rfl⟩
    · rw [if_neg he]; exact h.any i hi
  · rw [World.frozen?_setCell]; exact h.free i hi
/-- Behind the end, where there is room. -/
theorem Bown.push {base g cap : Nat} {l : List UInt8} {w : World} (h : Bown base g cap l w) (hr : l.length < cap) (v : UInt8) : Bown base g cap (l ++ [v]) (w.setCell ⟨g, l.length, none⟩ (bv v)) := by
  obtain ⟨u, hu⟩ := h.any l.length hr
  have key : ∀ i, (w.setCell ⟨g, l.length, none⟩ (bv v)).cell? ⟨g, i, none⟩ = if i = l.length then some (bv v) else w.cell? ⟨g, i, none⟩ := by
    intro i
    by_cases he : i = l.length
    · subst he; rw [if_pos rfl]; exact World.cell?_setCell_same _ _ _ hu
    · rw [if_neg he]
      have hne : (⟨g, l.length, none⟩ : Addr) ≠ ⟨g, i, none⟩ := by
        intro e
        injection e with e1 e2
        exact he e2.symm
      exact World.cell?_setCell_other w (a := ⟨g, l.length, none⟩) (b := ⟨g, i, none⟩) (v := bv v) hne
  refine ⟨h.base, by rw [World.size_setCell]; exact h.lt, by rw [List.length_append]; exact hr, fun i hi => ?_, fun i hi => ?_, fun i hi => ?_⟩
  · rw [key]
    by_cases he : i = l.length
    · subst he
      rw [if_pos rfl, Chk.b_append_right (Nat.le_refl _), Nat.sub_self]; rfl
    · have hi' : i < l.length := by rw [List.length_append] at hi; simp at hi; omega
      rw [if_neg he, Chk.b_append_left hi']; exact h.cell i hi'
  · rw [key]
    by_cases he : i = l.length
    · rw [if_pos he]; exact ⟨_, rfl⟩
    · rw [if_neg he]; exact h.any i hi
  · rw [World.frozen?_setCell]; exact h.free i hi
theorem bown_made (n : Nat) (w : World) : Bown w.heap.size w.heap.size n (List.replicate n 0) (w.alloc (.cells (madeCells #[.int .u8 0] n) 5)) := by
  have hc : ∀ i, i < n → (w.alloc (.cells (madeCells #[.int .u8 0] n) 5)).cell? ⟨w.heap.size, i, none⟩ = some (.int .u8 0) := by
    intro i hi
    rw [World.cell?_alloc_new]
    have := toList_madeCells_one (.int .u8 0) n
    rw [← Array.getElem?_toList, this, List.getElem?_replicate, if_pos hi]
  refine ⟨Nat.le_refl _, by simp, by rw [List.length_replicate]; exact Nat.le_refl _, fun i hi => ?_, fun i hi => ⟨_, hc i hi⟩, fun i hi => ?_⟩
  · rw [List.length_replicate] at hi
    rw [hc i hi]
    simp [Chk.b, List.getD, hi]
  · unfold World.frozen?
    rw [show (w.alloc (.cells (madeCells #[.int .u8 0] n) 5)).heap[(⟨w.heap.size, i, none⟩ : Addr).block]? = some (.cells (madeCells #[.int .u8 0] n) 5) from heap_alloc_new w _]
    simp
theorem run_make8 (n : Nat) (hn : n ≤ 1000000) (w : World) : (Instr.makeSlice 48 (.int .i64 (n : Int)) (.int .i64 (n : Int))).run Tryd.prog w = .ok (.slice (some ⟨w.heap.size, 0, none⟩) n n) (w.alloc (.cells (madeCells #[.int .u8 0] n) 5)) := by
  obtain ⟨i0, hi, hz0, hz1, hz2⟩ := info_parts info5b
  have h := run_make (P := Tryd.prog) w 48 5 i0 _ Tryd.underlying48 hi hz0 .i64 .i64 (n : Int) (n : Int) (by omega) (Int.le_refl _) (by rw [hz2]; omega) (by omega)
  rw [hz1, Nat.mul_one, Int.toNat_natCast] at h
  exact h
/-- One byte appended. -/
theorem run_app8 {base g cap : Nat} {l : List UInt8} {w : World} (h : Bown base g cap l w) (ty : TypeId) (bb : Nat) (v : UInt8) (hv : w.cell? ⟨bb, 0, none⟩ = some (bv v)) (hl : l.length ≤ 1000000) (hb : base ≤ w.heap.size) :
    ∃ g' cap' w', (Builtin.append_ #[48, 48] ty #[.slice (some ⟨g, 0, none⟩) l.length cap, .slice (some ⟨bb, 0, none⟩) 1 1]).run Tryd.prog w = .ok (.slice (some ⟨g', 0, none⟩) (l.length + 1) cap') w' ∧ Bown base g' cap' (l ++ [v]) w' ∧ w.grownBy w' (some g) := by
  obtain ⟨i0, hi, hz0, hz1, hz2⟩ := info_parts info5b
  have hnews : ∀ (j : Nat) u, [bv v][j]? = some u → w.cell? ((⟨bb, 0, none⟩ : Addr).add j) = some u := by
    intro j u hj
    match j with
    | 0 => simp at hj; subst hj; simpa [Addr.add] using hv
    | j + 1 => simp at hj
  by_cases hr : l.length < cap
  · obtain ⟨u, hu⟩ := h.any l.length hr
    have hf := h.free l.length hr
    refine ⟨g, cap, w.setCell ⟨g, l.length, none⟩ (bv v), ?_, h.push hr v, ⟨rfl, rfl, rfl, by simp, fun k _ hk => heap_setCell_other w ⟨g, l.length, none⟩ k (bv v) (fun e => hk (by simp [e]))⟩⟩
    have hfc := run_firstCells_some (P := Tryd.prog) w i0.size 1 ⟨bb, 0, none⟩ 1 1 [bv v] (by rw [hz1]; rfl) hnews
    rw [hz1] at hfc
    have hst : (storeCells ⟨g, l.length, none⟩ [bv v]).run Tryd.prog w = .ok () (w.setCell ⟨g, l.length, none⟩ (bv v)) := by
      have ha : (⟨g, l.length, none⟩ : Addr).add 0 = ⟨g, l.length, none⟩ := by simp [Addr.add]
      unfold storeCells
      simp [run_store_int, stored, hu, hf, storeCells, ha]
    simp [Builtin.append_, run_underlying Tryd.underlying48, sizeOf, typeInfo, hi, hz1, Builtin.lenOf, show l.length + 1 ≤ cap from hr, hfc, Addr.add_lit, hst]
  · have hcap : cap = l.length := by have := h.fit; omega
    subst hcap
    have holds : ∀ (j : Nat) u, (l.map fun x => bv x)[j]? = some u → w.cell? ((⟨g, 0, none⟩ : Addr).add j) = some u := by
      intro j u hj
      have hjl : j < l.length := by
        have := (List.getElem?_eq_some_iff.1 hj).1
        simpa using this
      rw [Go.WideShapes.add_plain, Nat.zero_add, h.cell j hjl]
      rw [List.getElem?_map, List.getElem?_eq_getElem hjl] at hj
      simpa [Chk.b, List.getD, List.getElem?_eq_getElem hjl] using hj
    have hrun := run_append_grow (P := Tryd.prog) w 48 ty 5 i0 _ Tryd.underlying48 hi hz0 ⟨g, 0, none⟩ l.length l.length (l.map fun x => bv x) (by rw [hz1]; simp) holds ⟨bb, 0, none⟩ 1 1 [bv v] (by rw [hz1]; rfl) hnews (by omega) (by omega) (growslice_fits (by omega) (by rw [hz2]; omega))
    have hge := grownCap_ge w (l.length + 1) l.length 5
    refine ⟨_, _, _, hrun, ?_, ?_⟩
    · have hcells : ∀ i, (w.drew.alloc (.cells ((l.map fun x => bv x).toArray ++ [bv v].toArray ++ Builtin.zeroCells (Value.int .u8 0).cells (grownCap w (l.length + 1) l.length 5 - (l.length + 1))) 5)).cell? ⟨w.heap.size, i, none⟩ = ((l.map fun x => bv x).toArray ++ [bv v].toArray ++ Builtin.zeroCells (Value.int .u8 0).cells (grownCap w (l.length + 1) l.length 5 - (l.length + 1)))[i]? := by
        intro i
        exact World.cell?_alloc_new w.drew _ 5 i
      have hsz : ((l.map fun x => bv x).toArray ++ [bv v].toArray ++ Builtin.zeroCells (Value.int .u8 0).cells (grownCap w (l.length + 1) l.length 5 - (l.length + 1))).size = grownCap w (l.length + 1) l.length 5 := by
        rw [Array.size_append, Array.size_append, size_zeroCells]
        simp [Value.cells]
        omega
      refine ⟨hb, by simp, by rw [List.length_append]; exact hge, fun i hi => ?_, fun i hi => ?_, fun i hi => ?_⟩
      · rw [hcells]
        rw [List.length_append] at hi
        simp only [List.length_cons, List.length_nil] at hi
        rw [Array.getElem?_append_left (by simp; omega)]
        rw [← Array.getElem?_toList, Array.toList_append]
        show ((l.map fun x => bv x) ++ [bv v])[i]? = _
        by_cases he : i < l.length
        · rw [List.getElem?_append_left (by simpa using he), Chk.b_append_left he, List.getElem?_map, List.getElem?_eq_getElem he]
          simp [Chk.b, List.getD, List.getElem?_eq_getElem he]
        · obtain rfl : i = l.length := by omega
          rw [List.getElem?_append_right (by simp), Chk.b_append_right (Nat.le_refl _), Nat.sub_self]
          simp [Chk.b]
      · rw [hcells]
        exact ⟨_, Array.getElem?_eq_getElem (by rw [hsz]; exact hi)⟩
      · unfold World.frozen?
        rw [show (w.drew.alloc (.cells ((l.map fun x => bv x).toArray ++ [bv v].toArray ++ Builtin.zeroCells (Value.int .u8 0).cells (grownCap w (l.length + 1) l.length 5 - (l.length + 1))) 5)).heap[(⟨w.heap.size, i, none⟩ : Addr).block]? = some (.cells ((l.map fun x => bv x).toArray ++ [bv v].toArray ++ Builtin.zeroCells (Value.int .u8 0).cells (grownCap w (l.length + 1) l.length 5 - (l.length + 1))) 5) from heap_alloc_new w.drew _]
        simp
    · have h2 := World.grownBy_alloc w.drew (.cells ((l.map fun x => bv x).toArray ++ [bv v].toArray ++ Builtin.zeroCells (Value.int .u8 0).cells (grownCap w (l.length + 1) l.length 5 - (l.length + 1))) 5) (some g)
      exact ⟨h2.os, h2.tape, h2.output, h2.size, h2.block⟩
end Go.Proofs.YtnapjloapgfcfaaDoor
