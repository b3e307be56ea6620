/- Texts, rows of texts of the call's own: what the layers that handle texts share. -/
import Derived.WalkKit
import Derived.OwnWalk
import Derived.IntWalk
import Derived.Lib.Hide
import Derived.Lib.Strings
import Derived.Laws.AppendOwn
import Derived.Laws.IdiomStrings
import Derived.Laws.OwnMore
import Derived.Laws.MakeOwn
import Derived.StillTailTactics
import Derived.Test.YteieehjggiiljaaNm
import Derived.Test.YteieehjggiiljaaProg
namespace Go.Proofs.Yteieehjggiiljaa
set_option maxRecDepth 100000
open Go.RowKit

/-- A slice of texts. -/
structure Strs (a : Option Addr) (len : Nat) (ss : List ByteArray) (w : World) : Prop where
  count : len = ss.length
  cell : ∀ i, i < len → ∃ b off, a = some ⟨b, off, none⟩ ∧ w.cell? ⟨b, off + i, none⟩ = some (.string (ss.getD i ByteArray.empty))
theorem Strs.below {a : Option Addr} {len : Nat} {ss : List ByteArray} {w w' : World} (h : Strs a len ss w) (hb : Below w.heap.size w w') : Strs a len ss w' :=
  ⟨h.count, fun i hi => by
    obtain ⟨b, off, ha, hc⟩ := h.cell i hi
    exact ⟨b, off, ha, (hb.cell (p := ⟨b, off + i, none⟩) (block_lt_of_cell hc)).trans hc⟩⟩
def lstr (l : List UInt8) : ByteArray := ⟨l.toArray⟩
theorem lstr_size (l : List UInt8) : (lstr l).size = l.length := by show l.toArray.size = _; rw [List.size_toArray]
theorem lstr_append (a b : List UInt8) : lstr a ++ lstr b = lstr (a ++ b) := by
  apply ByteArray.ext
  rw [ByteArray.data_append]
  apply Array.ext'
  rw [Array.toList_append]; rfl
theorem lstr_nil : lstr [] = ⟨#[]⟩ := rfl
theorem lstr_own (s : ByteArray) : lstr s.data.toList = s := rfl
theorem lstr_data (l : List UInt8) : (lstr l).data.toList = l := rfl
theorem str_empty {d : ByteArray} (h : d.size = 0) : d = ⟨#[]⟩ := Go.WideShapes.bytes_inj (List.eq_nil_of_length_eq_zero (Array.length_toList.trans h))
theorem cut_text (x : ByteArray) (a n : Nat) (_ : a + n ≤ x.size) : x.extract a (a + n) = lstr ((x.data.toList.drop a).take n) := by
  apply Go.WideShapes.bytes_inj
  rw [ByteArray.data_extract, Array.toList_extract, List.extract_eq_take_drop, Nat.add_sub_cancel_left]
  rfl
theorem strs_lone (g : Nat) (x : ByteArray) (w : World) (h : w.cell? ⟨g, 0, none⟩ = some (.string x)) : Strs (some ⟨g, 0, none⟩) 1 [x] w :=
  ⟨rfl, fun i hi => ⟨g, 0, rfl, by
    match i, hi with
    | 0, _ => exact h⟩⟩
/-- Texts of the call's own. -/
def Trow (base : Nat) (v : Value) (ls : List (List UInt8)) (w : World) : Prop := w.ownsRow base 9 1 v ls.length (ls.map fun l => .string (lstr l))
theorem trow_below {base : Nat} {v : Value} {ls : List (List UInt8)} {w w' : World} (h : Trow base v ls w) (hb : Below w.heap.size w w') : Trow base v ls w' :=
  World.ownsRow.kept h (⟨hb.os, hb.tape, hb.output, hb.size, fun k hk _ => hb.block k hk⟩ : w.grownBy w' none) (by cases v.ownBlock <;> simp)
theorem trow_drew {base : Nat} {v : Value} {ls : List (List UInt8)} {w : World} (h : Trow base v ls w) : Trow base v ls w.drew := trow_below h (Below.refl _ _).drew
theorem trow_form {base : Nat} {v : Value} {ls : List (List UInt8)} {w : World} (h : Trow base v ls w) : ∃ a c, v = .slice a ls.length c := by
  obtain ⟨_, ⟨rfl, h0⟩ | ⟨g, cap, _, rfl, _⟩⟩ := h
  · exact ⟨none, 0, by rw [h0]⟩
  · exact ⟨_, _, rfl⟩
theorem trow_lt {base : Nat} {v : Value} {ls : List (List UInt8)} {w : World} (h : Trow base v ls w) : ∀ k, v.ownBlock = some k → base ≤ k := fun k hk => (World.ownsRow.lt h k hk).1
theorem trow_strs {base n : Nat} {a : Option Addr} {c : Nat} {ls : List (List UInt8)} {w : World} (h : Trow base (.slice a n c) ls w) (hn : n = ls.length) : Strs a n (ls.map lstr) w := by
  subst hn
  have h2 := h
  refine ⟨(List.length_map _).symm, fun i hi => ?_⟩
  obtain ⟨_, ⟨e, h0⟩ | ⟨g, cap, cur, e, _⟩⟩ := h
  · omega
  · injection e with e1 e2 e3
    subst e1
    subst e3
    refine ⟨g, 0, rfl, ?_⟩
    rw [Nat.zero_add, World.ownsRow.cellAt h2 i (by omega), List.getElem?_map, List.getElem?_eq_getElem hi]
    simp [List.getD, List.getElem?_eq_getElem hi]
theorem info9c : (Try.prog.info? 9).map (fun i => (i.zero, i.size, i.bytes)) = some (some (.string ⟨#[]⟩), 1, 16) := by kernel_rfl
/-- One text appended, at the operation. -/
theorem at_appt {ops : Array Oper} {rest : List Oper} {o : Oper} {a : Act} {Q : Exit → Act → World → Prop} {w : World} (hgd : o.guard = none) (s x : Operand) (ho : o.op = .call { callee := .builtin .append, args := #[s, x], argTypes := #[48, 48] })
    {base : Nat} {v : Value} {ls : List (List UInt8)} (hB : Trow base v ls w) (hs : a.eval s = v) (bb : Nat) (y : ByteArray) (c : List UInt8) (hyc : y = lstr c) (hx : a.eval x = .slice (some ⟨bb, 0, none⟩) 1 1) (hc : w.cell? ⟨bb, 0, none⟩ = some (.string y)) (hl : ls.length ≤ 1000000) (hb : base ≤ w.heap.size)
    (h : ∀ ao cap' w', Trow base (.slice ao (ls.length + 1) cap') (ls ++ [c]) w' → w.grownBy w' v.ownBlock → wpList Try.prog ops Q rest (a.put o.dst (.slice ao (ls.length + 1) cap')) w') : wpList Try.prog ops Q (o :: rest) a w := by
  subst hyc
  obtain ⟨i0, hi, hz0, hz1, hz2⟩ := info_parts info9c
  refine wpList_append_own w hgd s x 48 ho base 9 i0 (.string ⟨#[]⟩) 1 16 Try.underlying48 hi hz0 hz1 hz2 rfl (by decide) v ls.length (ls.map fun l => .string (lstr l)) hs hB ⟨bb, 0, none⟩ 1 1 [.string (lstr c)] hx rfl ?_ ?_ (by unfold maxLen; omega) (by omega) hb ?_
  · intro j u hj
    match j with
    | 0 => simp at hj; subst hj; simpa [Addr.add] using hc
    | j + 1 => simp at hj
  · intro u hu; simp at hu; subst hu; rfl
  · intro v' w' hown hg _
    have hB' : Trow base v' (ls ++ [c]) w' := by
      unfold Trow
      rw [List.length_append, List.map_append]
      exact hown
    obtain ⟨ao, cap', rfl⟩ := trow_form hB'
    rw [List.length_append] at hB' ⊢
    exact h ao cap' w' hB' hg
/-- A row of texts handed back. -/
def Rowed (ls : List (List UInt8)) (w : World) (e : Ending) (w' : World) : Prop := ∃ ao cap, e = .returned (.slice ao ls.length cap) ∧ Trow w.heap.size (.slice ao ls.length cap) ls w' ∧ Below w.heap.size w w'

theorem str_eq {x y : ByteArray} (h : x = y) : (x.toList == y.toList) = true := by rw [h, beq_iff_eq]
theorem str_ne {x y : ByteArray} (h : x ≠ y) : (x.toList == y.toList) = false := by
  rw [beq_eq_false_iff_ne]
  intro e
  rw [ByteArray.toList_eq, ByteArray.toList_eq] at e
  exact h (Go.WideShapes.bytes_inj e)
/-- Texts talike? Closed to the walk's simp. -/
def talike (x y : ByteArray) : Bool := decide (x = y)
theorem talike_is (x y : ByteArray) : (x.toList == y.toList) = talike x y := by
  unfold talike
  by_cases h : x = y
  · rw [str_eq h, decide_eq_true h]
  · rw [str_ne h, decide_eq_false h]
theorem sem_stralike (t : TypeId) (x y : ByteArray) : binOp .eql t (.string x) (.string y) = pure (.bool (talike x y)) := by rw [binOp_string_eql, talike_is]
theorem sem_strnot (t : TypeId) (x y : ByteArray) : binOp .neq t (.string x) (.string y) = pure (.bool (!talike x y)) := by rw [binOp_string_neq, talike_is]
attribute [local go_sem 9000] sem_stralike sem_strnot
end Go.Proofs.Yteieehjggiiljaa
