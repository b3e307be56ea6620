/- Rows of pairs, and of texts, in memory. -/
import Derived.Test.YtheobkepoocamaaGreatDoorOwn
import Derived.Test.YtheobkepoocamaaGreatDoorCanon
import Derived.WalkKit
import Derived.WalkSpells
import Derived.WalkLawsBesides
import Derived.Laws.OwnMore
import Derived.OwnWalk
import Derived.Below
import Derived.Lib.Hide
import Derived.Deep.RegionHeld3
import Derived.Deep.QuietTactic
import Derived.BigQuiet
import Derived.IntWalk
namespace Go.Proofs.YtheobkepoocamaaGreatDoor
set_option maxRecDepth 100000
open Go.RowKit Go.Less

def pcell (x : Pr) : List Value := [.string x.1, .string x.2]
def prow (l : List Pr) : List Value := l.flatMap pcell
theorem prow_length (l : List Pr) : (prow l).length = l.length * 2 := by
  induction l with
  | nil => rfl
  | cons x l ih => simp [prow, pcell] at ih ⊢; omega
theorem prow_append (a b : List Pr) : prow (a ++ b) = prow a ++ prow b := by simp [prow]
abbrev z0 : Pr := (⟨#[]⟩, ⟨#[]⟩)
theorem prow_get (l : List Pr) (i j : Nat) (hi : i < l.length) (hj : j < 2) : (prow l)[i * 2 + j]? = (pcell (l.getD i z0))[j]? := by
  induction l generalizing i with
  | nil => cases hi
  | cons x l ih =>
    have e : prow (x :: l) = pcell x ++ prow l := rfl
    rw [e]
    have hl : (pcell x).length = 2 := rfl
    cases i with
    | zero =>
      rw [List.getElem?_append_left (by rw [hl]; omega)]
      simp [List.getD]
    | succ i =>
      rw [List.getElem?_append_right (by rw [hl]; omega), hl, show (i + 1) * 2 + j - 2 = i * 2 + j by omega, ih i (by simpa using hi)]
      simp [List.getD]
/-- A row of pairs, wherever it lies. -/
structure Prs (a : Option Addr) (n : Nat) (l : List Pr) (w : World) : Prop where
  count : n = l.length
  cell : ∀ i, i < n → ∃ b off, a = some ⟨b, off, none⟩ ∧ w.cell? ⟨b, off + i * 2, none⟩ = some (.string (l.getD i z0).1) ∧ w.cell? ⟨b, off + i * 2 + 1, none⟩ = some (.string (l.getD i z0).2)
theorem Prs.below {a : Option Addr} {n : Nat} {l : List Pr} {w w' : World} (h : Prs a n l w) (hb : Below w.heap.size w w') : Prs a n l w' :=
  ⟨h.count, fun i hi => by
    obtain ⟨b, off, rfl, h0, h1⟩ := h.cell i hi
    have hl := block_lt_of_cell h0
    exact ⟨b, off, rfl, (hb.cell (p := ⟨b, off + i * 2, none⟩) hl).trans h0, (hb.cell (p := ⟨b, off + i * 2 + 1, none⟩) hl).trans h1⟩⟩
abbrev Own (base : Nat) (v : Value) (l : List Pr) (w : World) : Prop := w.ownsRow base 61 2 v l.length (prow l)
theorem own_prs {base : Nat} {a : Option Addr} {n cap : Nat} {l : List Pr} {w : World} (h : w.ownsRow base 61 2 (.slice a n cap) n (prow l)) : Prs a n l w := by
  have hn : n = l.length := by have := h.1; rw [prow_length] at this; omega
  refine ⟨hn, fun i hi => ?_⟩
  have h2 := h
  obtain ⟨hl, ⟨e, h0⟩ | ⟨g, cap', cur, e, _⟩⟩ := h
  · omega
  · injection e with e1 e2 e3
    subst e1
    subst e3
    refine ⟨g, 0, rfl, ?_, ?_⟩
    · rw [Nat.zero_add, World.ownsRow.cellAt h2 (i * 2) (by omega)]
      have := prow_get l i 0 (by omega) (by omega)
      rw [Nat.add_zero] at this
      rw [this]; rfl
    · rw [Nat.zero_add, World.ownsRow.cellAt h2 (i * 2 + 1) (by omega), prow_get l i 1 (by omega) (by omega)]; rfl
theorem info61 : (Tryz.prog.info? 61).map (fun i => (i.zero, i.size, i.bytes)) = some (some (.agg #[.string ⟨#[]⟩, .string ⟨#[]⟩]), 2, 32) := by kernel_rfl
/-- One pair more, at the operation. -/
theorem at_pair {ops : Array Oper} {rest : List Oper} {o : Oper} {a : Act} {Q : Exit → Act → World → Prop} {w : World} (hgd : o.guard = none) (s x : Operand)
    (ho : o.op = .call { callee := .builtin .append, args := #[s, x], argTypes := #[26, 26] })
    (base : Nat) (v : Value) (l : List Pr) (hs : a.eval s = v) (hown : Own base v l w)
    (b : Nat) (u : Pr) (hx : a.eval x = .slice (some ⟨b, 0, none⟩) 1 1) (hc : w.heap[b]? = some (.cells #[.string u.1, .string u.2] 61 (0, 0))) (hn : l.length ≤ 1000000) (hbase : base ≤ w.heap.size)
    (h : ∀ ao' cap' w', Own base (.slice ao' (l.length + 1) cap') (l ++ [u]) w' → w.grownBy w' v.ownBlock → wpList Tryz.prog ops Q rest (a.put o.dst (.slice ao' (l.length + 1) cap')) w') :
    wpList Tryz.prog ops Q (o :: rest) a w := by
  obtain ⟨i0, hi, hz0, hz1, hz2⟩ := info_parts info61
  refine wpList_append_own w hgd s x 26 ho base 61 i0 (.agg #[.string ⟨#[]⟩, .string ⟨#[]⟩]) 2 32 Tryz.underlying26 hi hz0 hz1 hz2 rfl (by decide) v l.length (prow l) hs hown ⟨b, 0, none⟩ 1 1 (pcell u) hx rfl ?_ ?_ (by unfold maxLen; omega) (by omega) hbase ?_
  · intro j y hj
    rw [show (⟨b, 0, none⟩ : Addr).add j = ⟨b, j, none⟩ by unfold Addr.add; split <;> simp_all]
    match j with
    | 0 => simp [pcell] at hj; subst hj; simp [World.cell?, hc]
    | 1 => simp [pcell] at hj; subst hj; simp [World.cell?, hc]
    | j + 2 => simp [pcell] at hj
  · intro y hy
    simp [pcell] at hy
    rcases hy with rfl | rfl <;> rfl
  · intro v' w' hown' hg _
    obtain ⟨ao', cap', rfl⟩ := owns_form hown'
    refine h ao' cap' w' ?_ hg
    unfold Own
    rw [List.length_append, prow_append]
    simpa [prow, pcell] using hown'
end Go.Proofs.YtheobkepoocamaaGreatDoor
