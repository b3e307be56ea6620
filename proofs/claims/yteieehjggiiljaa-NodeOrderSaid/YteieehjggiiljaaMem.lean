/- Nodes and rows of entries in memory. -/
import Derived.Test.YteieehjggiiljaaLess
import Derived.Test.YteieehjggiiljaaNe
import Derived.Test.YteieehjggiiljaaNm
import Derived.Test.YteieehjggiiljaaProg
import Derived.WalkKit
import Derived.WalkSpells
import Derived.WalkLawsBesides
import Derived.Laws.OwnMore
import Derived.OwnWalk
import Derived.Below
import Derived.Lib.Hide
import Derived.Lib.Strings
import Derived.Deep.RegionHeld3
import Derived.Deep.QuietTactic
import Derived.BigQuiet
import Derived.IntWalk
import Derived.Laws.StructEq
namespace Go.Proofs.Yteieehjggiiljaa
set_option maxRecDepth 100000
open Go.RowKit Go.Less
attribute [local go_sem 9000] sem_eql sem_neq sem_lss sem_leq sem_gtr sem_geq
abbrev En := Nd.En
def ecell (x : En) : List Value := [.string x.1, .int .i64 x.2]
def erow (l : List En) : List Value := l.flatMap ecell
theorem erow_length (l : List En) : (erow l).length = l.length * 2 := by
  induction l with
  | nil => rfl
  | cons x l ih => simp [erow, ecell] at ih ⊢; omega
theorem erow_append (a b : List En) : erow (a ++ b) = erow a ++ erow b := by simp [erow]
abbrev z0 : En := (⟨#[]⟩, 0)
theorem erow_get (l : List En) (i j : Nat) (hi : i < l.length) (hj : j < 2) : (erow l)[i * 2 + j]? = (ecell (l.getD i z0))[j]? := by
  induction l generalizing i with
  | nil => cases hi
  | cons x l ih =>
    have e : erow (x :: l) = ecell x ++ erow l := rfl
    rw [e]
    have hl : (ecell x).length = 2 := rfl
    cases i with
    | zero =>
      rw [List.getElem?_append_left (by rw [hl]; omega)]
      simp [List.getD]
    | succ i =>
      rw [List.getElem?_append_right (by rw [hl]; omega), hl, show (i + 1) * 2 + j - 2 = i * 2 + j by omega, ih i (by simpa using hi)]
      simp [List.getD]
/-- A row of entries, wherever it lies. -/
structure Ents (a : Option Addr) (n : Nat) (l : List En) (w : World) : Prop where
  count : n = l.length
  cell : ∀ i, i < n → ∃ b off, a = some ⟨b, off, none⟩ ∧ w.cell? ⟨b, off + i * 2, none⟩ = some (.string (l.getD i z0).1) ∧ w.cell? ⟨b, off + i * 2 + 1, none⟩ = some (.int .i64 (l.getD i z0).2)
theorem Ents.below {a : Option Addr} {n : Nat} {l : List En} {w w' : World} (h : Ents a n l w) (hb : Below w.heap.size w w') : Ents a n l w' :=
  ⟨h.count, fun i hi => by
    obtain ⟨b, off, rfl, h0, h1⟩ := h.cell i hi
    have hl := block_lt_of_cell h0
    exact ⟨b, off, rfl, (hb.cell (p := ⟨b, off + i * 2, none⟩) hl).trans h0, (hb.cell (p := ⟨b, off + i * 2 + 1, none⟩) hl).trans h1⟩⟩
theorem own_ents {base : Nat} {a : Option Addr} {n cap : Nat} {l : List En} {w : World} (h : w.ownsRow base 46 2 (.slice a n cap) n (erow l)) : Ents a n l w := by
  have hn : n = l.length := by have := h.1; rw [erow_length] at this; omega
  refine ⟨hn, fun i hi => ?_⟩
  have h2 := h
  obtain ⟨hl, ⟨e, h0⟩ | ⟨g, cap', cur, e, _⟩⟩ := h
  · omega
  · injection e with e1 e2 e3
    subst e1
    subst e3
    refine ⟨g, 0, rfl, ?_, ?_⟩
    · rw [Nat.zero_add, World.ownsRow.cellAt h2 (i * 2) (by omega)]
      have := erow_get l i 0 (by omega) (by omega)
      rw [Nat.add_zero] at this
      rw [this]; rfl
    · rw [Nat.zero_add, World.ownsRow.cellAt h2 (i * 2 + 1) (by omega), erow_get l i 1 (by omega) (by omega)]; rfl
/-- A node's value. -/
abbrev nv (k m : Int) (d t : ByteArray) (a : Option Addr) (n cap : Nat) : Value := .agg #[.int .i64 k, .int .i64 m, .string d, .string t, .slice a n cap]
theorem take_snoc {α : Type} {l : List α} {i : Nat} (h : i < l.length) (z : α) : l.take (i + 1) = l.take i ++ [l.getD i z] := by
  rw [List.take_succ_eq_append_getElem h]; simp [List.getD, List.getElem?_eq_getElem h]
theorem find_snoc_other {pre : List En} {x : En} {k : ByteArray} (h : Nd.find pre k = none) (hx : x.1 ≠ k) (post : List En) : Nd.find (pre ++ x :: post) k = Nd.find post k := by
  induction pre with
  | nil => rw [List.nil_append, Nd.find, if_neg hx]
  | cons y pre ih =>
    have hy : y.1 ≠ k := Nd.find_none.1 h y List.mem_cons_self
    have hp : Nd.find pre k = none := by unfold Nd.find at h; rwa [if_neg hy] at h
    rw [List.cons_append, Nd.find, if_neg hy, ih hp]
theorem find_snoc_same {pre : List En} {x : En} {k : ByteArray} (h : Nd.find pre k = none) (hx : x.1 = k) (post : List En) : Nd.find (pre ++ x :: post) k = some x.2 := by
  induction pre with
  | nil => rw [List.nil_append, Nd.find, if_pos hx]
  | cons y pre ih =>
    have hy : y.1 ≠ k := Nd.find_none.1 h y List.mem_cons_self
    have hp : Nd.find pre k = none := by unfold Nd.find at h; rwa [if_neg hy] at h
    rw [List.cons_append, Nd.find, if_neg hy, ih hp]
theorem take_split {l : List En} {i : Nat} (h : i < l.length) : l = l.take i ++ l.getD i z0 :: l.drop (i + 1) := by
  conv => lhs; rw [← List.take_append_drop i l]
  rw [List.drop_eq_getElem_cons h]
  simp [List.getD, List.getElem?_eq_getElem h]
/-- What Find answers. -/
def Found (l : List En) (k : ByteArray) (w : World) (e : Ending) (w' : World) : Prop := e = .returned (.tuple #[.int .i64 ((Nd.find l k).getD 0), .bool (Nd.find l k).isSome]) ∧ Below w.heap.size w w'
set_option maxHeartbeats 2000000 in
theorem refFind_any (k m : Int) (d t : ByteArray) (a : Option Addr) (n cap : Nat) (l : List En) (nm : ByteArray) (w : World) (hE : Ents a n l w) (hn : n ≤ 1000000) :
    Calls Try.prog 14 #[nv k m d t a n cap, .string nm] w (Found l nm w) := by
  have hnl := hE.count
  have hni : (n : Int) ≤ 1000000 := by omega
  have HE := Lib.hid (fun W (hb : Below w.heap.size w W) => hE.below hb)
  have HNL := Lib.hid hnl
  clear hE hnl
  go_enter Try.func14, Try.ntmps14
  go_wp2_with fail
  go_loopw [6] (fun i wr => (∃ j : Nat, j ≤ n ∧ i = .int .i64 j ∧ Nd.find (l.take j) nm = none) ∧ wr.cell? ⟨w.heap.size, 4, none⟩ = some (.slice a n cap) ∧ Below w.heap.size w wr) (fun i _ => n - (intOf i).toNat)
  case atStart => exact ⟨⟨0, Nat.zero_le _, rfl, rfl⟩, by simp, (Below.refl _ w).alloc (Nat.le_refl _) _⟩
  case round =>
    obtain ⟨⟨j, hj, rfl, hf⟩, hc, hb⟩ := hrel
    by_cases hlt : j < n
    · have j0 : (j : Int) < (n : Int) := by omega
      have hj0 : (0 : Int) ≤ (j : Int) := by omega
      obtain ⟨b, off, rfl, c0, c1⟩ := (HE.out _ hb).cell j hlt
      have hsp := take_split (l := l) (i := j) (by rw [← HNL.out]; exact hlt)
      obtain ⟨x, hxe⟩ : ∃ x, x = l.getD j z0 := ⟨_, rfl⟩
      have HT := Lib.hid (show l.take (j + 1) = l.take j ++ [x] by rw [take_snoc (by rw [← HNL.out]; exact hlt) z0, ← hxe])
      rw [← hxe] at c0 c1 hsp
      clear hxe
      cases hx : alike x.1 nm
      · have HR := Lib.hid (show Nd.find (l.take (j + 1)) nm = none by
          rw [HT.out, find_snoc_other hf (fun e => by rw [alike_eq.2 e] at hx; cases hx) []]
          rfl)
        have HB := Lib.hid hb
        clear hf hsp hb
        go_wp2_with fail
        exact ⟨⟨⟨j + 1, by omega, by go_num, HR.out⟩, hc, HB.out⟩, by simp [intOf]; omega⟩
      · have HR := Lib.hid (show Nd.find l nm = some x.2 from (congrArg (Nd.find · nm) hsp).trans (find_snoc_same hf (alike_eq.1 hx) _))
        have HB := Lib.hid hb
        clear hf hsp hb
        go_wp2_with fail
        go_ret2
        show Found l nm w _ _
        unfold Found
        rw [HR.out]
        exact ⟨rfl, HB.out⟩
    · obtain rfl : j = n := by omega
      have HR := Lib.hid (show Nd.find l nm = none by rw [HNL.out, List.take_length] at hf; exact hf)
      have HB := Lib.hid hb
      clear hf hb
      go_wp2_with fail
      go_ret2
      show Found l nm w _ _
      unfold Found
      rw [HR.out]
      exact ⟨rfl, HB.out⟩
end Go.Proofs.Yteieehjggiiljaa
