/- The contracts once more, in the form in which the laws ask them: answers named ahead. -/
import Derived.Test.YteieehjggiiljaaAwake
namespace Go.Proofs.Yteieehjggiiljaa
set_option maxRecDepth 100000
open Go.RowKit Go.Less
theorem sameN_self (k m : Int) (d t : ByteArray) (l : List En) : sameN k m d t l k m d t l = true := by
  unfold sameN; simp [alike_eq]
theorem sameN_iff {k m : Int} {d t : ByteArray} {l : List En} {k' m' : Int} {d' t' : ByteArray} {l' : List En} : sameN k m d t l k' m' d' t' l' = true ↔ (⟨k, m, d, t, l⟩ : Nd.Node) = ⟨k', m', d', t', l'⟩ := by
  unfold sameN
  simp only [Bool.and_eq_true, alike_eq, decide_eq_true_eq, beq_iff_eq, Nd.Node.mk.injEq, and_assoc]
theorem ndr_right {k m : Int} {d t : ByteArray} {l : List En} : ndr k m d t l = true ↔ Nd.Right less Nm.right ⟨k, m, d, t, l⟩ := Nd.right_iff _
theorem parseR_right {s : List UInt8} {x : Nd.Node} (h : parseR s = (x, 0)) : Nd.Right less Nm.right x ∧ Nd.text x = s := by
  unfold parseR at h
  cases hp : Nd.parse less Nm.right s with
  | none => rw [hp] at h; injection h with _ h; cases h
  | some y =>
    rw [hp] at h
    injection h with h _
    subst h
    exact ⟨(Nd.text_parse hp).2, (Nd.text_parse hp).1⟩
theorem parseR_len {s : List UInt8} {x : Nd.Node} {c : Int} (h : parseR s = (x, c)) : x.ents.length ≤ 64 := by
  unfold parseR at h
  cases hp : Nd.parse less Nm.right s with
  | none => rw [hp] at h; injection h with h _; subst h; decide
  | some y =>
    rw [hp] at h
    injection h with h _
    subst h
    exact (Nd.text_parse hp).2.len
theorem withE_len {x y : Nd.Node} {nm : ByteArray} {i c : Int} (h : Nd.withE less Nm.right x nm i = (y, c)) : y.ents.length ≤ 64 := by
  unfold Nd.withE at h
  repeat' split at h
  all_goals (injection h with h _; subst h)
  · decide
  · decide
  · decide
  · decide
  · show (Nd.ins less x.ents nm i).length ≤ 64; rw [Nd.len_ins]; omega
theorem withoutE_len {x y : Nd.Node} {nm : ByteArray} {c : Int} (h : Nd.withoutE x nm = (y, c)) : y.ents.length ≤ x.ents.length := by
  unfold Nd.withoutE at h
  repeat' split at h
  all_goals (injection h with h _; subst h)
  · exact Nat.zero_le _
  · exact Nat.zero_le _
  · exact (Nd.cut_sub x.ents nm).length_le
section
variable {k m : Int} {d t : ByteArray} {a : Option Addr} {n c : Nat} {l : List En} {k' m' : Int} {d' t' : ByteArray} {a' : Option Addr} {n' c' : Nat} {l' : List En} {nm : ByteArray} {i : Int} {b : Bool} {r : Int}
theorem q_few (W : World) (hE : Ents a n l W) (hf : n ≤ 140737488355328) (hs : ∀ j, j < n → (l.getD j z0).1.size ≤ 140737488355328) (hd : d.size ≤ 140737488355328) (ht : t.size ≤ 140737488355328) (h : fewB d t l = b) :
    Calls Try.prog 8 #[nv k m d t a n c] W fun e w' => e = .returned (.bool b) ∧ Below W.heap.size W w' := h ▸ few_any k m d t a n c l W ⟨hE, hf, hs⟩ hd ht
theorem q_print (W : World) (hE : Ents a n l W) (S : Small d t n l) {u : ByteArray} (h : prt ⟨k, m, d, t, l⟩ = (u, r)) :
    Calls Try.prog 9 #[nv k m d t a n c] W fun e w' => e = .returned (.tuple #[.string u, .int .i64 r]) ∧ Below W.heap.size W w' := by
  have H := print_any k m d t a n c l W hE (Nat.le_trans S.n80 (by decide)) (S.at hE.count)
  unfold Printed at H; rw [h] at H; exact H
theorem q_rprint (W : World) (hE : Ents a n l W) (S : Small d t n l) {u : ByteArray} (h : prt ⟨k, m, d, t, l⟩ = (u, r)) :
    Calls Try.prog 10 #[nv k m d t a n c] W fun e w' => e = .returned (.tuple #[.string u, .int .i64 r]) ∧ Below W.heap.size W w' := by
  have H := refPrint_any k m d t a n c l W hE (Nat.le_trans S.n80 (by decide)) (S.at hE.count)
  unfold Printed at H; rw [h] at H; exact H
theorem q_parse (W : World) {s : ByteArray} (hs : s.size ≤ 100000) (h : parseR s.data.toList = (⟨k, m, d, t, l⟩, r)) (hn : l.length = n) :
    Calls Try.prog 11 #[.string s] W fun e w' => ∃ a c, e = .returned (.tuple #[nv k m d t a n c, .int .i64 r]) ∧ Ents a n l w' ∧ Below W.heap.size W w' := by
  have H := parse_any s W hs
  unfold Noded at H; rw [h] at H; subst hn; exact H
theorem q_rparse (W : World) {s : ByteArray} (hs : s.size ≤ 100000) (h : parseR s.data.toList = (⟨k, m, d, t, l⟩, r)) (hn : l.length = n) :
    Calls Try.prog 12 #[.string s] W fun e w' => ∃ a c, e = .returned (.tuple #[nv k m d t a n c, .int .i64 r]) ∧ Ents a n l w' ∧ Below W.heap.size W w' := by
  have H := refParse_any s W hs
  unfold Noded at H; rw [h] at H; subst hn; exact H
theorem q_find (W : World) (hE : Ents a n l W) (hn : n ≤ 1000000) (hi : (Nd.find l nm).getD 0 = i) (hb : (Nd.find l nm).isSome = b) :
    Calls Try.prog 13 #[nv k m d t a n c, .string nm] W fun e w' => e = .returned (.tuple #[.int .i64 i, .bool b]) ∧ Below W.heap.size W w' := by
  have H := find_any k m d t a n c l nm W hE hn
  unfold Found at H; rw [hi, hb] at H; exact H
theorem q_rfind (W : World) (hE : Ents a n l W) (hn : n ≤ 1000000) (hi : (Nd.find l nm).getD 0 = i) (hb : (Nd.find l nm).isSome = b) :
    Calls Try.prog 14 #[nv k m d t a n c, .string nm] W fun e w' => e = .returned (.tuple #[.int .i64 i, .bool b]) ∧ Below W.heap.size W w' := by
  have H := refFind_any k m d t a n c l nm W hE hn
  unfold Found at H; rw [hi, hb] at H; exact H
theorem q_with (W : World) (hE : Ents a n l W) (S : Small d t n l) (hm : nm.size ≤ 100000) (h : Nd.withE less Nm.right ⟨k, m, d, t, l⟩ nm i = (⟨k', m', d', t', l'⟩, r)) (hn : l'.length = n') :
    Calls Try.prog 15 #[nv k m d t a n c, .string nm, .int .i64 i] W fun e w' => ∃ a c, e = .returned (.tuple #[nv k' m' d' t' a n' c, .int .i64 r]) ∧ Ents a n' l' w' ∧ Below W.heap.size W w' := by
  have H := with_any k m d t a n c l nm i W hE (Nat.le_trans S.n80 (by decide)) (S.at hE.count) (Nat.le_trans S.d5 (by decide)) (Nat.le_trans S.t5 (by decide)) hm
  unfold Noded at H; rw [h] at H; subst hn; exact H
theorem q_rwith (W : World) (hE : Ents a n l W) (S : Small d t n l) (hm : nm.size ≤ 100000) (h : Nd.withE less Nm.right ⟨k, m, d, t, l⟩ nm i = (⟨k', m', d', t', l'⟩, r)) (hn : l'.length = n') :
    Calls Try.prog 16 #[nv k m d t a n c, .string nm, .int .i64 i] W fun e w' => ∃ a c, e = .returned (.tuple #[nv k' m' d' t' a n' c, .int .i64 r]) ∧ Ents a n' l' w' ∧ Below W.heap.size W w' := by
  have H := refWith_any k m d t a n c l nm i W hE (Nat.le_trans S.n80 (by decide)) (Nat.le_trans hm (by decide))
  unfold Noded at H; rw [h] at H; subst hn; exact H
theorem q_wout (W : World) (hE : Ents a n l W) (S : Small d t n l) (h : Nd.withoutE ⟨k, m, d, t, l⟩ nm = (⟨k', m', d', t', l'⟩, r)) (hn : l'.length = n') :
    Calls Try.prog 17 #[nv k m d t a n c, .string nm] W fun e w' => ∃ a c, e = .returned (.tuple #[nv k' m' d' t' a n' c, .int .i64 r]) ∧ Ents a n' l' w' ∧ Below W.heap.size W w' := by
  have H := without_any k m d t a n c l nm W hE (Nat.le_trans S.n80 (by decide)) (S.at hE.count) (Nat.le_trans S.d5 (by decide)) (Nat.le_trans S.t5 (by decide))
  unfold Noded at H; rw [h] at H; subst hn; exact H
theorem q_rwout (W : World) (hE : Ents a n l W) (S : Small d t n l) (h : Nd.withoutE ⟨k, m, d, t, l⟩ nm = (⟨k', m', d', t', l'⟩, r)) (hn : l'.length = n') :
    Calls Try.prog 18 #[nv k m d t a n c, .string nm] W fun e w' => ∃ a c, e = .returned (.tuple #[nv k' m' d' t' a n' c, .int .i64 r]) ∧ Ents a n' l' w' ∧ Below W.heap.size W w' := by
  have H := refWithout_any k m d t a n c l nm W hE (Nat.le_trans S.n80 (by decide))
  unfold Noded at H; rw [h] at H; subst hn; exact H
theorem q_node (W : World) (hE : Ents a n l W) (S : Small d t n l) (h : ndr k m d t l = b) :
    Calls Try.prog 19 #[nv k m d t a n c] W fun e w' => e = .returned (.bool b) ∧ Below W.heap.size W w' :=
  h ▸ node_any k m d t a n c l W hE (Nat.le_trans S.n80 (by decide)) (S.at hE.count)
theorem q_rnode (W : World) (hE : Ents a n l W) (S : Small d t n l) (h : ndr k m d t l = b) :
    Calls Try.prog 20 #[nv k m d t a n c] W fun e w' => e = .returned (.bool b) ∧ Below W.heap.size W w' :=
  h ▸ refNode_any k m d t a n c l W hE (Nat.le_trans S.n80 (by decide)) (S.at hE.count)
theorem q_same (W : World) (hE : Ents a n l W) (hE' : Ents a' n' l' W) (hn : n ≤ 80) (hn' : n' ≤ 80) (h : sameN k m d t l k' m' d' t' l' = b) :
    Calls Try.prog 21 #[nv k m d t a n c, nv k' m' d' t' a' n' c'] W fun e w' => e = .returned (.bool b) ∧ Below W.heap.size W w' :=
  h ▸ same_any k m d t a n c l k' m' d' t' a' n' c' l' W hE hE' (Nat.le_trans hn (by decide)) (Nat.le_trans hn' (by decide))
theorem q_rsame (W : World) (hE : Ents a n l W) (hE' : Ents a' n' l' W) (hn : n ≤ 80) (hn' : n' ≤ 80) (h : sameN k m d t l k' m' d' t' l' = b) :
    Calls Try.prog 22 #[nv k m d t a n c, nv k' m' d' t' a' n' c'] W fun e w' => e = .returned (.bool b) ∧ Below W.heap.size W w' :=
  h ▸ refSame_any k m d t a n c l k' m' d' t' a' n' c' l' W hE hE' (Nat.le_trans hn (by decide)) (Nat.le_trans hn' (by decide))
end
end Go.Proofs.Yteieehjggiiljaa
