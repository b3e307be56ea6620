/- Rows of entries of the call's own, a node handed back. -/
import Derived.Test.YteieehjggiiljaaRefSame
import Derived.Laws.ResultCell
import Derived.Laws.Rows
import Derived.Laws.AppendOwn
import Derived.Laws.MakeOwn
namespace Go.Proofs.Yteieehjggiiljaa
set_option maxRecDepth 100000
open Go.RowKit Go.Less
theorem owns_form {w : World} {base : Nat} {e : TypeId} {size : Nat} {v : Value} {n : Nat} {xs : List Value} (h : w.ownsRow base e size v n xs) : ∃ a c, v = .slice a n c := by
  obtain ⟨_, ⟨rfl, rfl⟩ | ⟨g, cap, _, rfl, _⟩⟩ := h
  · exact ⟨_, _, rfl⟩
  · exact ⟨_, _, rfl⟩
theorem owns_lt {w : World} {base : Nat} {e : TypeId} {size : Nat} {v : Value} {n : Nat} {xs : List Value} (h : w.ownsRow base e size v n xs) : ∀ k, v.ownBlock = some k → base ≤ k := fun k hk => (World.ownsRow.lt h k hk).1
theorem owned_below {w w' : World} {base : Nat} {e : TypeId} {size : Nat} {v : Value} {n : Nat} {xs : List Value} (h : w.ownsRow base e size v n xs) (hb : Below w.heap.size w w') : w'.ownsRow base e size v n xs :=
  World.ownsRow.kept h (⟨hb.os, hb.tape, hb.output, hb.size, fun k hk _ => hb.block k hk⟩ : w.grownBy w' none) (by cases v.ownBlock <;> simp)
abbrev Own (base : Nat) (v : Value) (l : List En) (w : World) : Prop := w.ownsRow base 46 2 v l.length (erow l)
theorem own_nil (w : World) (base : Nat) : Own base (.slice none 0 0) [] w := ⟨rfl, .inl ⟨rfl, rfl⟩⟩
theorem info46 : (Try.prog.info? 46).map (fun i => (i.zero, i.size, i.bytes)) = some (some (.agg #[.string ⟨#[]⟩, .int .i64 0]), 2, 24) := by kernel_rfl
/-- One entry more, at the operation. -/
theorem at_ent {ops : Array Oper} {rest : List Oper} {o : Oper} {a : Act} {Q : Exit → Act → World → Prop} {w : World} (hgd : o.guard = none) (s x : Operand)
    (ho : o.op = .call { callee := .builtin .append, args := #[s, x], argTypes := #[22, 22] })
    (base : Nat) (v : Value) (l : List En) (hs : a.eval s = v) (hown : Own base v l w)
    (b : Nat) (u : En) (hx : a.eval x = .slice (some ⟨b, 0, none⟩) 1 1) (hc : w.heap[b]? = some (.cells #[.string u.1, .int .i64 u.2] 46 (0, 0))) (hn : l.length ≤ 1000000) (hbase : base ≤ w.heap.size)
    (h : ∀ ao' cap' w', Own base (.slice ao' (l.length + 1) cap') (l ++ [u]) w' → w.grownBy w' v.ownBlock → wpList Try.prog ops Q rest (a.put o.dst (.slice ao' (l.length + 1) cap')) w') :
    wpList Try.prog ops Q (o :: rest) a w := by
  obtain ⟨i0, hi, hz0, hz1, hz2⟩ := info_parts info46
  refine wpList_append_own w hgd s x 22 ho base 46 i0 (.agg #[.string ⟨#[]⟩, .int .i64 0]) 2 24 Try.underlying22 hi hz0 hz1 hz2 rfl (by decide) v l.length (erow l) hs hown ⟨b, 0, none⟩ 1 1 (ecell u) hx rfl ?_ ?_ (by unfold maxLen; omega) (by omega) hbase ?_
  · intro j y hj
    rw [show (⟨b, 0, none⟩ : Addr).add j = ⟨b, j, none⟩ by unfold Addr.add; split <;> simp_all]
    match j with
    | 0 => simp [ecell] at hj; subst hj; simp [World.cell?, hc]
    | 1 => simp [ecell] at hj; subst hj; simp [World.cell?, hc]
    | j + 2 => simp [ecell] at hj
  · intro y hy
    simp [ecell] at hy
    rcases hy with rfl | rfl <;> rfl
  · intro v' w' hown' hg _
    obtain ⟨ao', cap', rfl⟩ := owns_form hown'
    refine h ao' cap' w' ?_ hg
    unfold Own
    rw [List.length_append, erow_append]
    simpa [erow, ecell] using hown'
theorem size24 : (Try.prog.info? 24).map (·.size) = some 5 := by kernel_rfl
theorem results_nd {fn : Func} {p u : Tmp} (h : fn.results = #[.cell p 24, .tmp u]) (tmps : Array Value) (w : World) (g : Nat) (k m d t e : Value)
    (hp : tmps.getD p undef = .pointer (some ⟨g, 0, none⟩)) (hg : w.heap[g]? = some (.cells #[k, m, d, t, e] 24 (0, 0))) :
    (results fn tmps).run Try.prog w = .ok (.tuple #[.agg #[k, m, d, t, e], tmps.getD u undef]) w := by
  rw [results_cell_tmp h, hp]
  simp [asAddr, Result.andThen, run_loadVar_row (P := Try.prog) w g 24 24 #[k, m, d, t, e] (0, 0) _ hg Try.underlying24 rfl size24]
theorem cell_obj {w : World} {b : Nat} {cs : Array Value} {t : TypeId} {fr : Nat × Nat} (h : w.heap[b]? = some (.cells cs t fr)) (k : Nat) : w.cell? ⟨b, k, none⟩ = cs[k]? := by
  simp [World.cell?, h]
theorem free_obj {w : World} {b : Nat} {cs : Array Value} {t : TypeId} (h : w.heap[b]? = some (.cells cs t (0, 0))) (k : Nat) : w.frozen? ⟨b, k, none⟩ = false := by
  simp [World.frozen?, h]
theorem lt_of_obj {w : World} {b : Nat} {o : Obj} (h : w.heap[b]? = some o) : b < w.heap.size := (Array.getElem?_eq_some_iff.1 h).1
theorem grown_obj {w w' : World} {row : Option Nat} {b : Nat} {o : Obj} (hg : w.grownBy w' row) (h : w.heap[b]? = some o) (hne : some b ≠ row) : w'.heap[b]? = some o := (hg.block b (lt_of_obj h) hne).trans h
theorem cut_none {l : List En} {k : ByteArray} (h : Nd.find l k = none) : Nd.cut l k = l := by
  induction l with
  | nil => rfl
  | cons x l ih =>
    have hx : x.1 ≠ k := Nd.find_none.1 h x List.mem_cons_self
    have hl : Nd.find l k = none := by unfold Nd.find at h; rwa [if_neg hx] at h
    unfold Nd.cut; rw [if_neg hx, ih hl]
theorem cut_snoc (l : List En) (x : En) (k : ByteArray) : Nd.cut (l ++ [x]) k = if ((Nd.find l k).isSome || !alike x.1 k) = true then Nd.cut l k ++ [x] else Nd.cut l k := by
  induction l with
  | nil =>
    by_cases hx : x.1 = k
    · simp [Nd.cut, Nd.find, hx, alike]
    · simp [Nd.cut, Nd.find, hx, alike]
  | cons y l ih =>
    by_cases hy : y.1 = k
    · simp [Nd.cut, Nd.find, hy]
    · rw [List.cons_append, Nd.cut, if_neg hy, ih, Nd.cut, if_neg hy, Nd.find, if_neg hy]
      split <;> rfl
theorem find_snoc (l : List En) (x : En) (k : ByteArray) : (Nd.find (l ++ [x]) k).isSome = ((Nd.find l k).isSome || alike x.1 k) := by
  induction l with
  | nil =>
    by_cases hx : x.1 = k
    · simp [Nd.find, hx, alike]
    · simp [Nd.find, hx, alike]
  | cons y l ih =>
    by_cases hy : y.1 = k
    · simp [Nd.find, hy]
    · rw [List.cons_append, Nd.find, if_neg hy, ih, Nd.find, if_neg hy]
theorem cut_len (l : List En) (k : ByteArray) : (Nd.cut l k).length ≤ l.length := (Nd.cut_sub l k).length_le
/-- A node handed back, with an error's number. -/
def Noded (r : Nd.Node × Int) (w : World) (e : Ending) (w' : World) : Prop :=
  ∃ a cap, e = .returned (.tuple #[nv r.1.kind r.1.mode r.1.data r.1.target a r.1.ents.length cap, .int .i64 r.2]) ∧ Ents a r.1.ents.length r.1.ents w' ∧ Below w.heap.size w w'
end Go.Proofs.Yteieehjggiiljaa
