/- Records gathered: 'append(x, got...)'; a reader fed piece by piece. -/
import Derived.Test.YtpolpgghdeljbaaAwake
import Derived.Maps.AppendAt
import Derived.Laws.OwnMore
namespace Go.Proofs.Ytpolpgghdeljbaa
open Go.RowKit Crc

theorem rcells_one {l : List Tlv.R} {u : Value} (h : u ∈ rcells l) : u.oneCell' = true := by
  unfold rcells at h
  obtain ⟨x, _, hu⟩ := List.mem_flatMap.1 h
  simp only [List.mem_cons, List.not_mem_nil, or_false] at hu
  rcases hu with rfl | rfl | rfl <;> rfl
/-- Records appended to records, at the operation. -/
theorem at_app_recs {ops : Array Oper} {rest : List Oper} {o : Oper} {a : Act} {Q : Exit → Act → World → Prop} {w : World} (hgd : o.guard = none) (sl x : Operand)
    (ho : o.op = .call { callee := .builtin .append, args := #[sl, x], argTypes := #[27, 27] }) (base B : Nat) (v : Value) (xs gs : List Tlv.R) (hs : a.eval sl = v) (hown : w.ownsRow base 38 3 v xs.length (rcells xs))
    (ao : Option Addr) (cap : Nat) (hx : a.eval x = .slice ao gs.length cap) (hgot : w.ownsRow B 38 3 (.slice ao gs.length cap) gs.length (rcells gs)) (hlen : xs.length + gs.length ≤ 1000000000) (hbase : base ≤ w.heap.size)
    (h : ∀ ao' cap' w', w'.ownsRow base 38 3 (.slice ao' (xs ++ gs).length cap') (xs ++ gs).length (rcells (xs ++ gs)) → w.grownBy w' v.ownBlock → wpList Try.prog ops Q rest (a.put o.dst (.slice ao' (xs ++ gs).length cap')) w') : wpList Try.prog ops Q (o :: rest) a w := by
  obtain ⟨i0, hi, hz0, hz1, hz2⟩ := info_parts info38
  refine wpList_plain hgd fun K hK => ?_
  have main : ∃ v' w', (Builtin.append_ #[27, 27] o.type #[v, .slice ao gs.length cap]).run Try.prog w = .ok v' w' ∧ w'.ownsRow base 38 3 v' (xs.length + gs.length) (rcells xs ++ rcells gs) ∧ w.grownBy w' v.ownBlock := by
    cases ao with
    | none =>
      rcases hgot.2 with ⟨e, hn⟩ | ⟨g, cap', cur, e, _⟩
      · injection e with _ _ e3
        subst e3
        have hg0 : gs = [] := List.eq_nil_of_length_eq_zero hn
        subst hg0
        refine ⟨v, w, run_append_owned_none (P := Try.prog) w base 27 o.type 38 i0 3 Try.underlying27 hi v xs.length (rcells xs) hown, ?_, World.grownBy.refl _ _⟩
        simpa [rcells] using hown
      · injection e with e; cases e
    | some ad =>
      obtain ⟨g, rfl⟩ : ∃ g, ad = ⟨g, 0, none⟩ := by
        rcases hgot.2 with ⟨e, _⟩ | ⟨g, cap', cur, e, _⟩
        · injection e with e; cases e
        · injection e with e; injection e with e; exact ⟨g, e⟩
      obtain ⟨v', w', h1, h2, h3, _⟩ := run_append_own_at (P := Try.prog) w base 27 o.type 38 i0 _ 3 32 Try.underlying27 hi hz0 hz1 hz2 rfl (by omega) v xs.length (rcells xs) hown ⟨g, 0, none⟩ gs.length cap (rcells gs) (rcells_length gs) (hgot.cells (g := g) rfl) (fun u hu => rcells_one hu) (by unfold maxLen; omega) (by omega) hbase
      exact ⟨v', w', h1, h2, h3⟩
  obtain ⟨v', w', hr, h2, h3⟩ := main
  obtain ⟨ao', cap', rfl⟩ := owns_form h2
  have hl : (xs ++ gs).length = xs.length + gs.length := List.length_append
  have hfin := h ao' cap' w' (by rw [hl, rcells_append]; exact h2) h3
  rw [hl] at hfin
  unfold Oper.wp execOp
  simp only [ho, resolve, invoke, builtin, Sem.run_bind, Sem.run_pure, Result.andThen_ok, List.map_toArray, List.map_cons, List.map_nil, hs, hx, hr]
  exact hK _ _ hfin

/-- A reader that is fed, and all that it has told: the readers r (fed c) and q, the records x, and others y. -/
structure Told (w0 : World) (B : Nat) (r q : Nat) (c : List UInt8) (t : Tlv.S) (ys : List Tlv.R) (wr : World) (v vq vx vy : Value) : Prop where
  rd : Rd wr r v (Tlv.feed 0 c).2
  other : Rd wr q vq t
  x : wr.ownsRow B 38 3 vx (Tlv.feed 0 c).1.length (rcells (Tlv.feed 0 c).1)
  y : wr.ownsRow w0.heap.size 38 3 vy ys.length (rcells ys)
  ylow : ∀ k, vy.ownBlock = some k → k < B
  apart : ∀ k, owned r v k → ¬ owned q vq k
  below : Below w0.heap.size w0 wr
  own : ∀ k, owned r v k → w0.heap.size ≤ k
  base : w0.heap.size ≤ B
  size : B ≤ wr.heap.size
theorem Told.next {w0 wr w1 w2 : World} {B r q : Nat} {c p : List UInt8} {t s' : Tlv.S} {gs ys : List Tlv.R} {v v' vq vx vx' vy : Value} (T : Told w0 B r q c t ys wr v vq vx vy)
    (hst : Tlv.step (Tlv.feed 0 c).2 p = (gs, s')) (D : Rd w1 r v' s') (U : Turn r wr w1 v v') (hg : w1.grownBy w2 vx.ownBlock)
    (hrow : w2.ownsRow B 38 3 vx' ((Tlv.feed 0 c).1 ++ gs).length (rcells ((Tlv.feed 0 c).1 ++ gs))) :
    Told w0 B r q (c ++ p) t ys w2 v' vq vx' vy := by
  have hw : Tlv.feed 0 (c ++ p) = ((Tlv.feed 0 c).1 ++ gs, s') := by rw [Tlv.step_whole, hst]
  have hx1 : w1.ownsRow B 38 3 vx _ _ := owns_kept T.x fun k hk => U.keep ⟨(T.x.lt k hk).2, fun ho => far T.rd T.x ho hk⟩
  have hy1 : w1.ownsRow w0.heap.size 38 3 vy _ _ := owns_kept T.y fun k hk => U.keep ⟨(T.y.lt k hk).2, fun ho => far T.rd T.y ho hk⟩
  have hq1 : Rd w1 q vq t := T.other.kept fun k hk => U.keep ⟨T.other.lt hk, fun ho => T.apart k ho hk⟩
  have nx : ∀ k, vx.ownBlock = some k → B ≤ k := fun k hk => (T.x.lt k hk).1
  refine ⟨?_, ?_, ?_, ?_, T.ylow, ?_, ?_, ?_, T.base, Nat.le_trans T.size (Nat.le_trans U.size hg.size)⟩
  · rw [hw]; exact D.kept fun k hk => hg.block k (D.lt hk) (fun e => far D hx1 hk e.symm)
  · exact hq1.kept fun k hk => hg.block k (hq1.lt hk) (fun e => far hq1 hx1 hk e.symm)
  · rw [hw]; exact hrow
  · exact owns_kept hy1 fun k hk => hg.block k (hy1.lt k hk).2 (fun e => by have := nx k e.symm; have := T.ylow k hk; omega)
  · intro k hk hq
    rcases U.own k hk with h | h
    · exact T.apart k h hq
    · have := T.other.lt hq; omega
  · exact (T.below.trans (U.below T.below.size T.own)).grown hg (Nat.le_trans T.below.size U.size) (fun k hk => Nat.le_trans T.base (nx k hk))
  · exact U.owns T.below.size T.own
/-- Feed, whatever it answers. -/
theorem feed_step {w : World} {r : Nat} {v : Value} {s : Tlv.S} (y : ByteArray) (D : Rd w r v s) (hlen : s.1.length + y.size ≤ 1000000000) :
    Calls Try.prog 9 #[ptr r, .string y] w fun e w' => ∃ ao cap v', e = .returned (.tuple #[.slice ao (Tlv.step s y.data.toList).1.length cap, .int .i64 (Tlv.step s y.data.toList).2.2.2]) ∧ w'.ownsRow w.heap.size 38 3 (.slice ao (Tlv.step s y.data.toList).1.length cap) (Tlv.step s y.data.toList).1.length (rcells (Tlv.step s y.data.toList).1) ∧ Rd w' r v' (Tlv.step s y.data.toList).2 ∧ Turn r w w' v v' := by
  refine (feed_any y D hlen).mono ?_
  rintro e w' ⟨ao, n, cap, v', he, hrow, hn, D', T'⟩
  subst hn
  exact ⟨ao, cap, v', he, hrow, D', T'⟩
end Go.Proofs.Ytpolpgghdeljbaa
