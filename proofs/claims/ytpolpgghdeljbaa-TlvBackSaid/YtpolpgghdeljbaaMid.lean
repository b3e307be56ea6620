/- tlv.Feed. -/
import Derived.Test.YtpolpgghdeljbaaTakeNext
import Derived.ScopeJumps
namespace Go.Proofs.Ytpolpgghdeljbaa
open Go.RowKit Crc

/-- Records as cells. -/
def rcells (l : List Tlv.R) : List Value := l.flatMap fun x => (rc x).toList
theorem rcells_append (a b : List Tlv.R) : rcells (a ++ b) = rcells a ++ rcells b := by unfold rcells; rw [List.flatMap_append]
theorem rcells_length (l : List Tlv.R) : (rcells l).length = l.length * 3 := by
  induction l with
  | nil => rfl
  | cons x l ih =>
    have : (rcells (x :: l)).length = 3 + (rcells l).length := by
      show ((rc x).toList ++ rcells l).length = _
      rw [List.length_append]; rfl
    rw [this, ih, List.length_cons]; omega
theorem info38 : (Try.prog.info? 38).map (fun i => (i.zero, i.size, i.bytes)) = some (some (.agg #[.int .i64 0, .int .i64 0, .string ⟨#[]⟩]), 3, 32) := by kernel_rfl
theorem owns_kept {w w' : World} {B : Nat} {e : TypeId} {size : Nat} {v : Value} {n : Nat} {xs : List Value} (h : w.ownsRow B e size v n xs) (hk : ∀ k, v.ownBlock = some k → w'.heap[k]? = w.heap[k]?) : w'.ownsRow B e size v n xs := by
  refine ⟨h.1, ?_⟩
  rcases h.2 with hn | ⟨g, cap, cur, rfl, hb, hg, rest⟩
  · exact .inl hn
  · exact .inr ⟨g, cap, cur, rfl, hb, (hk g rfl).trans hg, rest⟩
theorem owns_below {w w' : World} {B : Nat} {e : TypeId} {size : Nat} {v : Value} {n : Nat} {xs : List Value} (h : w.ownsRow B e size v n xs) (hb : Below w.heap.size w w') : w'.ownsRow B e size v n xs :=
  owns_kept h fun k hk => hb.block k (h.lt k hk).2
theorem owns_form {w : World} {B : Nat} {e : TypeId} {size : Nat} {v : Value} {n : Nat} {xs : List Value} (h : w.ownsRow B e size v n xs) : ∃ ao cap, v = .slice ao n cap := by
  rcases h.2 with ⟨rfl, rfl⟩ | ⟨g, cap, cur, rfl, _⟩
  · exact ⟨none, 0, rfl⟩
  · exact ⟨_, _, rfl⟩
theorem far {w : World} {r : Nat} {v vr : Value} {s : Tlv.S} {B n : Nat} {xs : List Value} (D : Rd w r v s) (h : w.ownsRow B 38 3 vr n xs) {k : Nat} (hk : owned r v k) : vr.ownBlock ≠ some k := fun e => by
  obtain ⟨p, D⟩ := D
  rcases h.2 with ⟨rfl, _⟩ | ⟨g, cap, cur, rfl, _, hg, _⟩
  · cases e
  · injection e with e
    have e' : g = k := e
    subst e'
    rcases hk with rfl | hk
    · rw [D.cells] at hg; injection hg with hg; injection hg with _ h2 _; cases h2
    · rcases D.row.2 with ⟨rfl, _⟩ | ⟨g2, cap2, cur2, fz, rfl, _, hg2, _⟩
      · cases hk
      · injection hk with hk
        have hk' : g2 = g := hk
        subst hk'
        rw [hg2] at hg; injection hg with hg; injection hg with _ h2 _; cases h2

/-- Within the loop: what is read so far, what is left. -/
structure Mid (w0 : World) (r : Nat) (v0 : Value) (all : List UInt8) (n0 : Int) (wr : World) (v : Value) (n : Int) (l : List UInt8) (rs : List Tlv.R) (vr : Value) : Prop where
  rd : Rd wr r v (all, n, 0)
  turn : Turn r w0 wr v0 v
  row : wr.ownsRow w0.heap.size 38 3 vr rs.length (rcells rs)
  spec : Tlv.feed n0 all = (rs ++ (Tlv.feed n l).1, (Tlv.feed n l).2)
  tail : ∃ k, l = all.drop k
section
variable {w0 wr : World} {r : Nat} {v0 v vr : Value} {all l : List UInt8} {n0 n : Int} {rs : List Tlv.R}
theorem Mid.short (M : Mid w0 r v0 all n0 wr v n l rs vr) : l.length ≤ all.length := by obtain ⟨k, rfl⟩ := M.tail; rw [List.length_drop]; omega
theorem Mid.whole (M : Mid w0 r v0 all n0 wr v n l rs vr) (h : l.length = all.length) : l = all := by
  obtain ⟨k, rfl⟩ := M.tail
  rw [List.length_drop] at h
  rcases Nat.eq_zero_or_pos k with rfl | hk
  · rfl
  · rw [List.eq_nil_of_length_eq_zero (show all.length = 0 by omega)]; simp
theorem Mid.few (M : Mid w0 r v0 all n0 wr v n l rs vr) : 11 * rs.length ≤ all.length := by
  have := Tlv.feed_count all.length all n0 (Nat.le_refl _)
  rw [M.spec, List.length_append] at this
  omega
theorem Mid.below (M : Mid w0 r v0 all n0 wr v n l rs vr) {w' : World} (hb : Below wr.heap.size wr w') : Mid w0 r v0 all n0 w' v n l rs vr :=
  ⟨M.rd.below hb, M.turn.trans (Turn.of_below _ hb), owns_below M.row hb, M.spec, M.tail⟩
theorem Mid.le (M : Mid w0 r v0 all n0 wr v n l rs vr) : w0.heap.size ≤ wr.heap.size := M.turn.size
/-- One record more. -/
theorem Mid.more (M : Mid w0 r v0 all n0 wr v n l rs vr) (he : (Tlv.takeNext n l).2.2 = 0) {w1 : World} {vr' : Value} (hrow : w1.ownsRow w0.heap.size 38 3 vr' (rs.length + 1) (rcells rs ++ (rc (Tlv.takeNext n l).1).toList)) (hg : wr.grownBy w1 vr.ownBlock) :
    Mid w0 r v0 all n0 (w1.setCell ⟨r, 2, none⟩ (.int .i64 (n + 1))) v (n + 1) (l.drop (Tlv.takeNext n l).2.1) (rs ++ [(Tlv.takeNext n l).1]) vr' ∧ w1.cell? ⟨r, 2, none⟩ = some (.int .i64 n) ∧ w1.frozen? ⟨r, 2, none⟩ = false := by
  have hfar : ∀ k, owned r v k → w1.heap[k]? = wr.heap[k]? := fun k hk => hg.block k (M.rd.lt hk) (fun e => far M.rd M.row hk e.symm)
  obtain ⟨p, D⟩ := M.rd.kept hfar
  have D2 := D.write 2 (.int .i64 (n + 1)) p v (all, n + 1, 0) rfl D.row D.pv D.addr
  have hl : (rs ++ [(Tlv.takeNext n l).1]).length = rs.length + 1 := by simp
  have hne : vr'.ownBlock ≠ some r := far ⟨p, D⟩ hrow (.inl rfl)
  refine ⟨⟨⟨p, D2⟩, ?_, ?_, ?_, ?_⟩, D.c2, D.free 2⟩
  · have T1 : Turn r w0 w1 v0 v := ⟨hg.os.trans M.turn.os, hg.tape.trans M.turn.tape, hg.output.trans M.turn.output, Nat.le_trans M.le hg.size,
      fun k hk ho => (hg.block k (Nat.lt_of_lt_of_le hk M.le) (fun e => by have := (M.row.lt k e.symm).1; omega)).trans (M.turn.block k hk ho), M.turn.own⟩
    exact T1.trans (turn_setCell _ _ _ _ _ _ fun _ h => .inl h)
  · rw [hl, rcells_append]
    exact owns_kept hrow fun k hk => setCell_other w1 r 2 _ (fun e => hne (by rw [hk, e]))
  · rw [M.spec, Tlv.feed_ok he]; simp
  · obtain ⟨k, rfl⟩ := M.tail
    exact ⟨k + (Tlv.takeNext n (all.drop k)).2.1, by rw [List.drop_drop]⟩
end
/-- A record that is taken bears the next number. -/
theorem next_ok {n : Int} {l : List UInt8} (h : (Tlv.takeNext n l).2.2 = 0) : 0 ≤ n ∧ n ≤ 2147483647 := by
  unfold Tlv.takeNext at h
  split at h
  · simp at h
  · rename_i hc
    have hn : (Tlv.take l).1.2.1 = n := Decidable.byContradiction fun e => hc (.inr ⟨h, e⟩)
    rw [← hn]
    unfold Tlv.take at h ⊢
    split at h
    · simp at h
    · rename_i h1
      rw [if_neg h1]
      split at h
      · simp at h
      · rename_i h2
        rw [if_neg h2]
        split at h
        · simp at h
        · rename_i h3
          rw [if_neg h3]
          split at h
          · rename_i h4
            rw [if_pos h4]
            unfold Tlv.rec_ at h ⊢
            split at h
            · simp at h
            · rename_i h5
              rw [if_neg h5]
              split at h
              · simp at h
              · rename_i h6
                rw [if_neg h6]
                simp only
                omega
          · simp at h
def strSize : Value → Nat
  | .string x => x.size
  | _ => 0
/-- What Feed leaves. -/
def Fed (w : World) (r : Nat) (v : Value) (s : Tlv.S) (y : ByteArray) (e : Ending) (w' : World) : Prop :=
  ∃ ao n cap v', e = .returned (.tuple #[.slice ao n cap, .int .i64 (Tlv.step s y.data.toList).2.2.2]) ∧ w'.ownsRow w.heap.size 38 3 (.slice ao n cap) n (rcells (Tlv.step s y.data.toList).1) ∧ n = (Tlv.step s y.data.toList).1.length ∧ Rd w' r v' (Tlv.step s y.data.toList).2 ∧ Turn r w w' v v'
variable {w : World} {r : Nat} {v : Value} {s : Tlv.S}
set_option maxRecDepth 100000 in
set_option maxHeartbeats 4000000 in
theorem feed_wrong_any (y : ByteArray) (D : Rd w r v s) (h0 : s.2.2 ≠ 0) : Calls Try.prog 9 #[ptr r, .string y] w (Fed w r v s y) := by
  have hst : Tlv.step s y.data.toList = ([], s) := by unfold Tlv.step; rw [if_pos h0]
  unfold Fed
  rw [hst]
  have c3 := D.c3
  have HD := Lib.hid D
  clear D hst
  go_enter Try.func9, Try.ntmps9
  go_wp2
  refine scope_jumps2 0 (fun _ _ => False) (fun _ _ => 0) rfl (fun _ _ h => h.elim) fun _ => ?_
  go_wp2
  go_quiet (fail)
  go_wp2
  simp only [Exit.jump]
  go_ret2
  exact ⟨none, 0, 0, v, rfl, World.ownsRow_nil _ _ _ _, rfl, HD.out.kept fun _ _ => rfl, Turn.of_below _ (below_drewN (Below.refl _ _) nq)⟩
end Go.Proofs.Ytpolpgghdeljbaa
