/- The document's Join. -/
import Derived.Test.YtheobkepoocamaaGreatDoorRefSum
import Derived.Deep.RegionLaw
import Derived.Deep.AppendLies
namespace Go.Proofs.YtheobkepoocamaaGreatDoor
set_option maxRecDepth 100000
open Go.RowKit Sha
attribute [local go_sem 9000] run_bytes1
theorem info9' : (Tryz.prog.info? 9).map (fun i => (i.zero, i.size, i.bytes)) = some (some (.string ⟨#[]⟩), 1, 16) := by kernel_rfl
/-- The call's own texts. -/
def Texts (base : Nat) (v : Value) (l : List ByteArray) (w : World) : Prop := w.ownsRow base 9 1 v l.length (l.map Value.string)
theorem Texts.below {base : Nat} {v : Value} {l : List ByteArray} {w w' : World} (h : Texts base v l w) (hb : Below w.heap.size w w') : Texts base v l w' :=
  World.ownsRow.kept h (⟨hb.os, hb.tape, hb.output, hb.size, fun k hk _ => hb.block k hk⟩ : w.grownBy w' none) (by cases v.ownBlock <;> simp)
/-- A text in a block of its own. -/
def Lone (b : Nat) (y : ByteArray) (w : World) : Prop := w.cell? ⟨b, 0, none⟩ = some (.string y)
theorem step_app {ops : Array Oper} {o : Oper} {a : Act} {w : World} {K : Act → World → Prop} {Q : Exit → Act → World → Prop} {E : Prop} (hgd : o.guard = none) (s x : Operand)
    (ho : o.op = .call { callee := .builtin .append, args := #[s, x], argTypes := #[30, 30] }) (base : Nat) (l : List ByteArray) (v : Value) (hs : a.eval s = v) (hown : Texts base v l w)
    (b : Nat) (y : ByteArray) (hx : a.eval x = .slice (some ⟨b, 0, none⟩) 1 1) (hc : w.cell? ⟨b, 0, none⟩ = some (.string y)) (hl : l.length ≤ 100000) (hbase : base ≤ w.heap.size)
    (h : ∀ v' w', Texts base v' (l ++ [y]) w' → w.grownBy w' v.ownBlock → K (a.put o.dst v') w') :
    if Region.wanted o (yielded ops a.tmps) = true then Oper.wp Tryz.prog o a w K Q else E := by
  have hw : Region.wanted o (yielded ops a.tmps) = true := by simp [Region.wanted, hgd]
  rw [if_pos hw]
  obtain ⟨i0, hi, hz0, hz1, hz2⟩ := info_parts info9'
  refine wp_append_own w s x 30 ho base 9 i0 (.string ⟨#[]⟩) 1 16 Tryz.underlying30 hi hz0 hz1 hz2 rfl (by decide) v l.length (l.map Value.string) hs hown ⟨b, 0, none⟩ 1 1 [.string y] hx rfl ?_ ?_ (by unfold maxLen; omega) (by omega) hbase ?_
  · intro j u hj
    match j with
    | 0 => simp at hj; subst hj; simpa [Addr.add] using hc
    | j + 1 => simp at hj
  · intro u hu; simp at hu; subst hu; rfl
  · intro v' w' hown' hg _
    refine h v' w' ?_ hg
    unfold Texts
    rw [List.length_append, List.map_append]
    exact hown'

/-- The texts that stand in the row behind k rounds. -/
def rowOf (t : UInt8) (ss : List ByteArray) : List ByteArray := ⟨#[t]⟩ :: ss.flatMap fun s => [numStr s.size 4, s]
theorem rowOf_take_succ (t : UInt8) (ss : List ByteArray) (k : Nat) (h : k < ss.length) : rowOf t (ss.take (k + 1)) = (rowOf t (ss.take k) ++ [numStr (ss.getD k ByteArray.empty).size 4]) ++ [ss.getD k ByteArray.empty] := by
  rw [List.take_succ_eq_append_getElem h]
  unfold rowOf
  rw [List.flatMap_append]
  simp [List.getD, List.getElem?_eq_getElem h]
theorem rowOf_length (t : UInt8) (ss : List ByteArray) : (rowOf t ss).length = 1 + 2 * ss.length := by
  unfold rowOf
  rw [List.length_cons]
  induction ss with
  | nil => rfl
  | cons x ss ih => rw [List.flatMap_cons, List.length_append, List.length_cons]; simp at ih ⊢; omega
theorem cat_pairs (ss : List ByteArray) : cat (ss.flatMap fun s => [numStr s.size 4, s]) = joined ss := by
  induction ss with
  | nil => rfl
  | cons x ss ih =>
    have e1 : (x :: ss).flatMap (fun s => [numStr s.size 4, s]) = numStr x.size 4 :: x :: ss.flatMap (fun s => [numStr s.size 4, s]) := rfl
    have e2 : ∀ (y : ByteArray) l, cat (y :: l) = y.data.toList ++ cat l := fun _ _ => rfl
    have e3 : joined (x :: ss) = (num x.size 4 ++ x.data.toList) ++ joined ss := rfl
    rw [e1, e2, e2, ih, e3, numStr_data, List.append_assoc]
theorem cat_rowOf (t : UInt8) (ss : List ByteArray) : cat (rowOf t ss) = t :: joined ss := by
  rw [← cat_pairs]; rfl
theorem cell_second (w : World) (A : Obj) (c : Array Value) (t : TypeId) (i : Nat) : ((w.alloc A).alloc (.cells c t)).cell? ⟨w.heap.size + 1, i, none⟩ = c[i]? := by
  have := World.cell?_alloc_new (w.alloc A) c t i
  rwa [World.size_alloc] at this
theorem lone_grown {w w3 : World} {row : Option Nat} {b : Nat} {y : ByteArray} (hg : w.grownBy w3 row) (hc : w.cell? ⟨b, 0, none⟩ = some (.string y)) (hne : some b ≠ row) : w3.cell? ⟨b, 0, none⟩ = some (.string y) := hg.cell hc hne

theorem ownsRow_shape' {w : World} {base : Nat} {e : TypeId} {size : Nat} {v : Value} {n : Nat} {xs : List Value} (h : w.ownsRow base e size v n xs) : ∃ a c, v = .slice a n c := by
  obtain ⟨_, ⟨rfl, rfl⟩ | ⟨g, cap, cur, rfl, _⟩⟩ := h
  · exact ⟨none, 0, rfl⟩
  · exact ⟨_, cap, rfl⟩
theorem strs_owned {base : Nat} {v : Value} {n : Nat} {ss : List ByteArray} {w : World} (h : w.ownsRow base 9 1 v n (ss.map Value.string)) (hn : n = ss.length) : ∃ a c, v = .slice a n c ∧ Strs a n ss w := by
  obtain ⟨a, c, rfl⟩ := ownsRow_shape' h
  refine ⟨a, c, rfl, hn, fun i hi => ?_⟩
  have h2 := h
  obtain ⟨_, ⟨e, h0⟩ | ⟨g, cap, cur, e, _⟩⟩ := h
  · omega
  · injection e with e1 e2 e3
    subst e1
    refine ⟨g, 0, rfl, ?_⟩
    rw [Nat.zero_add, World.ownsRow.cellAt h2 i (by omega), List.getElem?_map, List.getElem?_eq_getElem (by omega)]
    simp [List.getD, List.getElem?_eq_getElem (show i < ss.length by omega)]
theorem texts_start (w : World) (t : UInt8) : Texts w.heap.size (.slice (some ⟨w.heap.size + 1, 0, none⟩) 1 1) (rowOf t []) ((w.alloc (.cells #[bv t] 5)).alloc (.cells #[.string ⟨#[t]⟩] 9)) := by
  refine ⟨rfl, .inr ⟨w.heap.size + 1, 1, #[.string ⟨#[t]⟩], rfl, Nat.le_succ _, heap_alloc2_new w _ _, Nat.le_refl _, by decide, rfl, rfl⟩⟩
set_option maxRecDepth 100000 in
set_option maxHeartbeats 20000000 in
theorem refJoin_any (t : UInt8) (a0 : Option Addr) (len cap0 : Nat) (ss : List ByteArray) (w : World) (hS : Strs a0 len ss w) (hsz : 1 + (joined ss).length ≤ 1000000) (hlen : len ≤ 1000) :
    Calls Tryz.prog 42 #[bv t, .slice a0 len cap0] w fun e w' => e = .returned (.string (lstr (sha (t :: joined ss)))) ∧ Below w.heap.size w w' := by
  go_enter Tryz.func42, Tryz.ntmps42
  go_wp2_with fail
  go_loopw [5, 6] (fun v i wr => ∃ k : Nat, k ≤ len ∧ i = .int .i64 k ∧ Texts w.heap.size v (rowOf t (ss.take k)) wr ∧ Below w.heap.size w wr) (fun _ i _ => len - (intOf i).toNat)
  case atStart => exact ⟨0, by omega, rfl, texts_start w t, ((Below.refl _ _).alloc (Nat.le_refl _) _).alloc (by simp) _⟩
  case round =>
    obtain ⟨k, hk, rfl, hO, hW⟩ := hrel
    by_cases hlt : k < len
    · obtain ⟨b, off, rfl, hcell⟩ := hS.cell k hlt
      have hc : wr.cell? ⟨b, off + k, none⟩ = some (.string (ss.getD k ByteArray.empty)) := (hW.cell (p := ⟨b, off + k, none⟩) (block_lt_of_cell hcell)).trans hcell
      have hbl := block_lt_of_cell hc
      have hks : k < ss.length := by rw [← hS.count]; exact hlt
      have hle := joined_le ss (k + 1)
      rw [joined_take_succ ss k hks, List.length_append, List.length_append, num_length] at hle
      have HC := Lib.hid (rowOf_take_succ t ss k hks)
      generalize ss.getD k ByteArray.empty = x at hc hle HC
      have hxl : x.data.toList.length = x.size := Array.length_toList
      have hx : x.size ≤ 1000000 := by omega
      have hk0 : (k : Int) < (len : Int) := by omega
      have hx0 : (0 : Int) ≤ (x.size : Int) := by omega
      have hll := rowOf_length t (ss.take k)
      rw [List.length_take] at hll
      have hll2 : (rowOf t (ss.take k)).length ≤ 3000 := by omega
      clear hle hxl hll
      have hbw : b < w.heap.size := block_lt_of_cell hcell
      clear hcell
      generalize rowOf t (ss.take k) = l at hO HC hll2 ⊢
      go_wp2_with fail
      have hB0 : Below w.heap.size w wr := hW
      have hne : ∀ bx, wr.heap.size ≤ bx → some bx ≠ u5.ownBlock := by
        intro bx hbx e
        have := (World.ownsRow.lt hO bx e.symm).2
        omega
      have hbne : some b ≠ u5.ownBlock := by
        intro e
        have := (World.ownsRow.lt hO b e.symm).1
        omega
      have HBN := Lib.hid hbne
      have HNE := Lib.hid hne
      clear hbne
      clear hne
      have c1 : ∀ o, (wr.alloc o).cell? ⟨b, off + k, none⟩ = some (.string x) := fun o => (World.cell?_alloc_lt _ _ _ hbl).trans hc
      go_region_law (first
        | (go_simp; go_at_call 61; refine (number_any x.size _ _ _ rfl (by omega) (by omega) (by omega)).mono ?_; rintro e wn ⟨rfl, hwn⟩
           have hsz : wr.heap.size ≤ wn.heap.size := Nat.le_trans (by simp) hwn.size
           have hsz2 := hwn.size
           try simp only [World.size_alloc, World.size_drew] at hsz2
           have n0 : wn.cell? ⟨b, off + k, none⟩ = some (.string x) := (hwn.cell (p := ⟨b, off + k, none⟩) (by simp; omega)).trans (by first | exact hc | exact c1 _)
           have n1 : ∀ o, (wn.alloc o).cell? ⟨b, off + k, none⟩ = some (.string x) := fun o => (World.cell?_alloc_lt _ _ _ (block_lt_of_cell n0)).trans n0
           have n2 : ∀ o1 o2, ((wn.alloc o1).alloc o2).cell? ⟨b, off + k, none⟩ = some (.string x) := fun o1 o2 => (World.cell?_alloc_lt _ _ _ (block_lt_of_cell (n1 o1))).trans (n1 o1)
           have hBn : Below wr.heap.size wr wn := by
             first
               | exact (Below.refl _ _).drew.trans hwn
               | exact ((Below.refl _ _).drew.alloc (Nat.le_refl _) _).trans (hwn.mono (by simp))
               | exact (((Below.refl _ _).alloc (Nat.le_refl _) _).drew).trans (hwn.mono (by simp)))
        | (refine step_app rfl (.tmp 17) (.tmp 24) rfl w.heap.size l _ rfl (hO.below (by
             first
               | exact hBn.alloc hsz _
               | exact (hBn.alloc hsz _).alloc (Nat.le_trans hsz (by simp)) _)) _ (numStr x.size 4) rfl (by
             first
               | (simp; done)
               | (rw [World.cell?_alloc_lt _ _ _ (by simp)]; simp; done)) (by omega) (by simp; have := hW.size; omega) ?_
           intro v2 w3 hT hg
           have p0 : w3.cell? ⟨b, off + k, none⟩ = some (.string x) := hg.cell (by first | exact n1 _ | exact n2 _ _) HBN.out
           have p1 : ∀ o, (w3.alloc o).cell? ⟨b, off + k, none⟩ = some (.string x) := fun o => (World.cell?_alloc_lt _ _ _ (block_lt_of_cell p0)).trans p0
           have hB3 : Below w.heap.size w w3 := by
             first
               | exact (hW.trans ((hBn.alloc hsz _).mono hW.size)).grown hg (by simp; have := hW.size; omega) (fun q hq => (World.ownsRow.lt hO q hq).1)
               | exact (hW.trans (((hBn.alloc hsz _).alloc (Nat.le_trans hsz (by simp)) _).mono hW.size)).grown hg (by simp; have := hW.size; omega) (fun q hq => (World.ownsRow.lt hO q hq).1))
        | (refine step_app rfl (.tmp 25) (.tmp 30) rfl w.heap.size (l ++ [numStr x.size 4]) _ rfl (by
             first
               | exact hT
               | exact hT.below ((Below.refl _ _).alloc (Nat.le_refl _) _)) _ x rfl (by
             first
               | (simp; done)
               | exact lone_grown hg (cell_second _ _ _ _ _) (HNE.out _ (by omega))
               | exact lone_grown hg ((World.cell?_alloc_lt _ _ _ (by simp)).trans (by simp)) (HNE.out _ (by omega))
               | exact lone_grown hg ((World.cell?_alloc_lt _ _ _ (by simp; omega)).trans ((hwn.cell (by simp)).trans (by simp))) (HNE.out _ (by omega))) (by rw [List.length_append]; simp; omega) (by first | exact hB3.size | (simp; have := hB3.size; omega)) ?_
           intro v4 w4 hT2 hg2
           have hB4 : Below w.heap.size w w4 := by
             first
               | exact hB3.grown hg2 hB3.size (fun q hq => (World.ownsRow.lt hT q hq).1)
               | exact (hB3.alloc hB3.size _).grown hg2 (by simp; have := hB3.size; omega) (fun q hq => (World.ownsRow.lt hT q hq).1))
        )
      all_goals
        go_wp2_with fail
        go_roundw
        case rel => exact ⟨k + 1, by omega, by go_num, by rw [HC.out]; exact hT2, hB4⟩
        case measure => simp [intOf]; omega
    · obtain rfl : k = len := by omega
      have hcount := hS.count
      rw [show ss.take k = ss by rw [hcount, List.take_length]] at hO
      obtain ⟨a, c, rfl, hT⟩ := strs_owned hO rfl
      have hlr := rowOf_length t ss
      have hlr2 : (rowOf t ss).length ≤ 3000 := by omega
      clear hlr hcount
      have hjl : (joined ss).length ≤ 1000000 := by omega
      have HE := Lib.hid (cat_rowOf t ss)
      have hcat : (cat (rowOf t ss)).length ≤ 1000001 := by rw [HE.out, List.length_cons]; omega
      generalize rowOf t ss = l at hT hlr2 hcat HE ⊢
      clear hO
      go_wp2_with fail
      refine (refSum_any a l.length c l _ hT (by omega) (by omega)).mono ?_
      rintro e w4 ⟨rfl, hw4⟩
      rw [HE.out]
      dsimp only
      go_wp2_with fail
      go_ret
      exact ⟨rfl, hW.trans (hw4.mono hW.size)⟩
end Go.Proofs.YtheobkepoocamaaGreatDoor
