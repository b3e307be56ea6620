/- What waits lasts, as far as it is kept. -/
import Derived.Test.YtdgbfkedgedogaaLeaf
import Derived.Deep.WholeRow
namespace Go.Proofs.Ytdgbfkedgedogaa
open Go.RowKit Go.Maps
def lay (l : List (Int × List UInt8)) (K : Nat → Bool) : Nat → (Int → Option (List UInt8)) → Int → Option (List UInt8)
  | 0, f => f
  | j + 1, f => if K j then upd (lay l K j f) (l.getD j (0, [])).1 (l.getD j (0, [])).2 else lay l K j f
def Raw.settled (s : Raw) (K : Nat → Bool) : Raw :=
  { s with lasts := lay s.cw K s.cw.length s.lasts, cw := [], newest := fun _ => none, waiting := 0, nL := s.nL + s.cw.length, nN := 0 }
def Keeps (w : World) (p : Nat) (h : Hd) (f : Value) (K : Nat → Bool) : Prop :=
  (f = .func (.func 32) #[] #[] ∧ K = fun _ => true) ∨
  ∃ c k, f = .func (.func 33) #[] #[.pointer (some ⟨c, 0, none⟩)] ∧ w.cell? ⟨c, 0, none⟩ = some (kv k) ∧ Mine w p h c ∧ K = fun i => decide (i < 64) && k.getLsbD i
theorem size72 : (Try.prog.info? 72).map (·.size) = some 33 := by kernel_rfl
theorem size70 : (Try.prog.info? 70).map (·.size) = some 32 := by kernel_rfl
theorem row_form {w : World} {v : Value} {n : Nat} {xs : List Value} (h : w.ownsRow 0 72 33 v n xs) :
    ∃ a cap, v = .slice a n cap ∧ n ≤ cap ∧ cap ≤ maxLen ∧ (0 < n → ∃ g, a = some ⟨g, 0, none⟩) := by
  rcases h.2 with ⟨rfl, rfl⟩ | ⟨g, cap, cur, rfl, _, hg, hc, hm, _⟩
  · exact ⟨none, 0, rfl, Nat.le_refl _, Nat.zero_le _, fun h => by omega⟩
  · exact ⟨_, cap, rfl, hc, hm, fun _ => ⟨g, rfl⟩⟩
theorem sec_length (l : List UInt8) : (sec l).length = l.length := List.length_map ..
theorem rows_length {l : List (Int × List UInt8)} (h : ∀ x ∈ l, x.2.length = 32) : (rows l).length = l.length * 33 := by
  induction l with
  | nil => rfl
  | cons x l ih =>
    have h1 := h x (by simp)
    have h2 := ih (fun y hy => h y (by simp [hy]))
    show (wcells x ++ rows l).length = _
    rw [List.length_append, h2, wcells, List.length_cons, sec_length, h1, List.length_cons]; omega
theorem rows_at {l : List (Int × List UInt8)} (h : ∀ x ∈ l, x.2.length = 32) (j : Nat) (hj : j < l.length) (i : Nat) (hi : i < 33) : (rows l)[j * 33 + i]? = (wcells (l.getD j (0, [])))[i]? := by
  induction l generalizing j with
  | nil => simp at hj
  | cons x l ih =>
    have h1 := h x (by simp)
    have hx : (wcells x).length = 33 := by rw [wcells, List.length_cons, sec_length, h1]
    show (wcells x ++ rows l)[j * 33 + i]? = _
    cases j with
    | zero => rw [Nat.zero_mul, Nat.zero_add, List.getElem?_append_left (by omega)]; rfl
    | succ j =>
      rw [List.getElem?_append_right (by omega), hx, show (j + 1) * 33 + i - 33 = j * 33 + i by omega, ih (fun y hy => h y (by simp [hy])) j (by simpa using hj)]
      rfl
theorem wcells_length {x : Int × List UInt8} (h : x.2.length = 32) : (wcells x).length = 33 := by rw [wcells, List.length_cons, sec_length, h]
theorem wcells_one (x : Int × List UInt8) : ∀ v ∈ wcells x, v.oneCell' = true := by
  intro v hv
  rcases List.mem_cons.1 hv with rfl | hv
  · rfl
  · obtain ⟨b, _, rfl⟩ := List.mem_map.1 hv; rfl
/-- A write out of the list. -/
theorem Disk.range {w : World} {p L N g cap : Nat} {s : Raw} (D : Disk w p ⟨L, N, .slice (some ⟨g, 0, none⟩) s.cw.length cap⟩ s) (h : ∀ x ∈ s.cw, x.2.length = 32) {j : Nat} (hj : j < s.cw.length) :
    w.rangeAt g (j * 33) (wcells (s.cw.getD j (0, []))) := by
  intro i v hv
  have hi : i < (wcells (s.cw.getD j (0, []))).length := (List.getElem?_eq_some_iff.1 hv).1
  rw [wcells_length (h _ (by rw [List.getD, List.getElem?_eq_getElem hj]; exact List.getElem_mem hj))] at hi
  have := D.row.cells (g := g) rfl (j * 33 + i) v (by rw [rows_at h j hj i hi]; exact hv)
  rwa [Go.WideShapes.add_plain, Nat.zero_add] at this
/-- A write into the variable that was made last. -/
theorem store_fresh (w : World) (cs : List Value) (hC : cs.length = 33) (h1 : cs.toArray.all (·.oneCell') = true) :
    (storeCells ⟨w.heap.size, 0, none⟩ cs).run Try.prog (w.alloc (.cells #[.int .i64 0, .int .u8 0, .int .u8 0, .int .u8 0, .int .u8 0, .int .u8 0, .int .u8 0, .int .u8 0, .int .u8 0, .int .u8 0, .int .u8 0, .int .u8 0, .int .u8 0, .int .u8 0, .int .u8 0, .int .u8 0, .int .u8 0, .int .u8 0, .int .u8 0, .int .u8 0, .int .u8 0, .int .u8 0, .int .u8 0, .int .u8 0, .int .u8 0, .int .u8 0, .int .u8 0, .int .u8 0, .int .u8 0, .int .u8 0, .int .u8 0, .int .u8 0, .int .u8 0] 72)) = .ok () (w.alloc (.cells cs.toArray 72)) :=
  run_storeCells_new (P := Try.prog) w 72 #[.int .i64 0, .int .u8 0, .int .u8 0, .int .u8 0, .int .u8 0, .int .u8 0, .int .u8 0, .int .u8 0, .int .u8 0, .int .u8 0, .int .u8 0, .int .u8 0, .int .u8 0, .int .u8 0, .int .u8 0, .int .u8 0, .int .u8 0, .int .u8 0, .int .u8 0, .int .u8 0, .int .u8 0, .int .u8 0, .int .u8 0, .int .u8 0, .int .u8 0, .int .u8 0, .int .u8 0, .int .u8 0, .int .u8 0, .int .u8 0, .int .u8 0, .int .u8 0, .int .u8 0] cs.toArray (by rw [List.size_toArray, hC]; exact size72) (by rw [List.size_toArray]; exact hC.symm) h1
theorem upd_map {f : Int → Option (List UInt8)} {a : Int} {l : List UInt8} : upd (fun x => (f x).map secV) a (secV l) = fun x => (upd f a l x).map secV := by
  funext x
  unfold upd
  by_cases h : x = a
  · rw [if_pos h, if_pos h]; rfl
  · rw [if_neg h, if_neg h]
/-- One write lasts. -/
theorem Disk.laid {w w2 : World} {p n : Nat} {h : Hd} {s : Raw} {a : Int} {l : List UInt8} (D : Disk w p h s) (hM : Mp w2 h.L n (upd (fun x => (s.lasts x).map secV) a (secV l))) (ht : w.mapTurned w2 h.L) :
    Disk w2 p h { s with lasts := upd s.lasts a l, nL := n } ∧ Turn p w w2 h h := by
  have ho : ∀ k, k ≠ h.L → w2.heap[k]? = w.heap[k]? := fun k hk => turned_other ht hk
  rw [upd_map] at hM
  have hg := ht.grown
  refine ⟨⟨(ho p (Ne.symm D.pL)).trans D.cells, hM, D.newest.kept (ho _ (Ne.symm D.apart)), ?_, D.apart⟩, ⟨hg.os, hg.tape, hg.output, hg.size, fun k _ hno => ho k (fun e => hno (.inr (.inl e))), fun _ hk => .inl hk⟩⟩
  refine D.row.kept hg ?_
  by_cases hv : h.v.ownBlock = none
  · exact .inl hv
  · exact .inr D.vL
theorem Disk.more {w : World} {p n : Nat} {h : Hd} {s : Raw} (D : Disk w p h s) (hn : s.nL ≤ n) : Disk w p h { s with nL := n } :=
  ⟨D.cells, D.lasts.mono hn, D.newest, D.row, D.apart⟩
theorem Disk.emptied {w : World} {p : Nat} {h : Hd} {s : Raw} (D : Disk w p h s) :
    Disk ((((w.setCell ⟨p, 2, none⟩ (.slice none 0 0)).setCell ⟨p, 3, none⟩ (.map (some w.heap.size))).setCell ⟨p, 4, none⟩ (.int .i64 0)).alloc (.map #[] 0)) p ⟨h.L, w.heap.size, .slice none 0 0⟩ { s with cw := [], newest := fun _ => none, waiting := 0, nN := 0 } ∧
    Turn p w ((((w.setCell ⟨p, 2, none⟩ (.slice none 0 0)).setCell ⟨p, 3, none⟩ (.map (some w.heap.size))).setCell ⟨p, 4, none⟩ (.int .i64 0)).alloc (.map #[] 0)) h ⟨h.L, w.heap.size, .slice none 0 0⟩ := by
  have hl := D.lt (.inl rfl)
  have hL := D.lasts.lt
  have hc := block_setCell (k := 4) (block_setCell (k := 3) (block_setCell (k := 2) D.cells (.slice none 0 0)) (.map (some w.heap.size))) (.int .i64 0)
  have ho : ∀ k, k ≠ p → k < w.heap.size → ((((w.setCell ⟨p, 2, none⟩ (.slice none 0 0)).setCell ⟨p, 3, none⟩ (.map (some w.heap.size))).setCell ⟨p, 4, none⟩ (.int .i64 0)).alloc (.map #[] 0)).heap[k]? = w.heap[k]? := fun k hk hkl => by
    rw [Below.heap_alloc _ _ _ (by simpa using hkl), Below.heap_setCell _ _ _ _ hk, Below.heap_setCell _ _ _ _ hk, Below.heap_setCell _ _ _ _ hk]
  refine ⟨⟨?_, ?_, ?_, ?_, ?_⟩, ⟨rfl, rfl, rfl, by simp, fun k hk hno => ho k (fun e => hno (.inl e)) hk, fun k hk => ?_⟩⟩
  · rw [Below.heap_alloc _ _ _ (by simpa using hl), hc]; rfl
  · exact D.lasts.kept (ho _ D.pL hL)
  · have := Mp.made (((w.setCell ⟨p, 2, none⟩ (.slice none 0 0)).setCell ⟨p, 3, none⟩ (.map (some w.heap.size))).setCell ⟨p, 4, none⟩ (.int .i64 0))
    rw [show (((w.setCell ⟨p, 2, none⟩ (.slice none 0 0)).setCell ⟨p, 3, none⟩ (.map (some w.heap.size))).setCell ⟨p, 4, none⟩ (.int .i64 0)).heap.size = w.heap.size by simp [World.setCell]] at this
    exact this
  · exact World.ownsRow_nil _ _ _ _
  · exact Nat.ne_of_lt hL
  · rcases hk with rfl | rfl | rfl | hk
    · exact .inl (.inl rfl)
    · exact .inl (.inr (.inl rfl))
    · exact .inr (Nat.le_refl _)
    · cases hk

set_option maxRecDepth 100000 in
set_option maxHeartbeats 1000000 in
theorem settle_any {w : World} {p : Nat} {h : Hd} {s : Raw} (D : Disk w p h s) (f : Value) (K : Nat → Bool) (hf : Keeps w p h f K) (hn : s.nL + s.cw.length < 1099511627776) (hk : ∀ x ∈ s.cw, (ik x.1).wf = true ∧ x.2.length = 32) :
    Calls Try.prog 31 #[ptr p, f] w fun e w' => e = .returned (.tuple #[]) ∧ ∃ h', Disk w' p h' (s.settled K) ∧ Turn p w w' h h' := by
  have hmm := @run_makeMap Try.prog
  obtain ⟨L, N, v⟩ := h
  have c2 := D.c2
  have hrow := D.row
  dsimp only at c2 hrow
  obtain ⟨a, cap, rfl, hcap, hmax, ha⟩ := row_form hrow
  have hnc : (s.cw.length : Int) ≤ 1099511627776 := by omega
  go_enter Try.func31, Try.ntmps31
  go_wp2_with fail
  go_loopw [11] (fun i wr => ∃ j : Nat, j ≤ s.cw.length ∧ i = .int .i64 j ∧ Disk wr p ⟨L, N, .slice a s.cw.length cap⟩ { s with lasts := lay s.cw K j s.lasts, nL := s.nL + j } ∧ Turn p w wr ⟨L, N, .slice a s.cw.length cap⟩ ⟨L, N, .slice a s.cw.length cap⟩) (fun i _ => s.cw.length - (intOf i).toNat)
  case atStart => exact ⟨0, by omega, rfl, D, Turn.refl _ _ _⟩
  case round =>
    obtain ⟨j, hj, rfl, D', T⟩ := hrel
    by_cases hlt : j < s.cw.length
    · obtain ⟨g, rfl⟩ := ha (by omega)
      have hlt' : (j : Int) < (s.cw.length : Int) := by omega
      have hlen : (s.cw.getD j (0, [])).2.length = 32 := (hk _ (by rw [List.getD, List.getElem?_eq_getElem hlt]; exact List.getElem_mem hlt)).2
      have hwf := (hk _ (show s.cw.getD j (0, []) ∈ s.cw by rw [List.getD, List.getElem?_eq_getElem hlt]; exact List.getElem_mem hlt)).1
      have hra := Disk.range (s := { s with lasts := lay s.cw K j s.lasts, nL := s.nL + j }) D' (fun x hx => (hk x hx).2) hlt
      have HST := Lib.hid (show lay s.cw K (j + 1) s.lasts = if K j then upd (lay s.cw K j s.lasts) (s.cw.getD j (0, [])).1 (s.cw.getD j (0, [])).2 else lay s.cw K j s.lasts from rfl)
      dsimp only at hra
      generalize s.cw.getD j (0, []) = x at hlen hwf hra HST
      obtain ⟨at_, dat⟩ := x
      dsimp only at hlen hwf
      have hC := wcells_length (x := (at_, dat)) hlen
      have hone : (wcells (at_, dat)).toArray.all (·.oneCell') = true := all_oneCell_toArray (wcells_one _)
      generalize hcs : wcells (at_, dat) = cs at hra hC hone
      have hst := store_fresh wr cs hC hone
      have D1 := D'.alloc (.cells cs.toArray 72)
      have T1 := T.alloc (.cells cs.toArray 72)
      have hBn := heap_alloc_new wr (.cells cs.toArray 72)
      subst hcs
      have cB : (wr.alloc (.cells (wcells (at_, dat)).toArray 72)).cell? ⟨wr.heap.size, 0, none⟩ = some (.int .i64 at_) := cell_block hBn 0
      have rB : (wr.alloc (.cells (wcells (at_, dat)).toArray 72)).rangeAt wr.heap.size 1 (sec dat) := fun i v hv => by
        rw [cell_block hBn (1 + i), Nat.add_comm, List.getElem?_toArray]; exact hv
      have hBL : wr.heap.size ≠ L := fun e => by have := D'.lasts.lt; dsimp only at this; omega
      have hu70 := Try.underlying70
      have hi70 : (Try.prog.info? 70).map (·.size) = some (sec dat).length := by rw [sec_length, hlen]; exact size70
      clear hBn
      generalize hcs : wcells (at_, dat) = cs at hra hC hone hst D1 T1 cB rB ⊢
      rcases hf with ⟨rfl, hK⟩ | ⟨c, k, rfl, hcell, hmine, hK⟩
      · go_wp2_with (first
          | (refine wpList_load_mid rfl 72 _ (by rfl) g (j * 33) (by rfl) cs _ hra Try.underlying72 (by rfl) (by rw [hC]; exact size72) ?_)
          | (go_at_call 32; refine (allKept_any _ _).mono ?_; rintro e w' ⟨rfl, rfl⟩)
          | fail)
        generalize World.alloc wr _ = wa at D1 T1 cB rB ⊢
        have c1 := D1.c1
        obtain ⟨w2, hr, hM, ht⟩ := (D1.lasts.kept (w' := wa.drew) rfl).store Try.underlying62 (by show s.nL + j < maxLen; unfold maxLen; omega) hwf (secV dat)
        unfold secV at hr
        have c1' : w2.cell? ⟨p, 1, none⟩ = some (.map (some L)) := (World.cell?_of_block (turned_other ht (Ne.symm D1.pL))).trans c1
        have cB' : w2.cell? ⟨wr.heap.size, 0, none⟩ = some (.int .i64 at_) := (World.cell?_of_block (turned_other ht hBL)).trans cB
        have rB' : w2.rangeAt wr.heap.size 1 (sec dat) := fun i v hv => (World.cell?_of_block (turned_other ht hBL)).trans (rB i v hv)
        generalize wr.heap.size = B at *
        go_region_held3 (fun w' => w'.cell? ⟨p, 1, none⟩ = some (.map (some L)) ∧ w'.cell? ⟨B, 0, none⟩ = some (.int .i64 at_) ∧ w'.rangeAt B 1 (sec dat)) (first | exact ⟨c1, cB, rB⟩ | exact ⟨c1', cB', rB'⟩) (fail)
        obtain ⟨D2, T2⟩ := (D1.kept (w' := wa.drew) (fun _ _ => rfl)).laid hM ht
        have T3 := (T1.trans (Turn.of_below _ (Below.refl _ wa).drew)).trans T2
        go_wp2_with fail
        go_roundw
        case rel =>
          refine ⟨j + 1, by omega, by go_num, ?_, T3⟩
          rw [HST.out, if_pos (by rw [hK])]; exact D2
        case measure => simp [intOf]; omega
      · have c0 : (wr.alloc (.cells cs.toArray 72)).cell? ⟨c, 0, none⟩ = some (kv k) := (T1.cell hmine).trans hcell
        have HK := Lib.hid hK
        have hKj : K j = (decide (j < 64) && k.getLsbD j) := by rw [hK]
        clear hK
        cases hb : (decide (j < 64) && k.getLsbD j)
        · go_wp2_with (first
            | (refine wpList_load_mid rfl 72 _ (by rfl) g (j * 33) (by rfl) cs _ hra Try.underlying72 (by rfl) (by rw [hC]; exact size72) ?_)
            | (go_at_call 33; refine (kept_any c k j _ c0).mono ?_; rintro e w' ⟨rfl, rfl⟩)
            | fail)
          go_roundw
          case rel =>
            refine ⟨j + 1, by omega, by go_num, ?_, T1⟩
            rw [HST.out, if_neg (by rw [hKj, hb]; simp)]; exact D1.more (by show s.nL + j ≤ s.nL + (j + 1); omega)
          case measure => simp [intOf]; omega
        · go_wp2_with (first
            | (refine wpList_load_mid rfl 72 _ (by rfl) g (j * 33) (by rfl) cs _ hra Try.underlying72 (by rfl) (by rw [hC]; exact size72) ?_)
            | (go_at_call 33; refine (kept_any c k j _ c0).mono ?_; rintro e w' ⟨rfl, rfl⟩)
            | fail)
          clear c0 hcell
          generalize World.alloc wr _ = wa at D1 T1 cB rB ⊢
          have c1 := D1.c1
          obtain ⟨w2, hr, hM, ht⟩ := (D1.lasts.kept (w' := wa.drew) rfl).store Try.underlying62 (by show s.nL + j < maxLen; unfold maxLen; omega) hwf (secV dat)
          unfold secV at hr
          have c1' : w2.cell? ⟨p, 1, none⟩ = some (.map (some L)) := (World.cell?_of_block (turned_other ht (Ne.symm D1.pL))).trans c1
          have cB' : w2.cell? ⟨wr.heap.size, 0, none⟩ = some (.int .i64 at_) := (World.cell?_of_block (turned_other ht hBL)).trans cB
          have rB' : w2.rangeAt wr.heap.size 1 (sec dat) := fun i v hv => (World.cell?_of_block (turned_other ht hBL)).trans (rB i v hv)
          generalize wr.heap.size = B at *
          go_region_held3 (fun w' => w'.cell? ⟨p, 1, none⟩ = some (.map (some L)) ∧ w'.cell? ⟨B, 0, none⟩ = some (.int .i64 at_) ∧ w'.rangeAt B 1 (sec dat)) (first | exact ⟨c1, cB, rB⟩ | exact ⟨c1', cB', rB'⟩) (fail)
          obtain ⟨D2, T2⟩ := (D1.kept (w' := wa.drew) (fun _ _ => rfl)).laid hM ht
          have T3 := (T1.trans (Turn.of_below _ (Below.refl _ wa).drew)).trans T2
          go_wp2_with fail
          go_roundw
          case rel =>
            refine ⟨j + 1, by omega, by go_num, ?_, T3⟩
            rw [HST.out, if_pos (hKj.trans hb)]; exact D2
          case measure => simp [intOf]; omega
    · obtain rfl : j = s.cw.length := by omega
      have c2' := D'.c2
      have c3' := D'.c3
      have c4' := D'.c4
      have f2 := D'.free 2
      have f3 := D'.free 3
      have f4 := D'.free 4
      have hl0 := D'.lt (.inl rfl)
      have hne : p ≠ wr.heap.size := by omega
      go_wp2
      go_end0
      obtain ⟨D2, T2⟩ := D'.emptied
      exact ⟨rfl, _, D2, T.trans T2⟩
end Go.Proofs.Ytdgbfkedgedogaa
