/- A write waits. -/
import Derived.Test.YtdgbfkedgedogaaCrash
namespace Go.Proofs.Ytdgbfkedgedogaa
open Go.RowKit Go.Maps
def Raw.newAt (s : Raw) (a : Int) : Nat := (s.newest a).getD 0
def Raw.waited (s : Raw) (x : Int × List UInt8) : Raw :=
  if 64 ≤ s.newAt x.1 then { s with waiting := s.waiting + 1, cw := s.cw.set (s.newAt x.1) x }
  else { s with waiting := s.waiting + 1, newest := upd s.newest x.1 s.cw.length, nN := s.nN + 1, cw := s.cw ++ [x] }
theorem rows_set {l : List (Int × List UInt8)} (h : ∀ x ∈ l, x.2.length = 32) (i : Nat) (hi : i < l.length) (x : Int × List UInt8) :
    rows (l.set i x) = (rows l).take (i * 33) ++ wcells x ++ (rows l).drop (i * 33 + 33) := by
  induction l generalizing i with
  | nil => simp at hi
  | cons y l ih =>
    have hy := wcells_length (h y (by simp))
    cases i with
    | zero =>
      show wcells x ++ rows l = (wcells y ++ rows l).take (0 * 33) ++ wcells x ++ (wcells y ++ rows l).drop (0 * 33 + 33)
      rw [Nat.zero_mul, List.take_zero, Nat.zero_add, List.nil_append, List.drop_append_of_le_length (by omega), List.drop_of_length_le (by omega), List.nil_append]
    | succ i =>
      have h2 := ih (fun z hz => h z (by simp [hz])) i (by simpa using hi)
      show wcells y ++ rows (l.set i x) = (wcells y ++ rows l).take ((i + 1) * 33) ++ wcells x ++ (wcells y ++ rows l).drop ((i + 1) * 33 + 33)
      rw [h2, List.take_append, List.take_of_length_le (l := wcells y) (by omega), List.drop_append, List.drop_of_length_le (l := wcells y) (by omega), hy, show (i + 1) * 33 - 33 = i * 33 by omega, show (i + 1) * 33 + 33 - 33 = i * 33 + 33 by omega]
      simp only [List.append_assoc, List.nil_append]
theorem setCells_row {w : World} {g o : Nat} {cur : Array Value} {t : TypeId} {vs : List Value} (hg : w.heap[g]? = some (.cells cur t (0, 0))) (hl : o + vs.length ≤ cur.size) (h1 : ∀ v ∈ vs, v.oneCell' = true) :
    w.setCells g o vs = w.setRow g (cur.toList.take o ++ vs ++ cur.toList.drop (o + vs.length)).toArray := by
  have e1 := run_storeCells_at Try.prog g o t vs 0 cur w hg (by omega) h1
  have e2 := run_storeCells_cells (P := Try.prog) g o vs 0 w (fun j hj => by rw [cell_block hg]; rw [Array.getElem?_eq_getElem (by omega)]; rfl) (fun j hj => free_block hg _) h1
  rw [e1] at e2
  injection e2 with _ e2
  simp only [Nat.add_zero] at e2
  exact e2.symm
/-- A write that waits is written anew. -/
theorem Disk.set {w : World} {p L N g cap n : Nat} {s : Raw} (D : Disk w p ⟨L, N, .slice (some ⟨g, 0, none⟩) n cap⟩ s) (hn : n = s.cw.length) (he : ∀ x ∈ s.cw, x.2.length = 32) {i : Nat} (hi : i < n) (x : Int × List UInt8) (hx : x.2.length = 32) :
    Disk (w.setCells g (i * 33) (wcells x)) p ⟨L, N, .slice (some ⟨g, 0, none⟩) n cap⟩ { s with cw := s.cw.set i x } ∧ Turn p w (w.setCells g (i * 33) (wcells x)) ⟨L, N, .slice (some ⟨g, 0, none⟩) n cap⟩ ⟨L, N, .slice (some ⟨g, 0, none⟩) n cap⟩ ∧ w.there g (i * 33) 33 := by
  subst hn
  have hr := rows_length he
  have hW := wcells_length hx
  rcases D.row.2 with ⟨h0, _⟩ | ⟨g', cap', cur, hv, hb, hg, hc, hm, hs, ht⟩
  · cases h0
  · injection hv with h1 h2 h3
    injection h1 with h1
    injection h1 with h1
    subst h1 h3
    have hle : i * 33 + 33 ≤ s.cw.length * 33 := by omega
    have hle2 : s.cw.length * 33 ≤ cur.size := by rw [hs]; exact Nat.mul_le_mul_right _ hc
    have hsr := setCells_row (o := i * 33) (vs := wcells x) hg (by rw [hW]; omega) (wcells_one x)
    have ho : ∀ k, k ≠ g → (w.setCells g (i * 33) (wcells x)).heap[k]? = w.heap[k]? := fun k hk => by rw [hsr]; exact setRow_other w g k _ hk
    have hpg : p ≠ g := fun e => D.pv (by rw [e]; rfl)
    have hLg : L ≠ g := fun e => D.vL (by show some g = some L; rw [e])
    have hNg : N ≠ g := fun e => D.vN (by show some g = some N; rw [e])
    refine ⟨⟨(ho p hpg).trans D.cells, D.lasts.kept (ho L hLg), D.newest.kept (ho N hNg), ⟨?_, .inr ⟨g, cap, _, ?_, hb, by rw [hsr]; exact setRow_heap w g cur _ 72 _ hg, ?_, hm, ?_, ?_⟩⟩, D.apart⟩, ?_, ?_⟩
    · show (rows (s.cw.set i x)).length = (s.cw.set i x).length * 33
      rw [rows_set he i hi, List.length_set]
      simp only [List.length_append, List.length_take, List.length_drop, hr, hW]; omega
    · show Value.slice (some ⟨g, 0, none⟩) s.cw.length cap = Value.slice (some ⟨g, 0, none⟩) (s.cw.set i x).length cap
      rw [List.length_set]
    · show (s.cw.set i x).length ≤ cap
      rw [List.length_set]; exact hc
    · rw [List.size_toArray]
      simp only [List.length_append, List.length_take, List.length_drop, Array.length_toList, hW]; omega
    · show (List.toArray _).toList.take ((s.cw.set i x).length * 33) = rows (s.cw.set i x)
      have htail : cur.toList = rows s.cw ++ cur.toList.drop (s.cw.length * 33) := by rw [← ht, List.take_append_drop]
      generalize hT : cur.toList.drop (s.cw.length * 33) = T at htail
      have e1 : (rows s.cw ++ T).take (i * 33) = (rows s.cw).take (i * 33) := List.take_append_of_le_length (by rw [hr]; omega)
      have e2 : (rows s.cw ++ T).drop (i * 33 + 33) = (rows s.cw).drop (i * 33 + 33) ++ T := List.drop_append_of_le_length (by rw [hr]; omega)
      have e3 : (rows (s.cw.set i x)).length = s.cw.length * 33 := by
        rw [rows_set he i hi]; simp only [List.length_append, List.length_take, List.length_drop, hr, hW]; omega
      rw [List.length_set, List.toList_toArray, hW, htail, e1, e2, ← List.append_assoc, ← rows_set he i hi, ← e3, List.take_left]
    · refine ⟨by rw [hsr]; rfl, by rw [hsr]; rfl, by rw [hsr]; rfl, by rw [hsr]; simp [World.setRow], fun k _ hno => ho k (fun e => hno (.inr (.inr (.inr (by rw [e]; rfl))))), fun _ hk => .inl hk⟩
    · intro j hj
      exact ⟨by rw [cell_block hg, Array.getElem?_eq_getElem (by omega)]; rfl, free_block hg _⟩
theorem upd_map2 {f : Int → Option Nat} {a : Int} {i : Nat} : upd (fun x => (f x).map fun i => Value.int .i64 (i : Int)) a (.int .i64 (i : Int)) = fun x => (upd f a i x).map fun i => Value.int .i64 (i : Int) := by
  funext x
  unfold upd
  by_cases h : x = a
  · rw [if_pos h, if_pos h]; rfl
  · rw [if_neg h, if_neg h]
/-- A sector's newest write is noted. -/
theorem Disk.noted {w w2 : World} {p n : Nat} {h : Hd} {s : Raw} {a : Int} {i : Nat} (D : Disk w p h s) (hM : Mp w2 h.N n (upd (fun x => (s.newest x).map fun i => Value.int .i64 (i : Int)) a (.int .i64 (i : Int)))) (ht : w.mapTurned w2 h.N) :
    Disk w2 p h { s with newest := upd s.newest a i, nN := n } ∧ Turn p w w2 h h := by
  have ho : ∀ k, k ≠ h.N → w2.heap[k]? = w.heap[k]? := fun k hk => turned_other ht hk
  rw [upd_map2] at hM
  have hg := ht.grown
  refine ⟨⟨(ho p (Ne.symm D.pN)).trans D.cells, D.lasts.kept (ho _ D.apart), hM, ?_, D.apart⟩, ⟨hg.os, hg.tape, hg.output, hg.size, fun k _ hno => ho k (fun e => hno (.inr (.inr (.inl e)))), fun _ hk => .inl hk⟩⟩
  refine D.row.kept hg ?_
  by_cases hv : h.v.ownBlock = none
  · exact .inl hv
  · exact .inr D.vN
theorem rangeAt_setCell {w : World} {b o : Nat} {cs : List Value} (h : w.rangeAt b o cs) {p k : Nat} (hp : p ≠ b) {u : Value} : (w.setCell ⟨p, k, none⟩ u).rangeAt b o cs := fun j v hv => by
  rw [World.cell?_setCell_far _ _ _ _ hp]; exact h j v hv
/-- A write that is appended to those that wait. -/
theorem Disk.appended {w w3 : World} {p L N g cap cap2 n : Nat} {a : Option Addr} {s : Raw} (D : Disk w p ⟨L, N, .slice a n cap⟩ s) {x : Int × List UInt8}
    (ho : w3.ownsRow 0 72 33 (.slice (some ⟨g, 0, none⟩) (s.cw.length + 1) cap2) (s.cw.length + 1) (rows s.cw ++ wcells x)) (hg : w.grownBy w3 (Value.ownBlock (.slice a n cap))) (hat : Value.ownBlock (.slice a n cap) = some g ∨ g = w.heap.size) (y : Int × List UInt8) (hxy : x = y := by rfl) :
    Disk (w3.setCell ⟨p, 2, none⟩ (.slice (some ⟨g, 0, none⟩) (s.cw.length + 1) cap2)) p ⟨L, N, .slice (some ⟨g, 0, none⟩) (s.cw.length + 1) cap2⟩ { s with cw := s.cw ++ [x] } ∧
    Turn p w (w3.setCell ⟨p, 2, none⟩ (.slice (some ⟨g, 0, none⟩) (s.cw.length + 1) cap2)) ⟨L, N, .slice a n cap⟩ ⟨L, N, .slice (some ⟨g, 0, none⟩) (s.cw.length + 1) cap2⟩ ∧
    w3.cell? ⟨p, 2, none⟩ = some (.slice a n cap) ∧ w3.frozen? ⟨p, 2, none⟩ = false ∧ (∀ {B : Nat} {cs : List Value}, w.rangeAt B 0 cs → B < w.heap.size → Value.ownBlock (.slice a n cap) ≠ some B → w3.rangeAt B 0 cs) := by
  have hp := D.pv
  have hL := D.vL
  have hN := D.vN
  have hlt := D.lt (.inl rfl)
  have hltL := D.lt (.inr (.inl rfl))
  have hltN := D.lt (.inr (.inr (.inl rfl)))
  dsimp only at hp hL hN hltL hltN
  have kp : w3.heap[p]? = w.heap[p]? := hg.block p hlt (Ne.symm hp)
  have kL : w3.heap[L]? = w.heap[L]? := hg.block L hltL (Ne.symm hL)
  have kN : w3.heap[N]? = w.heap[N]? := hg.block N hltN (Ne.symm hN)
  have hpg : p ≠ g := fun e => by
    obtain ⟨cur, hc⟩ := row_block ho (k := g) rfl
    rw [← e, kp, D.cells] at hc; injection hc with hc; injection hc with _ h2 _; cases h2
  have hpL := D.pL
  have hpN := D.pN
  dsimp only at hpL hpN
  have hrow : rows (s.cw ++ [x]) = rows s.cw ++ wcells x := by unfold rows; rw [List.flatMap_append]; simp
  refine ⟨⟨?_, ?_, ?_, ?_, D.apart⟩, ⟨hg.os, hg.tape, hg.output, ?_, ?_, ?_⟩, ?_, ?_, ?_⟩
  · rw [block_setCell (kp.trans D.cells)]; rfl
  · exact D.lasts.kept ((Below.heap_setCell _ _ _ _ hpL).trans kL)
  · exact D.newest.kept ((Below.heap_setCell _ _ _ _ hpN).trans kN)
  · show World.ownsRow _ 0 72 33 (.slice (some ⟨g, 0, none⟩) (s.cw.length + 1) cap2) (s.cw ++ [x]).length (rows (s.cw ++ [x]))
    rw [hrow, List.length_append]
    exact ownsRow_setCell_other ho (fun e => hpg (by injection e with e; exact e.symm)) _
  · simpa [World.setCell] using hg.size
  · intro k hk hno
    rw [Below.heap_setCell _ _ _ _ (fun e => hno (.inl e))]
    exact hg.block k hk (fun e => hno (.inr (.inr (.inr e.symm))))
  · rintro k (rfl | rfl | rfl | hk)
    · exact .inl (.inl rfl)
    · exact .inl (.inr (.inl rfl))
    · exact .inl (.inr (.inr (.inl rfl)))
    · injection hk with hk
      rcases hat with h1 | h1
      · exact .inl (.inr (.inr (.inr (by rw [← hk]; exact h1))))
      · exact .inr (by rw [← hk]; exact Nat.le_of_eq h1.symm)
  · rw [cell_block (kp.trans D.cells)]; rfl
  · exact free_block (kp.trans D.cells) _
  · intro B cs hr hB hne j v hv
    exact (World.cell?_of_block (hg.block B hB (Ne.symm hne))).trans (hr j v hv)
theorem foldl_zip_from : ∀ (cs : List Value) (zs : Array Value) (k : Nat), k + cs.length = zs.size →
    List.foldl (fun cs x => cs.setIfInBounds x.2 x.1) zs (cs.zipIdx k) = (zs.toList.take k ++ cs).toArray
  | [], zs, k, h => by
    have : k = zs.size := by simpa using h
    subst this
    rw [List.zipIdx_nil, List.foldl_nil, List.append_nil, List.take_of_length_le (by simp)]
  | c :: r, zs, k, h => by
    have hk : k < zs.size := by simp at h; omega
    rw [List.zipIdx_cons, List.foldl_cons, foldl_zip_from r (zs.setIfInBounds k c) (k + 1) (by simp at h ⊢; omega)]
    congr 1
    rw [Array.toList_setIfInBounds, List.take_set, List.take_succ_eq_append_getElem (by simpa using hk), List.set_append_right _ _ (by simp; omega)]
    simp [Nat.min_eq_left (Nat.le_of_lt hk)]
theorem foldl_zip (zs : Array Value) (cs : List Value) (h : cs.length = zs.size) : List.foldl (fun cs x => cs.setIfInBounds x.2 x.1) zs cs.zipIdx = cs.toArray := by
  have := foldl_zip_from cs zs 0 (by omega)
  simpa using this
theorem info72 : (Try.prog.info? 72).map (fun i => (i.zero, i.size, i.bytes)) = some (some (.agg #[.int .i64 0, .int .u8 0, .int .u8 0, .int .u8 0, .int .u8 0, .int .u8 0, .int .u8 0, .int .u8 0, .int .u8 0, .int .u8 0, .int .u8 0, .int .u8 0, .int .u8 0, .int .u8 0, .int .u8 0, .int .u8 0, .int .u8 0, .int .u8 0, .int .u8 0, .int .u8 0, .int .u8 0, .int .u8 0, .int .u8 0, .int .u8 0, .int .u8 0, .int .u8 0, .int .u8 0, .int .u8 0, .int .u8 0, .int .u8 0, .int .u8 0, .int .u8 0, .int .u8 0]), 33, 40) := by kernel_rfl
theorem zero3 (w : World) : (zeroValue 3).run Try.prog w = .ok (.int .i64 0) w := by kernel_rfl

set_option maxRecDepth 100000 in
set_option maxHeartbeats 400000 in
theorem wait_any {w : World} {p : Nat} {h : Hd} {s : Raw} (D : Disk w p h s) (ok : s.Ok) (x : Int × List UInt8) (hx : (ik x.1).wf = true ∧ x.2.length = 32) (hw0 : 0 ≤ s.waiting) (hw1 : s.waiting < 1099511627776) (hnN : s.nN < 1099511627776) (hcw : s.cw.length < 1099511627776)
    (hnew : ∀ a i, s.newest a = some i → i < s.cw.length) :
    Calls Try.prog 28 #[ptr p, .agg (wcells x).toArray] w fun e w' => e = .returned (.tuple #[]) ∧ ∃ h', Disk w' p h' (s.waited x) ∧ Turn p w w' h h' := by
  obtain ⟨at_, dat⟩ := x
  obtain ⟨hwf, hlen⟩ := hx
  dsimp only at hwf hlen
  have hC := wcells_length (x := (at_, dat)) hlen
  have hone : (wcells (at_, dat)).toArray.all (·.oneCell') = true := all_oneCell_toArray (wcells_one _)
  have hl := D.lt (.inl rfl)
  have hne : p ≠ w.heap.size := by omega
  have c4 := D.c4
  have f4 := D.free 4
  have D1 := (D.write 4 (.int .i64 (s.waiting + 1)) { s with waiting := s.waiting + 1 } rfl rfl rfl rfl rfl rfl).alloc (.cells (wcells (at_, dat)).toArray 72)
  have T1 := ((Turn.refl p w h).setCell 4 (.int .i64 (s.waiting + 1))).alloc (.cells (wcells (at_, dat)).toArray 72)
  have hb : ((w.setCell ⟨p, 4, none⟩ (.int .i64 (s.waiting + 1))).alloc (.cells (wcells (at_, dat)).toArray 72)).heap[w.heap.size]? = some (.cells (wcells (at_, dat)).toArray 72 (0, 0)) := by
    have := heap_alloc_new (w.setCell ⟨p, 4, none⟩ (.int .i64 (s.waiting + 1))) (.cells (wcells (at_, dat)).toArray 72)
    rwa [show (w.setCell ⟨p, 4, none⟩ (.int .i64 (s.waiting + 1))).heap.size = w.heap.size by simp [World.setCell]] at this
  have hs : ((w.setCell ⟨p, 4, none⟩ (.int .i64 (s.waiting + 1))).alloc (.cells (wcells (at_, dat)).toArray 72)).heap.size = w.heap.size + 1 := by simp [World.setCell]
  have hm : Mine ((w.setCell ⟨p, 4, none⟩ (.int .i64 (s.waiting + 1))).alloc (.cells (wcells (at_, dat)).toArray 72)) p h w.heap.size :=
    D.mine_new (Nat.le_refl _) (by rw [hs]; omega)
  go_enter Try.func28, Try.ntmps28
  go_wp2_with fail
  clear c4 f4
  have HN := Lib.hid hne
  clear hne hl
  generalize World.alloc _ _ = W at D1 T1 hb hs hm ⊢
  generalize w.heap.size = B at *
  have HW : Hid (s.waited (at_, dat) = if 64 ≤ s.newAt at_ then { s with waiting := s.waiting + 1, cw := s.cw.set (s.newAt at_) (at_, dat) } else { s with waiting := s.waiting + 1, newest := upd s.newest at_ s.cw.length, nN := s.nN + 1, cw := s.cw ++ [(at_, dat)] }) := rfl
  have HA : Hid (64 ≤ s.newAt at_ → s.newAt at_ < s.cw.length) := fun h64 => by
    unfold Raw.newAt at h64 ⊢
    cases hq : s.newest at_ with
    | none => rw [hq] at h64; exact absurd h64 (by decide)
    | some i => exact hnew _ _ hq
  have cB : W.cell? ⟨B, 0, none⟩ = some (.int .i64 at_) := cell_block hb 0
  have hlk : (Instr.lookup 63 (.map (some h.N)) (.int .i64 at_) false).run Try.prog W.drew = .ok (.int .i64 (s.newAt at_ : Int)) W.drew := by
    have := (D1.newest.kept (w' := W.drew) rfl).look Try.underlying63 (zero3 _) hwf
    rw [this]
    unfold Raw.newAt
    cases s.newest at_ <;> rfl
  generalize s.newAt at_ = i at HW HA hlk
  have c3 := D1.c3
  go_region_held3 (fun w' => w'.cell? ⟨p, 3, none⟩ = some (.map (some h.N)) ∧ w'.cell? ⟨B, 0, none⟩ = some (.int .i64 at_)) (exact ⟨c3, cB⟩) (fail)
  clear hlk
  have hu72 := Try.underlying72
  have hi72 : (Try.prog.info? 72).map (·.size) = some (wcells (at_, dat)).length := by rw [hC]; exact size72
  have hone2 := wcells_one (at_, dat)
  obtain ⟨L, N, v⟩ := h
  obtain ⟨a, cap, hv, hcap, hmax, ha⟩ := row_form D1.row
  dsimp only at hv hcap ha
  subst hv
  have rB : W.rangeAt B 0 (wcells (at_, dat)) := fun j u hj => by rw [cell_block hb]; simpa using hj
  by_cases h64 : 64 ≤ i
  · have h64' : (64 : Int) ≤ (i : Int) := by omega
    have hi := HA.out h64
    obtain ⟨g, rfl⟩ := ha (by omega)
    have hi' : (i : Int) < (s.cw.length : Int) := by omega
    have hi0 : (0 : Int) ≤ (i : Int) := by omega
    obtain ⟨D3, T3, hth⟩ := Disk.set (D1.kept (w' := W.drew.drew) (fun _ _ => rfl)) rfl (fun y hy => (ok.each y hy).2) hi (at_, dat) hlen
    dsimp only at D3 T3 hth
    have c2 := D1.c2
    have hgB : g ≠ B := fun e => hm.2 (.inr (.inr (.inr (by rw [e]; rfl))))
    dsimp only at c2
    have c2' : (W.drew.drew.setCells g (i * 33) (wcells (at_, dat))).cell? ⟨p, 2, none⟩ = some (.slice (some ⟨g, 0, none⟩) s.cw.length cap) := D3.c2
    have rB' : (W.drew.drew.setCells g (i * 33) (wcells (at_, dat))).rangeAt B 0 (wcells (at_, dat)) := World.rangeAt_setCells_apart (w := W.drew.drew) rB _ _ _ (.inl (Ne.symm hgB))
    have hth' : (W.drew.drew.setCells g (i * 33) (wcells (at_, dat))).there g (i * 33) 33 := World.there_setCells hth _ _ _
    generalize hcs : wcells (at_, dat) = cs at *
    go_wp2_with fail
    refine wp_region_held_drew (S := fun w' => w'.cell? ⟨p, 2, none⟩ = some (.slice (some ⟨g, 0, none⟩) s.cw.length cap) ∧ w'.rangeAt B 0 cs ∧ w'.there g (i * 33) 33) (by kernel_rfl) ⟨c2, rB, hth⟩ (fun hHeld => ?_)
    refine wpAnyH_take (i := 0) (v := ptr p) rfl (by kernel_rfl) (by kernel_rfl) (by kernel_rfl) (fun _ _ _ h => h) (Or.inl ⟨by rfl, ?_⟩) (by assumption) ?_
    focus (rintro w' ⟨hS1, hS2, hS3⟩; go_simp)
    try simp only [List.getElem_toArray, List.getElem_cons_succ, List.getElem_cons_zero, Act.put, List.setIfInBounds_toArray, List.set_cons_zero, List.set_cons_succ]
    refine wpAnyH_take (i := 1) (v := ptr p) rfl (by kernel_rfl) (by kernel_rfl) (by kernel_rfl) (fun _ _ _ h => h) (Or.inl ⟨by rfl, ?_⟩) (by assumption) ?_
    focus (rintro w' ⟨hS1, hS2, hS3⟩; go_simp)
    try simp only [List.getElem_toArray, List.getElem_cons_succ, List.getElem_cons_zero, Act.put, List.setIfInBounds_toArray, List.set_cons_zero, List.set_cons_succ]
    refine wpAnyH_take (i := 2) (v := .pointer (some ⟨p, 2, none⟩)) rfl (by kernel_rfl) (by kernel_rfl) (by kernel_rfl) (fun _ _ _ h => h) (Or.inl ⟨by rfl, ?_⟩) (by assumption) ?_
    focus (rintro w' ⟨hS1, hS2, hS3⟩; go_simp)
    try simp only [List.getElem_toArray, List.getElem_cons_succ, List.getElem_cons_zero, Act.put, List.setIfInBounds_toArray, List.set_cons_zero, List.set_cons_succ]
    refine wpAnyH_take (i := 3) (v := .slice (some ⟨g, 0, none⟩) s.cw.length cap) rfl (by kernel_rfl) (by kernel_rfl) (by kernel_rfl) (fun _ _ _ h => h) (Or.inl ⟨by rfl, ?_⟩) (by assumption) ?_
    focus (rintro w' ⟨hS1, hS2, hS3⟩; go_simp)
    try simp only [List.getElem_toArray, List.getElem_cons_succ, List.getElem_cons_zero, Act.put, List.setIfInBounds_toArray, List.set_cons_zero, List.set_cons_succ]
    refine wpAnyH_take (i := 4) (v := .int .i64 (i : Int)) rfl (by kernel_rfl) (by kernel_rfl) (by kernel_rfl) (fun _ _ _ h => h) (Or.inl ⟨by rfl, ?_⟩) (by assumption) ?_
    focus (rintro w' ⟨hS1, hS2, hS3⟩; go_simp)
    try simp only [List.getElem_toArray, List.getElem_cons_succ, List.getElem_cons_zero, Act.put, List.setIfInBounds_toArray, List.set_cons_zero, List.set_cons_succ]
    refine wpAnyH_take (i := 5) (v := .agg cs.toArray) rfl (by kernel_rfl) (by kernel_rfl) (by kernel_rfl) (fun _ _ _ h => h) (yieldsIf_load_mid (by rfl) _ _ rfl _ _ rfl cs _ (fun w' hw => hw.2.1) hu72 rfl hi72) (by assumption) ?_
    try simp only [List.getElem_toArray, List.getElem_cons_succ, List.getElem_cons_zero, Act.put, List.setIfInBounds_toArray, List.set_cons_zero, List.set_cons_succ]
    refine wpAnyH_take (i := 6) (v := .pointer (some ⟨g, i * 33, none⟩)) rfl (by kernel_rfl) (by kernel_rfl) (by kernel_rfl) (fun _ _ _ h => h) (Or.inl ⟨by rfl, ?_⟩) (by assumption) ?_
    focus (rintro w' ⟨hS1, hS2, hS3⟩; go_simp)
    try simp only [List.getElem_toArray, List.getElem_cons_succ, List.getElem_cons_zero, Act.put, List.setIfInBounds_toArray, List.set_cons_zero, List.set_cons_succ]
    refine wpAnyH_ready (rs := [7]) (by kernel_rfl) (by simp) ?_
    refine AllReadyH.cons (o := { dst := none, op := Op.store 72 (Operand.tmp 27) (Operand.tmp 26), type := 0, pos := "block.go:118", after := #[{ on := 6, ground := Ground.data }, { on := 5, ground := Ground.data }, { on := 0, ground := Ground.phase }, { on := 1, ground := Ground.phase }, { on := 2, ground := Ground.phase }, { on := 3, ground := Ground.phase }, { on := 4, ground := Ground.phase }, { on := 5, ground := Ground.phase }], guard := none }) rfl (fun K hK => ?_) AllReadyH.nil
    rw [if_pos (by rfl)]
    refine wp_store_mid 72 (.tmp 27) (.tmp 26) ?ho g (i * 33) cs.toArray ?hx ?hy ?ht ?hi ?h1 ?h
    case ho => rfl
    case hx => rfl
    case hy => rfl
    case ht => rw [List.size_toArray, hC]; exact hth
    case hi => rw [List.size_toArray]; exact hi72
    case h1 => exact all_oneCell_toArray hone2
    try simp only [List.getElem_toArray, List.getElem_cons_succ, List.getElem_cons_zero, Act.put, List.setIfInBounds_toArray, List.set_cons_zero, List.set_cons_succ, List.toList_toArray]
    refine hK.out _ _ ?_ (fun hHeld => ?_)
    · exact ⟨c2', rB', hth'⟩
    refine wpAnyH_done (by kernel_rfl) ?_ _
    clear hK K hHeld c2 c2' rB' hth' hth
    go_wp2_with fail
    first | go_end0 | refine bodyPost_ret (results_none rfl _ _ _) rfl ?_
    refine ⟨rfl, _, ?_, T1.trans ((Turn.of_below _ ((Below.refl W.heap.size W).drew.drew)).trans T3)⟩
    rw [HW.out, if_pos h64]; exact D3
  · have h64' : ¬ (64 : Int) ≤ (i : Int) := by omega
    obtain ⟨w2, hr, hM, ht⟩ := (D1.newest.kept (w' := W.drew.drew) rfl).store Try.underlying63 (by show s.nN < maxLen; unfold maxLen; omega) hwf (.int .i64 (s.cw.length : Int))
    have c2 := D1.c2
    dsimp only at c2
    obtain ⟨D2, T2⟩ := (D1.kept (w' := W.drew.drew) (fun _ _ => rfl)).noted hM ht
    dsimp only at D2 T2
    have c2' := D2.c2
    have c3' := D2.c3
    dsimp only at c2' c3'
    have hNB : B ≠ N := fun e => hm.2 (.inr (.inr (.inl e)))
    have cB' : w2.cell? ⟨B, 0, none⟩ = some (.int .i64 at_) := (World.cell?_of_block (turned_other ht hNB)).trans cB
    have rB' : w2.rangeAt B 0 (wcells (at_, dat)) := fun i v hv => (World.cell?_of_block (turned_other ht hNB)).trans (rB i v hv)
    go_wp2_with fail
    go_region_held3 (fun w' => w'.cell? ⟨p, 3, none⟩ = some (.map (some N)) ∧ w'.cell? ⟨B, 0, none⟩ = some (.int .i64 at_) ∧ w'.cell? ⟨p, 2, none⟩ = some (.slice a s.cw.length cap)) (first | exact ⟨c3, cB, c2⟩ | exact ⟨c3', cB', c2'⟩) (fail)
    go_wp2_with fail
    have hl2 : p < w2.heap.size := D2.lt (.inl rfl)
    have hne2 : p ≠ w2.heap.size := by omega
    have hnv := heap_alloc_new w2 (.cells (wcells (at_, dat)).toArray 72)
    have hown := (D2.kept (w' := (w2.alloc (.cells (wcells (at_, dat)).toArray 72)).drew) (fun k hk => Below.heap_alloc w2 _ _ (D2.lt hk))).row
    obtain ⟨i0, hi0, hz0, hz1, hz2⟩ := info_parts info72
    have rB2 : ((w2.alloc (.cells (wcells (at_, dat)).toArray 72)).drew).rangeAt B 0 (wcells (at_, dat)) := World.rangeAt_alloc (w := w2) rB' _
    have hlc : (wcells (at_, dat)).length = 1 * 33 := hC
    have hlB : B < w2.heap.size := by have := World.block_lt_of_cell? w2 _ cB'; simpa using this
    dsimp only at hown
    have hBv : Value.ownBlock (.slice a s.cw.length cap) ≠ some B := fun e => hm.2 (.inr (.inr (.inr e)))
    clear cB c2 c3 hr hM ht cB' c3'
    refine wp_region_held_drew (S := fun w' => w'.rangeAt B 0 (wcells (at_, dat))) (by kernel_rfl) rB' (fun hHeld => ?_)
    refine wpAnyH_take (i := 0) (v := ptr p) rfl (by kernel_rfl) (by kernel_rfl) (by kernel_rfl) (fun _ _ _ h => h) (Or.inl ⟨by rfl, ?_⟩) (by assumption) ?_
    focus (intro w' hS1; go_simp)
    try simp only [List.getElem_toArray, List.getElem_cons_succ, List.getElem_cons_zero, Act.put, List.setIfInBounds_toArray, List.set_cons_zero, List.set_cons_succ]
    refine wpAnyH_take (i := 1) (v := ptr p) rfl (by kernel_rfl) (by kernel_rfl) (by kernel_rfl) (fun _ _ _ h => h) (Or.inl ⟨by rfl, ?_⟩) (by assumption) ?_
    focus (intro w' hS1; go_simp)
    try simp only [List.getElem_toArray, List.getElem_cons_succ, List.getElem_cons_zero, Act.put, List.setIfInBounds_toArray, List.set_cons_zero, List.set_cons_succ]
    refine wpAnyH_take (i := 2) (v := ptr p) rfl (by kernel_rfl) (by kernel_rfl) (by kernel_rfl) (fun _ _ _ h => h) (Or.inl ⟨by rfl, ?_⟩) (by assumption) ?_
    focus (intro w' hS1; go_simp)
    try simp only [List.getElem_toArray, List.getElem_cons_succ, List.getElem_cons_zero, Act.put, List.setIfInBounds_toArray, List.set_cons_zero, List.set_cons_succ]
    refine wpAnyH_take (i := 3) (v := .pointer (some ⟨p, 2, none⟩)) rfl (by kernel_rfl) (by kernel_rfl) (by kernel_rfl) (fun _ _ _ h => h) (Or.inl ⟨by rfl, ?_⟩) (by assumption) ?_
    focus (intro w' hS1; go_simp)
    try simp only [List.getElem_toArray, List.getElem_cons_succ, List.getElem_cons_zero, Act.put, List.setIfInBounds_toArray, List.set_cons_zero, List.set_cons_succ]
    refine wpAnyH_take (i := 5) (v := .agg (wcells (at_, dat)).toArray) rfl (by kernel_rfl) (by kernel_rfl) (by kernel_rfl) (fun _ _ _ h => h) (yieldsIf_load_mid (by rfl) _ _ rfl _ _ rfl (wcells (at_, dat)) _ (fun w' hw => hw) hu72 rfl hi72) (by assumption) ?_
    try simp only [List.getElem_toArray, List.getElem_cons_succ, List.getElem_cons_zero, Act.put, List.setIfInBounds_toArray, List.set_cons_zero, List.set_cons_succ]
    refine wpAnyH_ready (rs := [4, 6]) (by kernel_rfl) (by simp) ?_
    refine AllReadyH.cons (o := _) rfl (fun K hK => ?_) (AllReadyH.cons (o := _) rfl (fun K hK => ?_) AllReadyH.nil)
    · try simp only [List.getElem_toArray, List.getElem_cons_succ, List.getElem_cons_zero]
      rw [if_pos (by rfl)]
      go_simp
      refine hK.out _ _ rB' (fun hHeld => ?_)
      clear hK K
      try simp only [List.getElem_toArray, List.getElem_cons_succ, List.getElem_cons_zero, Act.put, List.setIfInBounds_toArray, List.set_cons_zero, List.set_cons_succ]
      refine wpAnyH_ready (rs := [6]) (by kernel_rfl) (by simp) ?_
      refine AllReadyH.cons (o := _) rfl (fun K hK => ?_) AllReadyH.nil
      try simp only [List.getElem_toArray, List.getElem_cons_succ, List.getElem_cons_zero]
      rw [if_pos (by rfl)]
      go_simp
      try rw [foldl_zip _ (wcells (at_, dat)) (by rw [hC]; rfl)]
      refine hK.out _ _ rB2 (fun hHeld => ?_)
      clear hK K
      try simp only [List.getElem_toArray, List.getElem_cons_succ, List.getElem_cons_zero, Act.put, List.setIfInBounds_toArray, List.set_cons_zero, List.set_cons_succ]
      refine wpAnyH_ready (rs := [7]) (by kernel_rfl) (by simp) ?_
      refine AllReadyH.cons (o := _) rfl (fun K hK => ?_) AllReadyH.nil
      try simp only [List.getElem_toArray, List.getElem_cons_succ, List.getElem_cons_zero]
      rw [if_pos (by rfl)]
      refine wp_append_lies _ (.tmp 43) (.tmp 45) 64 (by rfl) 0 72 i0 _ 33 40 Try.underlying64 hi0 hz0 hz1 hz2 rfl (by omega) (.slice a s.cw.length cap) s.cw.length (rows s.cw) (by rfl) hown
        ⟨w2.heap.size, 0, none⟩ 1 1 (wcells (at_, dat)) (by rfl) hlc (World.news_of_block (w := (w2.alloc (.cells (wcells (at_, dat)).toArray 72)).drew) hnv) hone2 (by omega) (by unfold maxLen; omega) (by omega) (Nat.zero_le _) (w2.heap.size + 1) (by simp) ?_
      intro gg cap2 w3 hown3 hgrow hat hlt
      obtain ⟨D4, T4, c3', f3', hrg⟩ := Disk.appended (D2.kept (w' := (w2.alloc (.cells (wcells (at_, dat)).toArray 72)).drew) (fun k hk => Below.heap_alloc w2 _ _ (D2.lt hk))) hown3 hgrow (hat.imp id (fun e => by rw [e]; simp)) (at_, dat)
      refine hK.out _ _ (hrg rB2 (by simp; omega) hBv) (fun hHeld => ?_)
      clear hK K
      try simp only [List.getElem_toArray, List.getElem_cons_succ, List.getElem_cons_zero, Act.put, List.setIfInBounds_toArray, List.set_cons_zero, List.set_cons_succ]
      refine wpAnyH_take (i := 8) (v := ptr p) rfl (by kernel_rfl) (by kernel_rfl) (by kernel_rfl) (fun _ _ _ h => h) (Or.inl ⟨by rfl, ?_⟩) (by assumption) ?_
      focus (intro w' hS1; go_simp)
      try simp only [List.getElem_toArray, List.getElem_cons_succ, List.getElem_cons_zero, Act.put, List.setIfInBounds_toArray, List.set_cons_zero, List.set_cons_succ]
      refine wpAnyH_take (i := 9) (v := .pointer (some ⟨p, 2, none⟩)) rfl (by kernel_rfl) (by kernel_rfl) (by kernel_rfl) (fun _ _ _ h => h) (Or.inl ⟨by rfl, ?_⟩) (by assumption) ?_
      focus (intro w' hS1; go_simp)
      try simp only [List.getElem_toArray, List.getElem_cons_succ, List.getElem_cons_zero, Act.put, List.setIfInBounds_toArray, List.set_cons_zero, List.set_cons_succ]
      refine wpAnyH_ready (rs := [10]) (by kernel_rfl) (by simp) ?_
      refine AllReadyH.cons (o := _) rfl (fun K hK => ?_) AllReadyH.nil
      try simp only [List.getElem_toArray, List.getElem_cons_succ, List.getElem_cons_zero]
      rw [if_pos (by rfl)]
      go_simp
      refine hK.out _ _ (rangeAt_setCell hHeld HN.out) (fun hHeld => ?_)
      clear hK K
      try simp only [List.getElem_toArray, List.getElem_cons_succ, List.getElem_cons_zero, Act.put, List.setIfInBounds_toArray, List.set_cons_zero, List.set_cons_succ]
      refine wpAnyH_done (by kernel_rfl) ?_ _
      go_wp2_with fail
      first | go_end0 | refine bodyPost_ret (results_none rfl _ _ _) rfl ?_
      refine ⟨rfl, _, ?_, ((T1.trans (Turn.of_below _ (Below.refl W.heap.size W).drew.drew)).trans T2).trans ((Turn.of_below _ (((Below.refl w2.heap.size w2).alloc (Nat.le_refl _) _).drew)).trans T4)⟩
      rw [HW.out, if_neg h64]; exact D4
    · try simp only [List.getElem_toArray, List.getElem_cons_succ, List.getElem_cons_zero]
      rw [if_pos (by rfl)]
      go_simp
      try rw [foldl_zip _ (wcells (at_, dat)) (by rw [hC]; rfl)]
      refine hK.out _ _ rB2 (fun hHeld => ?_)
      clear hK K
      try simp only [List.getElem_toArray, List.getElem_cons_succ, List.getElem_cons_zero, Act.put, List.setIfInBounds_toArray, List.set_cons_zero, List.set_cons_succ]
      refine wpAnyH_ready (rs := [4]) (by kernel_rfl) (by simp) ?_
      refine AllReadyH.cons (o := _) rfl (fun K hK => ?_) AllReadyH.nil
      try simp only [List.getElem_toArray, List.getElem_cons_succ, List.getElem_cons_zero]
      rw [if_pos (by rfl)]
      go_simp
      try rw [foldl_zip _ (wcells (at_, dat)) (by rw [hC]; rfl)]
      refine hK.out _ _ rB2 (fun hHeld => ?_)
      clear hK K
      try simp only [List.getElem_toArray, List.getElem_cons_succ, List.getElem_cons_zero, Act.put, List.setIfInBounds_toArray, List.set_cons_zero, List.set_cons_succ]
      refine wpAnyH_ready (rs := [7]) (by kernel_rfl) (by simp) ?_
      refine AllReadyH.cons (o := _) rfl (fun K hK => ?_) AllReadyH.nil
      try simp only [List.getElem_toArray, List.getElem_cons_succ, List.getElem_cons_zero]
      rw [if_pos (by rfl)]
      refine wp_append_lies _ (.tmp 43) (.tmp 45) 64 (by rfl) 0 72 i0 _ 33 40 Try.underlying64 hi0 hz0 hz1 hz2 rfl (by omega) (.slice a s.cw.length cap) s.cw.length (rows s.cw) (by rfl) hown
        ⟨w2.heap.size, 0, none⟩ 1 1 (wcells (at_, dat)) (by rfl) hlc (World.news_of_block (w := (w2.alloc (.cells (wcells (at_, dat)).toArray 72)).drew) hnv) hone2 (by omega) (by unfold maxLen; omega) (by omega) (Nat.zero_le _) (w2.heap.size + 1) (by simp) ?_
      intro gg cap2 w3 hown3 hgrow hat hlt
      obtain ⟨D4, T4, c3', f3', hrg⟩ := Disk.appended (D2.kept (w' := (w2.alloc (.cells (wcells (at_, dat)).toArray 72)).drew) (fun k hk => Below.heap_alloc w2 _ _ (D2.lt hk))) hown3 hgrow (hat.imp id (fun e => by rw [e]; simp)) (at_, dat)
      refine hK.out _ _ (hrg rB2 (by simp; omega) hBv) (fun hHeld => ?_)
      clear hK K
      try simp only [List.getElem_toArray, List.getElem_cons_succ, List.getElem_cons_zero, Act.put, List.setIfInBounds_toArray, List.set_cons_zero, List.set_cons_succ]
      refine wpAnyH_take (i := 8) (v := ptr p) rfl (by kernel_rfl) (by kernel_rfl) (by kernel_rfl) (fun _ _ _ h => h) (Or.inl ⟨by rfl, ?_⟩) (by assumption) ?_
      focus (intro w' hS1; go_simp)
      try simp only [List.getElem_toArray, List.getElem_cons_succ, List.getElem_cons_zero, Act.put, List.setIfInBounds_toArray, List.set_cons_zero, List.set_cons_succ]
      refine wpAnyH_take (i := 9) (v := .pointer (some ⟨p, 2, none⟩)) rfl (by kernel_rfl) (by kernel_rfl) (by kernel_rfl) (fun _ _ _ h => h) (Or.inl ⟨by rfl, ?_⟩) (by assumption) ?_
      focus (intro w' hS1; go_simp)
      try simp only [List.getElem_toArray, List.getElem_cons_succ, List.getElem_cons_zero, Act.put, List.setIfInBounds_toArray, List.set_cons_zero, List.set_cons_succ]
      refine wpAnyH_ready (rs := [10]) (by kernel_rfl) (by simp) ?_
      refine AllReadyH.cons (o := _) rfl (fun K hK => ?_) AllReadyH.nil
      try simp only [List.getElem_toArray, List.getElem_cons_succ, List.getElem_cons_zero]
      rw [if_pos (by rfl)]
      go_simp
      refine hK.out _ _ (rangeAt_setCell hHeld HN.out) (fun hHeld => ?_)
      clear hK K
      try simp only [List.getElem_toArray, List.getElem_cons_succ, List.getElem_cons_zero, Act.put, List.setIfInBounds_toArray, List.set_cons_zero, List.set_cons_succ]
      refine wpAnyH_done (by kernel_rfl) ?_ _
      go_wp2_with fail
      first | go_end0 | refine bodyPost_ret (results_none rfl _ _ _) rfl ?_
      refine ⟨rfl, _, ?_, ((T1.trans (Turn.of_below _ (Below.refl W.heap.size W).drew.drew)).trans T2).trans ((Turn.of_below _ (((Below.refl w2.heap.size w2).alloc (Nat.le_refl _) _).drew)).trans T4)⟩
      rw [HW.out, if_neg h64]; exact D4
end Go.Proofs.Ytdgbfkedgedogaa
