/- The document's write. -/
import Derived.Test.YtdgbfkedgedogaaRefCount
namespace Go.Proofs.Ytdgbfkedgedogaa
open Go.RowKit Go.Maps
theorem info76 : (Try.prog.info? 76).map (fun i => (i.zero, i.size, i.bytes)) = some (some (.agg #[.int .i64 0, .string ⟨#[]⟩]), 2, 24) := by kernel_rfl
theorem wrow_length (l : List (Int × ByteArray)) : (wrow l).length = l.length * 2 := by
  induction l with
  | nil => rfl
  | cons x l ih => show (wcell2 x ++ wrow l).length = _; rw [List.length_append, ih, List.length_cons]; show 2 + _ = _; omega
theorem wrow_one {l : List (Int × ByteArray)} {u : Value} (h : u ∈ wrow l) : u.oneCell' = true := by
  unfold wrow at h
  obtain ⟨x, _, hu⟩ := List.mem_flatMap.1 h
  unfold wcell2 at hu
  simp only [List.mem_cons, List.not_mem_nil, or_false] at hu
  rcases hu with rfl | rfl <;> rfl
theorem copy_waits {ops : Array Oper} {rest : List Oper} {o : Oper} {a : Act} {w : World} {Q : Exit → Act → World → Prop} (hgd : o.guard = none) (s x : Operand) (ho : o.op = .call { callee := .builtin .append, args := #[s, x], argTypes := #[30, 30] })
    (B : Nat) (hs : a.eval s = .slice (some ⟨B, 0, none⟩) 0 0) (wa : Option Addr) (wn wc : Nat) (l : List (Int × ByteArray)) (hx : a.eval x = .slice wa wn wc) (hB : w.heap[B]? = some (.cells #[] 76 (0, 0))) (hrow : w.ownsRow 0 76 2 (.slice wa wn wc) wn (wrow l)) (hn : wn = l.length) (hm : wn ≤ 200) (H : Nat) (hH : w.heap.size = H)
    (h : ∀ g' cap' w', w'.ownsRow 0 76 2 (.slice (some ⟨g', 0, none⟩) wn cap') wn (wrow l) → w.grownBy w' (some B) → (some B = some g' ∨ g' = H) → wpList Try.prog ops Q rest (a.put o.dst (.slice (some ⟨g', 0, none⟩) wn cap')) w') : wpList Try.prog ops Q (o :: rest) a w := by
  obtain ⟨i0, hi0, hz0, hz1, hz2⟩ := info_parts info76
  have hoB : w.ownsRow 0 76 2 (.slice (some ⟨B, 0, none⟩) 0 0) 0 [] := ⟨rfl, .inr ⟨B, 0, #[], rfl, Nat.zero_le _, hB, Nat.le_refl _, by decide, rfl, rfl⟩⟩
  obtain ⟨a0, cap, e, hcap, hcm, ha⟩ := slice_form hrow
  injection e with e1 _ e3
  subst e1 e3
  rcases Nat.eq_zero_or_pos wn with h0 | hpos
  · subst h0
    have hl0 : l = [] := List.eq_nil_of_length_eq_zero hn.symm
    subst hl0
    have hnone : wa = none → wc = 0 := fun e => by
      rcases hrow.2 with ⟨e2, _⟩ | ⟨g, cap, cur, e2, _⟩
      · injection e2
      · rw [e] at e2; injection e2 with e2; cases e2
    refine wpList_append_fits_any w hgd s x 30 ho 0 76 i0 2 Try.underlying30 hi0 hz1 B 0 0 [] hs hoB wa 0 wc [] hx rfl (fun e => ⟨rfl, hnone e⟩) (fun ad _ j u hu => by simp at hu) (fun u hu => by cases hu) (Nat.le_refl _) ?_
    intro w' h1 h2
    exact h B 0 w' h1 h2 (.inl rfl)
  · obtain ⟨g, rfl⟩ := ha hpos
    refine wpList_append_lies w hgd s x 30 ho 0 76 i0 _ 2 24 Try.underlying30 hi0 hz0 hz1 hz2 rfl (by omega) _ 0 [] hs hoB ⟨g, 0, none⟩ wn wc (wrow l) hx (by rw [wrow_length, hn]) (hrow.cells (g := g) rfl) (fun u hu => wrow_one hu) hpos (by unfold maxLen; omega) (by omega) (Nat.zero_le _) H hH ?_
    intro g' cap' w' h1 h2 h3 _
    rw [Nat.zero_add] at h1 ⊢
    exact h g' cap' w' (by simpa using h1) h2 h3
def RSt.waited (r : RSt) (a : Int) (d : ByteArray) : RSt := { r with wait := r.wait ++ [(a, lstr (pad d))] }
def RSt.out (r : RSt) (a : Int) : Bool := decide (a < 0) || decide ((r.lasts.length : Int) ≤ a)
def RSt.put (r : RSt) (a : Int) (d : ByteArray) : RSt := if r.off || r.out a || decide (32 < d.size) then r else (r.waited a d).counted
def RSt.putE (r : RSt) (a : Int) (d : ByteArray) : Int := if r.off then 7 else if r.out a then 1 else if 32 < d.size then 3 else if r.hits then 7 else 0
theorem load35 {ops : Array Oper} {rest : List Oper} {o : Oper} {a : Act} {w : World} {Q : Exit → Act → World → Prop} (hgd : o.guard = none) (x : Operand) (ho : o.op = .load 35 x)
    (g : Nat) (cs : Array Value) (hx : a.eval x = .pointer (some ⟨g, 0, none⟩)) (hg : w.heap[g]? = some (.cells cs 35 (0, 0))) (hs : cs.size = 6)
    (h : wpList Try.prog ops Q rest (a.put o.dst (.agg cs)) w) : wpList Try.prog ops Q (o :: rest) a w := by
  refine wpList_load_mid hgd 35 x ho g 0 hx cs.toList _ (fun j v hv => ?_) Try.underlying35 rfl (by rw [Array.length_toList, hs]; exact size35) (by simpa using h)
  rw [cell_block hg (0 + j), Nat.zero_add]
  simpa using hv
theorem three_allocs (w : World) (c0 c1 c2 : Array Value) (t : TypeId) :
    (((w.alloc (.cells c0 35)).alloc (.cells c1 35)).alloc (.cells c2 t)).heap[w.heap.size]? = some (.cells c0 35 (0, 0)) ∧ (((w.alloc (.cells c0 35)).alloc (.cells c1 35)).alloc (.cells c2 t)).heap[w.heap.size + 1]? = some (.cells c1 35 (0, 0)) ∧
      (((w.alloc (.cells c0 35)).alloc (.cells c1 35)).alloc (.cells c2 t)).heap[w.heap.size + 1 + 1]? = some (.cells c2 t (0, 0)) ∧ (((w.alloc (.cells c0 35)).alloc (.cells c1 35)).alloc (.cells c2 t)).heap.size = w.heap.size + 1 + 1 + 1 := by
  have e1 : (w.alloc (.cells c0 35)).heap.size = w.heap.size + 1 := by simp
  have e2 : ((w.alloc (.cells c0 35)).alloc (.cells c1 35)).heap.size = w.heap.size + 1 + 1 := by simp
  have h1 := heap_alloc_new (w.alloc (.cells c0 35)) (.cells c1 35)
  have h2 := heap_alloc_new ((w.alloc (.cells c0 35)).alloc (.cells c1 35)) (.cells c2 t)
  rw [e1] at h1
  rw [e2] at h2
  exact ⟨(Below.heap_alloc _ _ _ (by omega)).trans ((Below.heap_alloc _ _ _ (by omega)).trans (heap_alloc_new _ _)), (Below.heap_alloc _ _ _ (by omega)).trans h1, h2, by simp⟩
set_option maxRecDepth 100000 in
set_option maxHeartbeats 2000000 in
theorem rput_any (g ln lc : Nat) (wa : Option Addr) (wn wc : Nat) (r : RSt) (at_ : Int) (dat : ByteArray) (w : World) (R : RD w (.slice (some ⟨g, 0, none⟩) ln lc) (.slice wa wn wc) r) (hw200 : r.wait.length + 1 ≤ 200) (hl100 : r.lasts.length ≤ 100) (ok : r.out at_ = false → (r.waited at_ dat).ticked.Ok) (h0 : 0 ≤ r.count) (hln : ln = r.lasts.length) (hwn : wn = r.wait.length) (hd : dat.size ≤ maxLen) :
    Calls Try.prog 13 #[rvs (some ⟨g, 0, none⟩) ln lc wa wn wc r, .int .i64 at_, .string dat] w fun e w' => ∃ g' lc' wa' wn' wc', e = .returned (.tuple #[rvs (some ⟨g', 0, none⟩) ln lc' wa' wn' wc' (r.put at_ dat), .int .i64 (r.putE at_ dat)]) ∧ RD w' (.slice (some ⟨g', 0, none⟩) ln lc') (.slice wa' wn' wc') (r.put at_ dat) ∧ wn' = (r.put at_ dat).wait.length ∧
      (∀ k, foot (.slice (some ⟨g', 0, none⟩) ln lc') (.slice wa' wn' wc') k → foot (.slice (some ⟨g, 0, none⟩) ln lc) (.slice wa wn wc) k ∨ w.heap.size ≤ k) ∧ Below w.heap.size w w' := by
  subst hln hwn
  obtain ⟨lasts, wait, cut, keep, count, off⟩ := r
  obtain ⟨i0, hi0, hz0, hz1, hz2⟩ := info_parts info76
  dsimp only at h0 R ⊢
  have hwm : wait.length + 1 ≤ 200 := hw200
  have hlm : lasts.length ≤ 100 := hl100
  have hb2 := fun b1 b2 => below2 w b1 b2
  have HR : Hid ((RSt.mk lasts wait cut keep count off).put at_ dat = if off || (RSt.mk lasts wait cut keep count off).out at_ || decide (32 < dat.size) then ⟨lasts, wait, cut, keep, count, off⟩ else ((RSt.mk lasts wait cut keep count off).waited at_ dat).counted) := rfl
  have HE : Hid ((RSt.mk lasts wait cut keep count off).putE at_ dat = if off then 7 else if (RSt.mk lasts wait cut keep count off).out at_ then 1 else if 32 < dat.size then 3 else if (RSt.mk lasts wait cut keep count off).hits then 7 else 0) := rfl
  have fin : ∀ (b1 b2 : Obj) (v : Value), (RSt.mk lasts wait cut keep count off).put at_ dat = ⟨lasts, wait, cut, keep, count, off⟩ → v = .int .i64 ((RSt.mk lasts wait cut keep count off).putE at_ dat) →
      ∃ g' lc' wa' wn' wc', Ending.returned (.tuple #[rvs (some ⟨g, 0, none⟩) lasts.length lc wa wait.length wc ⟨lasts, wait, cut, keep, count, off⟩, v]) = .returned (.tuple #[rvs (some ⟨g', 0, none⟩) lasts.length lc' wa' wn' wc' ((RSt.mk lasts wait cut keep count off).put at_ dat), .int .i64 ((RSt.mk lasts wait cut keep count off).putE at_ dat)]) ∧
      RD ((w.alloc b1).alloc b2) (.slice (some ⟨g', 0, none⟩) lasts.length lc') (.slice wa' wn' wc') ((RSt.mk lasts wait cut keep count off).put at_ dat) ∧ wn' = ((RSt.mk lasts wait cut keep count off).put at_ dat).wait.length ∧
      (∀ k, foot (.slice (some ⟨g', 0, none⟩) lasts.length lc') (.slice wa' wn' wc') k → foot (.slice (some ⟨g, 0, none⟩) lasts.length lc) (.slice wa wait.length wc) k ∨ w.heap.size ≤ k) ∧ Below w.heap.size w ((w.alloc b1).alloc b2) := by
    intro b1 b2 v hp hv
    rw [hp, hv]
    exact ⟨g, lc, wa, wait.length, wc, rfl, R.below (hb2 _ _), rfl, fun k hk => .inl hk, hb2 _ _⟩
  have HF := Lib.hid fin
  clear fin
  unfold rvs rv
  go_enter Try.func13, Try.ntmps13
  cases off
  · by_cases hlo : at_ < 0
    · go_wp2_with fail
      refine bodyPost_ret_by (results_cell_two rfl _ _ (w.heap.size + 1) _ rfl (cell_last _ _ _ (by simp)) rfl) rfl ?_
      have ho : (RSt.mk lasts wait cut keep count false).out at_ = true := by unfold RSt.out; rw [decide_eq_true hlo]; rfl
      exact HF.out _ _ _ (by rw [HR.out, ho]; rfl) (by rw [HE.out, ho]; rfl)
    · by_cases hhi : (lasts.length : Int) ≤ at_
      · go_wp2_with fail
        refine bodyPost_ret_by (results_cell_two rfl _ _ (w.heap.size + 1) _ rfl (cell_last _ _ _ (by simp)) rfl) rfl ?_
        have ho : (RSt.mk lasts wait cut keep count false).out at_ = true := by unfold RSt.out; rw [decide_eq_true hhi, Bool.or_true]
        exact HF.out _ _ _ (by rw [HR.out, ho]; rfl) (by rw [HE.out, ho]; rfl)
      · have ho : Hid ((RSt.mk lasts wait cut keep count false).out at_ = false) := by unfold RSt.out; rw [decide_eq_false hlo, decide_eq_false hhi]; exact rfl
        by_cases h32 : 32 < dat.size
        · have h32' : (32 : Int) < (dat.size : Int) := by omega
          go_wp2_with fail
          refine bodyPost_ret_by (results_cell_two rfl _ _ (w.heap.size + 1) _ rfl (cell_last _ _ _ (by simp)) rfl) rfl ?_
          exact HF.out _ _ _ (by rw [HR.out, ho.out, decide_eq_true h32]; rfl) (by rw [HE.out, ho.out, if_pos h32]; rfl)
        · have h32' : ¬ (32 : Int) < (dat.size : Int) := by omega
          have HR2 : Hid ((RSt.mk lasts wait cut keep count false).put at_ dat = ((RSt.mk lasts wait cut keep count false).waited at_ dat).counted) := by rw [HR.out, ho.out, decide_eq_false h32]; exact rfl
          have HE2 : Hid ((RSt.mk lasts wait cut keep count false).putE at_ dat = if (RSt.mk lasts wait cut keep count false).hits then 7 else 0) := by rw [HE.out, ho.out, if_neg h32]; exact rfl
          have HK := Lib.hid (ok ho.out)
          have hgl : g < w.heap.size := (R.lasts.lt g rfl).2
          obtain ⟨hbx3, hrs3, hB3, hz3⟩ := three_allocs w #[.slice (some ⟨g, 0, none⟩) lasts.length lc, .slice wa wait.length wc, .int .i64 cut, .int .u64 (u64 keep), .int .i64 count, .bool false] #[.slice none 0 0, .slice none 0 0, .int .i64 0, .int .u64 0, .int .i64 0, .bool false] #[] 76
          have hb3 : Below w.heap.size w _ := below3 w (.cells #[.slice (some ⟨g, 0, none⟩) lasts.length lc, .slice wa wait.length wc, .int .i64 cut, .int .u64 (u64 keep), .int .i64 count, .bool false] 35) (.cells #[.slice none 0 0, .slice none 0 0, .int .i64 0, .int .u64 0, .int .i64 0, .bool false] 35) (.cells #[] 76)
          have R3 := R.below hb3
          clear hb2 HF HR HE ho ok
          generalize hw3 : World.alloc (World.alloc (World.alloc w _) _) _ = w3 at hbx3 hrs3 hB3 hz3 hb3 R3
          have HW3 := Lib.hid hw3
          clear hw3
          cases hb : (RSt.mk lasts wait cut keep count false).hits
          · go_wp2_with (first
              | (at_builtin; rw [HW3.out]; refine copy_waits rfl _ _ rfl (w.heap.size + 1 + 1) (by rfl) wa wait.length wc wait (by rfl) hB3 R3.wait rfl (by omega) _ rfl ?_; intro g4 cap4 w4 hown4 hgrow4 hat4
                 have hbx4 := (hgrow4.block w.heap.size (by omega) (by intro e; injection e with e; omega)).trans hbx3
                 have hrs4 := (hgrow4.block (w.heap.size + 1) (by omega) (by intro e; injection e with e; omega)).trans hrs3
                 have hb4 := hb3.grown hgrow4 (by omega) (by intro k hk; injection hk with hk; omega)
                 have hg4 : w.heap.size + 2 ≤ g4 ∧ g4 < w4.heap.size := by
                   have h1 := (hown4.lt g4 rfl).2
                   rcases hat4 with e | e
                   · injection e with e; omega
                   · omega)
              | (go_at_call 26; refine (fill_any dat _ (by omega)).mono ?_; rintro e w' ⟨rfl, rfl⟩)
              | (at_builtin; (refine wpList_append_lies _ rfl _ _ _ rfl 0 76 i0 _ 2 24 Try.underlying30 hi0 hz0 hz1 hz2 rfl (by omega) (.slice (some ⟨g4, 0, none⟩) wait.length cap4) wait.length (wrow wait) (by rfl) (owns_below hown4 ((Below.refl _ _).alloc (Nat.le_refl _) _)) ⟨w4.heap.size, 0, none⟩ 1 1 [.int .i64 at_, .string (lstr (pad dat))] (by rfl) (by rfl) (World.news_of_block (heap_alloc_new w4 _)) (by simp [Value.oneCell']) (by omega) (by unfold maxLen; omega) (by omega) (Nat.zero_le _) _ rfl ?_); intro g5 cap5 w5 hown5 hgrow5 hat5 hlt5
                 change World.grownBy _ w5 (some g4) at hgrow5
                 change some g4 = some g5 ∨ _ at hat5
                 have hbx5 := (hgrow5.block w.heap.size (by simp; omega) (by intro e; injection e with e; omega)).trans ((Below.heap_alloc _ _ _ (by omega)).trans hbx4)
                 have hrs5 := (hgrow5.block (w.heap.size + 1) (by simp; omega) (by intro e; injection e with e; omega)).trans ((Below.heap_alloc _ _ _ (by omega)).trans hrs4)
                 have hb5 := (hb4.alloc (by omega) (.cells #[.int .i64 at_, .string (lstr (pad dat))] 76)).grown hgrow5 (by simp; omega) (by intro k hk; injection hk with hk; omega)
                 have hg5 : w.heap.size + 2 ≤ g5 := by
                   rcases hat5 with e | e
                   · injection e with e; omega
                   · simp at e; omega
                 have c1 := cell_block hbx5 1
                 have f1 := free_block hbx5 1
                 have hbx6 : (w5.setCell ⟨w.heap.size, 1, none⟩ (.slice (some ⟨g5, 0, none⟩) (wait.length + 1) cap5)).heap[w.heap.size]? = some (.cells #[.slice (some ⟨g, 0, none⟩) lasts.length lc, .slice (some ⟨g5, 0, none⟩) (wait.length + 1) cap5, .int .i64 cut, .int .u64 (u64 keep), .int .i64 count, .bool false] 35 (0, 0)) := block_setCell hbx5 _)
              | (refine load35 rfl (.tmp 3) rfl w.heap.size _ (by rfl) hbx6 rfl ?_
                 have hb6 := hb5.setCell (p := ⟨w.heap.size, 1, none⟩) (Nat.le_refl _) (.slice (some ⟨g5, 0, none⟩) (wait.length + 1) cap5)
                 have R6 : RD (w5.setCell ⟨w.heap.size, 1, none⟩ (.slice (some ⟨g5, 0, none⟩) (wait.length + 1) cap5)) (.slice (some ⟨g, 0, none⟩) lasts.length lc) (.slice (some ⟨g5, 0, none⟩) (wait.length + 1) cap5) ((RSt.mk lasts wait cut keep count false).waited at_ dat) :=
                   ⟨owns_below R.lasts hb6, by
                     have := owns_kept (w' := w5.setCell ⟨w.heap.size, 1, none⟩ (.slice (some ⟨g5, 0, none⟩) (wait.length + 1) cap5)) hown5 (fun k hk => Below.heap_setCell _ _ _ _ (by rw [show k = g5 from (Option.some.inj hk).symm]; show g5 ≠ w.heap.size; omega))
                     unfold RSt.waited wrow
                     rw [List.length_append, List.flatMap_append]
                     exact this⟩
                 have hrs6 := (Below.heap_setCell w5 ⟨w.heap.size, 1, none⟩ (.slice (some ⟨g5, 0, none⟩) (wait.length + 1) cap5) (w.heap.size + 1) (by show w.heap.size + 1 ≠ w.heap.size; omega)).trans hrs5
                 have hz6 : w.heap.size + 2 ≤ (w5.setCell ⟨w.heap.size, 1, none⟩ (.slice (some ⟨g5, 0, none⟩) (wait.length + 1) cap5)).heap.size := by
                   have h1 := (R6.wait.lt g5 rfl).2
                   omega
                 clear hown5 hgrow5 hat5 hlt5 hbx5 hrs5 hown4 hgrow4 hat4 hbx4 hrs4 hb4 hg4 c1 f1 hbx3 hrs3 hB3 hb3 R3)
              | (go_at_call 30; refine (rcount_any g lasts.length lc (some ⟨g5, 0, none⟩) (wait.length + 1) cap5 ((RSt.mk lasts wait cut keep count false).waited at_ dat) _ R6 HK.out h0 rfl (by unfold RSt.waited; simp)).mono ?_; rintro e w7 ⟨g7, lc7, wa7, _, wc7, rfl, R7, rfl, hf7, hB7⟩
                 have hbx7 := (hB7.block w.heap.size (by omega)).trans hbx6
                 have hrs7 := (hB7.block (w.heap.size + 1) (by omega)).trans hrs6
                 have hf : ∀ k, foot (.slice (some ⟨g7, 0, none⟩) lasts.length lc7) (.slice wa7 ((RSt.mk lasts wait cut keep count false).waited at_ dat).counted.wait.length wc7) k → (foot (.slice (some ⟨g, 0, none⟩) lasts.length lc) (.slice wa wait.length wc) k ∧ k < w.heap.size) ∨ w.heap.size + 2 ≤ k := fun k hk => by
                   rcases hf7 k hk with hk | hk
                   · rcases hk with hk | hk
                     · left; refine ⟨.inl hk, ?_⟩; rw [show k = g from (Option.some.inj hk).symm]; exact hgl
                     · right; rw [show k = g5 from (Option.some.inj hk).symm]; exact hg5
                   · right; omega
                 have hb7 := hb6.trans (hB7.mono (by omega))
                 clear hf7 hB7 hbx6 hrs6 R6 hb6 hb5 hz6
                 dsimp only
                 rw [show ((RSt.mk lasts wait cut keep count false).waited at_ dat).hits = false from hb])
              | (refine store35 rfl (.tmp 3) (.tmp 40) rfl w.heap.size _ _ (by rfl) (by rfl) hbx7 rfl rfl (one6 _ _ _ _ _ _ rfl rfl rfl rfl rfl rfl) ?_; intro w8 hw8 hk8 hs8 hbl8
                 have hrs8 := (hk8 (w.heap.size + 1) (by omega)).trans hrs7
                 have R8 := R7.kept (w' := w8) (fun k hk => hk8 k (by rcases hf k hk with ⟨_, h⟩ | h <;> omega))
                 have hb8 := hbl8 _ _ (Nat.le_refl _) hb7
                 clear hbx7 hrs7 R7 hb7)
              | (refine load35 rfl (.tmp 3) rfl w.heap.size _ (by rfl) hw8 rfl ?_)
              | (refine store35 rfl (.tmp 6) (.tmp 44) rfl (w.heap.size + 1) _ _ (by rfl) (by rfl) hrs8 rfl rfl (one6 _ _ _ _ _ _ rfl rfl rfl rfl rfl rfl) ?_; intro w9 hw9 hk9 hs9 hbl9)
              | fail)
            refine bodyPost_ret_by (results_cell_two rfl _ _ (w.heap.size + 1) _ rfl hw9 rfl) rfl ?_
            rw [HR2.out, HE2.out, hb]
            exact ⟨g7, lc7, wa7, _, wc7, rfl, R8.kept (fun k hk => hk9 k (by rcases hf k hk with ⟨_, h⟩ | h <;> omega)), rfl, fun k hk => (hf k hk).imp (fun h => h.1) (fun h => by omega), hbl9 _ _ (by omega) hb8⟩
          · go_wp2_with (first
              | (at_builtin; rw [HW3.out]; refine copy_waits rfl _ _ rfl (w.heap.size + 1 + 1) (by rfl) wa wait.length wc wait (by rfl) hB3 R3.wait rfl (by omega) _ rfl ?_; intro g4 cap4 w4 hown4 hgrow4 hat4
                 have hbx4 := (hgrow4.block w.heap.size (by omega) (by intro e; injection e with e; omega)).trans hbx3
                 have hrs4 := (hgrow4.block (w.heap.size + 1) (by omega) (by intro e; injection e with e; omega)).trans hrs3
                 have hb4 := hb3.grown hgrow4 (by omega) (by intro k hk; injection hk with hk; omega)
                 have hg4 : w.heap.size + 2 ≤ g4 ∧ g4 < w4.heap.size := by
                   have h1 := (hown4.lt g4 rfl).2
                   rcases hat4 with e | e
                   · injection e with e; omega
                   · omega)
              | (go_at_call 26; refine (fill_any dat _ (by omega)).mono ?_; rintro e w' ⟨rfl, rfl⟩)
              | (at_builtin; (refine wpList_append_lies _ rfl _ _ _ rfl 0 76 i0 _ 2 24 Try.underlying30 hi0 hz0 hz1 hz2 rfl (by omega) (.slice (some ⟨g4, 0, none⟩) wait.length cap4) wait.length (wrow wait) (by rfl) (owns_below hown4 ((Below.refl _ _).alloc (Nat.le_refl _) _)) ⟨w4.heap.size, 0, none⟩ 1 1 [.int .i64 at_, .string (lstr (pad dat))] (by rfl) (by rfl) (World.news_of_block (heap_alloc_new w4 _)) (by simp [Value.oneCell']) (by omega) (by unfold maxLen; omega) (by omega) (Nat.zero_le _) _ rfl ?_); intro g5 cap5 w5 hown5 hgrow5 hat5 hlt5
                 change World.grownBy _ w5 (some g4) at hgrow5
                 change some g4 = some g5 ∨ _ at hat5
                 have hbx5 := (hgrow5.block w.heap.size (by simp; omega) (by intro e; injection e with e; omega)).trans ((Below.heap_alloc _ _ _ (by omega)).trans hbx4)
                 have hrs5 := (hgrow5.block (w.heap.size + 1) (by simp; omega) (by intro e; injection e with e; omega)).trans ((Below.heap_alloc _ _ _ (by omega)).trans hrs4)
                 have hb5 := (hb4.alloc (by omega) (.cells #[.int .i64 at_, .string (lstr (pad dat))] 76)).grown hgrow5 (by simp; omega) (by intro k hk; injection hk with hk; omega)
                 have hg5 : w.heap.size + 2 ≤ g5 := by
                   rcases hat5 with e | e
                   · injection e with e; omega
                   · simp at e; omega
                 have c1 := cell_block hbx5 1
                 have f1 := free_block hbx5 1
                 have hbx6 : (w5.setCell ⟨w.heap.size, 1, none⟩ (.slice (some ⟨g5, 0, none⟩) (wait.length + 1) cap5)).heap[w.heap.size]? = some (.cells #[.slice (some ⟨g, 0, none⟩) lasts.length lc, .slice (some ⟨g5, 0, none⟩) (wait.length + 1) cap5, .int .i64 cut, .int .u64 (u64 keep), .int .i64 count, .bool false] 35 (0, 0)) := block_setCell hbx5 _)
              | (refine load35 rfl (.tmp 3) rfl w.heap.size _ (by rfl) hbx6 rfl ?_
                 have hb6 := hb5.setCell (p := ⟨w.heap.size, 1, none⟩) (Nat.le_refl _) (.slice (some ⟨g5, 0, none⟩) (wait.length + 1) cap5)
                 have R6 : RD (w5.setCell ⟨w.heap.size, 1, none⟩ (.slice (some ⟨g5, 0, none⟩) (wait.length + 1) cap5)) (.slice (some ⟨g, 0, none⟩) lasts.length lc) (.slice (some ⟨g5, 0, none⟩) (wait.length + 1) cap5) ((RSt.mk lasts wait cut keep count false).waited at_ dat) :=
                   ⟨owns_below R.lasts hb6, by
                     have := owns_kept (w' := w5.setCell ⟨w.heap.size, 1, none⟩ (.slice (some ⟨g5, 0, none⟩) (wait.length + 1) cap5)) hown5 (fun k hk => Below.heap_setCell _ _ _ _ (by rw [show k = g5 from (Option.some.inj hk).symm]; show g5 ≠ w.heap.size; omega))
                     unfold RSt.waited wrow
                     rw [List.length_append, List.flatMap_append]
                     exact this⟩
                 have hrs6 := (Below.heap_setCell w5 ⟨w.heap.size, 1, none⟩ (.slice (some ⟨g5, 0, none⟩) (wait.length + 1) cap5) (w.heap.size + 1) (by show w.heap.size + 1 ≠ w.heap.size; omega)).trans hrs5
                 have hz6 : w.heap.size + 2 ≤ (w5.setCell ⟨w.heap.size, 1, none⟩ (.slice (some ⟨g5, 0, none⟩) (wait.length + 1) cap5)).heap.size := by
                   have h1 := (R6.wait.lt g5 rfl).2
                   omega
                 clear hown5 hgrow5 hat5 hlt5 hbx5 hrs5 hown4 hgrow4 hat4 hbx4 hrs4 hb4 hg4 c1 f1 hbx3 hrs3 hB3 hb3 R3)
              | (go_at_call 30; refine (rcount_any g lasts.length lc (some ⟨g5, 0, none⟩) (wait.length + 1) cap5 ((RSt.mk lasts wait cut keep count false).waited at_ dat) _ R6 HK.out h0 rfl (by unfold RSt.waited; simp)).mono ?_; rintro e w7 ⟨g7, lc7, wa7, _, wc7, rfl, R7, rfl, hf7, hB7⟩
                 have hbx7 := (hB7.block w.heap.size (by omega)).trans hbx6
                 have hrs7 := (hB7.block (w.heap.size + 1) (by omega)).trans hrs6
                 have hf : ∀ k, foot (.slice (some ⟨g7, 0, none⟩) lasts.length lc7) (.slice wa7 ((RSt.mk lasts wait cut keep count false).waited at_ dat).counted.wait.length wc7) k → (foot (.slice (some ⟨g, 0, none⟩) lasts.length lc) (.slice wa wait.length wc) k ∧ k < w.heap.size) ∨ w.heap.size + 2 ≤ k := fun k hk => by
                   rcases hf7 k hk with hk | hk
                   · rcases hk with hk | hk
                     · left; refine ⟨.inl hk, ?_⟩; rw [show k = g from (Option.some.inj hk).symm]; exact hgl
                     · right; rw [show k = g5 from (Option.some.inj hk).symm]; exact hg5
                   · right; omega
                 have hb7 := hb6.trans (hB7.mono (by omega))
                 clear hf7 hB7 hbx6 hrs6 R6 hb6 hb5 hz6
                 dsimp only
                 rw [show ((RSt.mk lasts wait cut keep count false).waited at_ dat).hits = true from hb])
              | (refine store35 rfl (.tmp 3) (.tmp 40) rfl w.heap.size _ _ (by rfl) (by rfl) hbx7 rfl rfl (one6 _ _ _ _ _ _ rfl rfl rfl rfl rfl rfl) ?_; intro w8 hw8 hk8 hs8 hbl8
                 have hrs8 := (hk8 (w.heap.size + 1) (by omega)).trans hrs7
                 have R8 := R7.kept (w' := w8) (fun k hk => hk8 k (by rcases hf k hk with ⟨_, h⟩ | h <;> omega))
                 have hb8 := hbl8 _ _ (Nat.le_refl _) hb7
                 clear hbx7 hrs7 R7 hb7)
              | (refine load35 rfl (.tmp 3) rfl w.heap.size _ (by rfl) hw8 rfl ?_)
              | (refine store35 rfl (.tmp 6) (.tmp 43) rfl (w.heap.size + 1) _ _ (by rfl) (by rfl) hrs8 rfl rfl (one6 _ _ _ _ _ _ rfl rfl rfl rfl rfl rfl) ?_; intro w9 hw9 hk9 hs9 hbl9)
              | fail)
            refine bodyPost_ret_by (results_cell_two rfl _ _ (w.heap.size + 1) _ rfl hw9 rfl) rfl ?_
            rw [HR2.out, HE2.out, hb]
            exact ⟨g7, lc7, wa7, _, wc7, rfl, R8.kept (fun k hk => hk9 k (by rcases hf k hk with ⟨_, h⟩ | h <;> omega)), rfl, fun k hk => (hf k hk).imp (fun h => h.1) (fun h => by omega), hbl9 _ _ (by omega) hb8⟩
  · go_wp2_with fail
    refine bodyPost_ret_by (results_cell_two rfl _ _ (w.heap.size + 1) _ rfl (cell_last _ _ _ (by simp)) rfl) rfl ?_
    exact HF.out _ _ _ (by rw [HR.out]; rfl) (by rw [HE.out]; rfl)
end Go.Proofs.Ytdgbfkedgedogaa
