/- The document's flush. -/
import Derived.Test.YtdgbfkedgedogaaRefRead
namespace Go.Proofs.Ytdgbfkedgedogaa
open Go.RowKit Go.Maps
def RSt.flushed (r : RSt) : RSt := { r with lasts := rlay r.lasts r.wait (fun _ => true) r.wait.length, wait := [], count := r.count + 1 }
def RSt.flush (r : RSt) : RSt := if r.off then r else if r.hits then r.counted else r.flushed
def RSt.flushE (r : RSt) : Int := if r.off || r.hits then 7 else 0
set_option maxRecDepth 100000 in
set_option maxHeartbeats 4000000 in
theorem rflush_any (g ln lc : Nat) (wa : Option Addr) (wn wc : Nat) (r : RSt) (w : World) (R : RD w (.slice (some ⟨g, 0, none⟩) ln lc) (.slice wa wn wc) r) (ok : r.ticked.Ok) (h0 : 0 ≤ r.count) (hln : ln = r.lasts.length) (hwn : wn = r.wait.length) :
    Calls Try.prog 17 #[rvs (some ⟨g, 0, none⟩) ln lc wa wn wc r] w fun e w' => ∃ g' lc' wa' wn' wc', e = .returned (.tuple #[rvs (some ⟨g', 0, none⟩) ln lc' wa' wn' wc' r.flush, .int .i64 r.flushE]) ∧ RD w' (.slice (some ⟨g', 0, none⟩) ln lc') (.slice wa' wn' wc') r.flush ∧ wn' = r.flush.wait.length ∧
      (∀ k, foot (.slice (some ⟨g', 0, none⟩) ln lc') (.slice wa' wn' wc') k → foot (.slice (some ⟨g, 0, none⟩) ln lc) (.slice wa wn wc) k ∨ w.heap.size ≤ k) ∧ Below w.heap.size w w' := by
  subst hln hwn
  obtain ⟨lasts, wait, cut, keep, count, off⟩ := r
  dsimp only at h0 R ⊢
  have hwm : wait.length ≤ 200 := ok.waits
  have hlm : lasts.length ≤ 100 := ok.few
  have hlp : 0 < lasts.length := ok.some_
  have hats : ∀ x ∈ wait, 0 ≤ x.1 ∧ x.1 < lasts.length := ok.ats
  have hgl : g < w.heap.size := (R.lasts.lt g rfl).2
  have HR : Hid ((RSt.mk lasts wait cut keep count off).flush = if off then ⟨lasts, wait, cut, keep, count, off⟩ else if (RSt.mk lasts wait cut keep count off).hits then (RSt.mk lasts wait cut keep count off).counted else (RSt.mk lasts wait cut keep count off).flushed) := rfl
  have HE : Hid ((RSt.mk lasts wait cut keep count off).flushE = if off || (RSt.mk lasts wait cut keep count off).hits then 7 else 0) := rfl
  have hb2 := fun b1 b2 => below2 w b1 b2
  unfold rvs rv
  go_enter Try.func17, Try.ntmps17
  cases off
  · have HK := Lib.hid ok
    have hbx2 := Below.heap_alloc (w.alloc (.cells #[.slice (some ⟨g, 0, none⟩) lasts.length lc, .slice wa wait.length wc, .int .i64 cut, .int .u64 (u64 keep), .int .i64 count, .bool false] 35)) (.cells #[.slice none 0 0, .slice none 0 0, .int .i64 0, .int .u64 0, .int .i64 0, .bool false] 35) w.heap.size (by simp)
    rw [heap_alloc_new] at hbx2
    have hrs2 := heap_alloc_new (w.alloc (.cells #[.slice (some ⟨g, 0, none⟩) lasts.length lc, .slice wa wait.length wc, .int .i64 cut, .int .u64 (u64 keep), .int .i64 count, .bool false] 35)) (.cells #[.slice none 0 0, .slice none 0 0, .int .i64 0, .int .u64 0, .int .i64 0, .bool false] 35)
    rw [show (w.alloc (.cells #[.slice (some ⟨g, 0, none⟩) lasts.length lc, .slice wa wait.length wc, .int .i64 cut, .int .u64 (u64 keep), .int .i64 count, .bool false] 35)).heap.size = w.heap.size + 1 by simp] at hrs2
    have hB2 := hb2 (.cells #[.slice (some ⟨g, 0, none⟩) lasts.length lc, .slice wa wait.length wc, .int .i64 cut, .int .u64 (u64 keep), .int .i64 count, .bool false] 35) (.cells #[.slice none 0 0, .slice none 0 0, .int .i64 0, .int .u64 0, .int .i64 0, .bool false] 35)
    have R2 := R.below hB2
    clear hb2 ok
    cases hb : (RSt.mk lasts wait cut keep count false).hits
    · have hcn : (RSt.mk lasts wait cut keep count false).counted = ⟨lasts, wait, cut, keep, count + 1, false⟩ := by unfold RSt.counted; rw [hb]; rfl
      have HR2 : Hid ((RSt.mk lasts wait cut keep count false).flush = ⟨rlay lasts wait (fun _ => true) wait.length, [], cut, keep, count + 1, false⟩) := by rw [HR.out, hb]; exact rfl
      have HE2 : Hid ((RSt.mk lasts wait cut keep count false).flushE = 0) := by rw [HE.out, hb]; exact rfl
      obtain ⟨i0, hi0, hz0, hz1, hz2⟩ := info_parts info9
      clear HR HE
      go_wp2_with fail
      generalize hw2 : World.alloc (w.alloc _) _ = w2 at hB2 hbx2 hrs2 R2 ⊢
      have hs2 : w2.heap.size = w.heap.size + 1 + 1 := by rw [← hw2]; simp
      clear hw2
      refine (rcount_any g lasts.length lc wa wait.length wc (RSt.mk lasts wait cut keep count false) w2 R2 HK.out h0 rfl rfl).mono ?_
      rintro e w7 ⟨g7, lc7, wa7, wn7, wc7, rfl, R7, hn7, hf7, hB7⟩
      have hbx7 := (hB7.block w.heap.size (by omega)).trans hbx2
      have hrs7 := (hB7.block (w.heap.size + 1) (by omega)).trans hrs2
      have hb7 := hB2.trans (hB7.mono (by omega))
      have hf : ∀ k, foot (.slice (some ⟨g7, 0, none⟩) lasts.length lc7) (.slice wa7 wn7 wc7) k → (foot (.slice (some ⟨g, 0, none⟩) lasts.length lc) (.slice wa wait.length wc) k ∧ k < w.heap.size) ∨ w.heap.size + 2 ≤ k := fun k hk => by
        rcases hf7 k hk with hk | hk
        · exact .inl ⟨hk, R.lt hk⟩
        · right; omega
      rw [hb]
      rw [hcn] at R7 hn7 ⊢
      have hn7' : wn7 = wait.length := hn7
      subst hn7'
      unfold rvs rv
      clear hf7 hB7 hbx2 hrs2 R2 hB2 hcn hn7
      dsimp only
      go_wp2_with (first
        | (refine store35 rfl (.tmp 1) (.tmp 13) rfl w.heap.size _ _ (by rfl) (by rfl) hbx7 rfl rfl (one6 _ _ _ _ _ _ rfl rfl rfl rfl rfl rfl) ?_; intro w8 hw8 hk8 hs8 hbl8
           have hrs8 := (hk8 (w.heap.size + 1) (by omega)).trans hrs7
           have R8 := R7.kept (w' := w8) (fun k hk => hk8 k (by rcases hf k hk with ⟨_, h⟩ | h <;> omega))
           have hb8 := hbl8 _ _ (Nat.le_refl _) hb7
           have c80 : w8.cell? ⟨w.heap.size, 0, none⟩ = some (.slice (some ⟨g7, 0, none⟩) lasts.length lc7) := cell_block hw8 0
           have hg7 : g7 < w8.heap.size := (R8.lasts.lt g7 rfl).2
           have hz8 : w.heap.size + 2 ≤ w8.heap.size := by rw [hs8]; have := (Array.getElem?_eq_some_iff.1 hrs7).1; omega
           have hne8 : w.heap.size ≠ w8.heap.size := by omega
           have c80' : (w8.alloc (.cells #[] 9)).cell? ⟨w.heap.size, 0, none⟩ = some (.slice (some ⟨g7, 0, none⟩) lasts.length lc7) := (World.cell?_of_block (Below.heap_alloc w8 (.cells #[] 9) w.heap.size (Nat.lt_of_lt_of_le (by omega) hz8))).trans c80
           clear hbx7 hrs7 R7 hb7 hs8)
        | (at_builtin; refine wpList_append_lies _ rfl _ _ _ rfl 0 9 i0 _ 1 16 Try.underlying29 hi0 hz0 hz1 hz2 rfl (by omega) (.slice (some ⟨w8.heap.size, 0, none⟩) 0 0) 0 [] (by rfl) ⟨rfl, .inr ⟨w8.heap.size, 0, #[], rfl, Nat.zero_le _, heap_alloc_new w8 _, Nat.le_refl _, by decide, rfl, rfl⟩⟩
              ⟨g7, 0, none⟩ lasts.length lc7 (strs lasts) (by rfl) (by rw [strs_length, Nat.mul_one]) (World.ownsRow.cells (owns_below R8.lasts ((Below.refl _ w8).alloc (Nat.le_refl _) _)) (g := g7) rfl) (fun u hu => strs_get hu) hlp (by unfold maxLen; omega) (by omega) (Nat.zero_le _) _ rfl ?_; intro g' cap' w1 hown1 hgrow hat hlt1
           change World.grownBy _ w1 (some w8.heap.size) at hgrow
           change some w8.heap.size = some g' ∨ _ at hat)
        | fail)
      have La0 : Lay w w.heap.size g' lasts.length cap' #[.slice (some ⟨g7, 0, none⟩) lasts.length lc7, .slice wa7 wait.length wc7, .int .i64 cut, .int .u64 (u64 keep), .int .i64 (count + 1), .bool false] #[.slice none 0 0, .slice none 0 0, .int .i64 0, .int .u64 0, .int .i64 0, .bool false] (.slice wa7 wait.length wc7) wait lasts w1 :=
        Lay.start (w3 := w8.alloc (.cells #[] 9)) (B := w8.heap.size) (Nat.le_refl _) ((Below.heap_alloc w8 _ _ (Nat.lt_of_lt_of_le (by omega) hz8)).trans hw8) ((Below.heap_alloc w8 _ _ (Nat.lt_of_lt_of_le (by omega) hz8)).trans hrs8) (owns_below R8.wait ((Below.refl _ w8).alloc (Nat.le_refl _) _)) (fun k hk => (R8.wait.lt k hk).2) (hb8.alloc (by omega) _) (by simp) hz8 (by simpa using hown1) hgrow hat
      have hwa : 0 < wait.length → ∃ g2, wa7 = some ⟨g2, 0, none⟩ := fun h => by
        obtain ⟨a, cap, e, _, _, h2⟩ := slice_form R8.wait
        injection e with e1 e2 e3
        obtain ⟨g2, rfl⟩ := h2 h
        exact ⟨g2, e1⟩
      clear hown1 hgrow hat hlt1 hw8 hk8 hbl8 hrs8 R8 hb8 c80 hg7 hz8 hne8 c80' hs2 hf
      go_loopw [6] (fun x wr => ∃ j : Nat, j ≤ wait.length ∧ x = .int .i64 j ∧ Lay w w.heap.size g' lasts.length cap' #[.slice (some ⟨g7, 0, none⟩) lasts.length lc7, .slice wa7 wait.length wc7, .int .i64 cut, .int .u64 (u64 keep), .int .i64 (count + 1), .bool false] #[.slice none 0 0, .slice none 0 0, .int .i64 0, .int .u64 0, .int .i64 0, .bool false] (.slice wa7 wait.length wc7) wait (rlay lasts wait (fun _ => true) j) wr) (fun x _ => wait.length - (intOf x).toNat)
      case atStart => exact ⟨0, by omega, rfl, La0⟩
      case round =>
        obtain ⟨j, hj, rfl, La⟩ := hrel
        have cb1 : wr.cell? ⟨w.heap.size, 1, none⟩ = some (.slice wa7 wait.length wc7) := cell_block La.box 1
        have hlen : (rlay lasts wait (fun _ => true) j).length = lasts.length := rlay_length _ _ _ j
        have hj0 : (0 : Int) ≤ (j : Int) := by omega
        by_cases hlt : j < wait.length
        · have hlt' : (j : Int) < (wait.length : Int) := by omega
          obtain ⟨g2, rfl⟩ := hwa (by omega)
          obtain ⟨c0, c1⟩ := wait_at La.wait hlt
          obtain ⟨h0', h1⟩ := hats (wait.getD j (0, ⟨#[]⟩)) (by rw [List.getD, List.getElem?_eq_getElem hlt]; exact List.getElem_mem hlt)
          have HST := Lib.hid (show rlay lasts wait (fun _ => true) (j + 1) = (rlay lasts wait (fun _ => true) j).set (wait.getD j (0, ⟨#[]⟩)).1.toNat (wait.getD j (0, ⟨#[]⟩)).2 from rfl)
          have HLA := Lib.hid La
          clear La
          generalize wait.getD j (0, ⟨#[]⟩) = x at c0 c1 h0' h1 HST
          generalize rlay lasts wait (fun _ => true) j = Lj at HST HLA hlen
          obtain ⟨at_, dat⟩ := x
          dsimp only at c0 c1 h0' h1 HST
          obtain ⟨n, rfl⟩ : ∃ n : Nat, at_ = n := ⟨at_.toNat, by omega⟩
          have hn : n < lasts.length := by omega
          have HST' : Hid (rlay lasts wait (fun _ => true) (j + 1) = Lj.set n dat) := by have := HST.out; rw [Int.toNat_natCast] at this; exact this
          clear HST
          have ct : ∃ u, wr.cell? ⟨g', n, none⟩ = some u := by
            have := HLA.out.row.cells (g := g') rfl n (.string (Lj.getD n ⟨#[]⟩)) (by unfold strs; rw [List.getElem?_map, List.getD, List.getElem?_eq_getElem (by omega)]; rfl)
            rw [Go.WideShapes.add_plain, Nat.zero_add] at this
            exact ⟨_, this⟩
          obtain ⟨u, ct⟩ := ct
          have hfr := (owns_set HLA.out.row (i := n) (by omega) dat).2
          have hset : ∀ a : Addr, a.block ≠ g' → (wr.setCell ⟨g', n, none⟩ (.string dat)).drew.cell? a = wr.cell? a := fun a ha => World.cell?_of_block (Below.heap_setCell _ _ _ _ ha)
          have hbg : w.heap.size ≠ g' := by have := HLA.out.far; omega
          have hg2 : g2 ≠ g' := fun e => HLA.out.wfar (by rw [e]; rfl)
          go_wp2_with fail
          go_region_held3 (fun w' => w'.cell? ⟨w.heap.size, 1, none⟩ = some (.slice (some ⟨g2, 0, none⟩) wait.length wc7) ∧ w'.cell? ⟨g2, j * 2, none⟩ = some (.int .i64 (n : Int)) ∧ w'.cell? ⟨g2, j * 2 + 1, none⟩ = some (.string dat)) (first | exact ⟨cb1, c0, c1⟩ | exact ⟨(hset _ hbg).trans cb1, (hset _ hg2).trans c0, (hset _ hg2).trans c1⟩) (fail)
          go_wp2_with fail
          go_roundw
          case rel => exact ⟨j + 1, by omega, by go_num, by rw [HST'.out]; exact (HLA.out.set (by omega) dat).drew⟩
          case measure => simp [intOf]; omega
        · obtain rfl : j = wait.length := by omega
          have hnl : ¬ ((wait.length : Int) < (wait.length : Int)) := by omega
          have cb0 : wr.cell? ⟨w.heap.size, 0, none⟩ = some (.slice (some ⟨g7, 0, none⟩) lasts.length lc7) := cell_block La.box 0
          have fb0 := free_block La.box 0
          have fb1 := free_block La.box 1
          have hbN : ((wr.setCell ⟨w.heap.size, 0, none⟩ (.slice (some ⟨g', 0, none⟩) lasts.length cap')).setCell ⟨w.heap.size, 1, none⟩ (.slice none 0 0)).heap[w.heap.size]? = some (.cells #[.slice (some ⟨g', 0, none⟩) lasts.length cap', .slice none 0 0, .int .i64 cut, .int .u64 (u64 keep), .int .i64 (count + 1), .bool false] 35 (0, 0)) := block_setCell (block_setCell La.box _) _
          have hoN : ∀ k, k ≠ w.heap.size → ((wr.setCell ⟨w.heap.size, 0, none⟩ (.slice (some ⟨g', 0, none⟩) lasts.length cap')).setCell ⟨w.heap.size, 1, none⟩ (.slice none 0 0)).heap[k]? = wr.heap[k]? := fun k hk => (Below.heap_setCell _ _ _ _ hk).trans (Below.heap_setCell _ _ _ _ hk)
          have hrN := (hoN (w.heap.size + 1) (by omega)).trans La.res
          have hBN := (La.below.setCell (p := ⟨w.heap.size, 0, none⟩) (Nat.le_refl _) (.slice (some ⟨g', 0, none⟩) lasts.length cap')).setCell (p := ⟨w.heap.size, 1, none⟩) (Nat.le_refl _) (.slice none 0 0)
          have HLA := Lib.hid La
          clear La
          go_wp2_with (first
            | (refine load35 rfl (.tmp 1) rfl w.heap.size _ (by rfl) hbN rfl ?_)
            | (refine store35 rfl (.tmp 2) (.tmp 45) rfl (w.heap.size + 1) _ _ (by rfl) (by rfl) hrN rfl rfl (one6 _ _ _ _ _ _ rfl rfl rfl rfl rfl rfl) ?_; intro w2 hw2 hk2 hs2 hbl2)
            | fail)
          refine bodyPost_ret_by (results_cell_two rfl _ _ (w.heap.size + 1) _ rfl hw2 rfl) rfl ?_
          rw [HR2.out, HE2.out]
          have hfar := HLA.out.far
          refine ⟨g', cap', none, 0, 0, rfl, ⟨?_, World.ownsRow_nil _ _ _ _⟩, rfl, fun q hq => ?_, hbl2 _ _ (by omega) hBN⟩
          · show w2.ownsRow 0 9 1 _ (rlay lasts wait (fun _ => true) wait.length).length _
            rw [rlay_length]
            exact owns_kept HLA.out.row (fun q hq => by rw [show q = g' from (Option.some.inj hq).symm]; exact (hk2 g' (by omega)).trans (hoN g' (by omega)))
          · rcases hq with hq | hq
            · rw [show q = g' from (Option.some.inj hq).symm]; right; omega
            · cases hq
    · have HR2 : Hid ((RSt.mk lasts wait cut keep count false).flush = (RSt.mk lasts wait cut keep count false).counted) := by rw [HR.out, hb]; exact rfl
      have HE2 : Hid ((RSt.mk lasts wait cut keep count false).flushE = 7) := by rw [HE.out, hb]; exact rfl
      clear HR HE
      go_wp2_with fail
      generalize hw2 : World.alloc (w.alloc _) _ = w2 at hB2 hbx2 hrs2 R2 ⊢
      have hs2 : w2.heap.size = w.heap.size + 1 + 1 := by rw [← hw2]; simp
      clear hw2
      refine (rcount_any g lasts.length lc wa wait.length wc (RSt.mk lasts wait cut keep count false) w2 R2 HK.out h0 rfl rfl).mono ?_
      rintro e w7 ⟨g7, lc7, wa7, _, wc7, rfl, R7, rfl, hf7, hB7⟩
      have hbx7 := (hB7.block w.heap.size (by omega)).trans hbx2
      have hrs7 := (hB7.block (w.heap.size + 1) (by omega)).trans hrs2
      have hb7 := hB2.trans (hB7.mono (by omega))
      have hf : ∀ k, foot (.slice (some ⟨g7, 0, none⟩) lasts.length lc7) (.slice wa7 (RSt.mk lasts wait cut keep count false).counted.wait.length wc7) k → (foot (.slice (some ⟨g, 0, none⟩) lasts.length lc) (.slice wa wait.length wc) k ∧ k < w.heap.size) ∨ w.heap.size + 2 ≤ k := fun k hk => by
        rcases hf7 k hk with hk | hk
        · exact .inl ⟨hk, R.lt hk⟩
        · right; omega
      rw [hb]
      clear hf7 hB7 hbx2 hrs2 R2 hB2
      dsimp only
      go_wp2_with (first
        | (refine store35 rfl (.tmp 1) (.tmp 13) rfl w.heap.size _ _ (by rfl) (by rfl) hbx7 rfl rfl (one6 _ _ _ _ _ _ rfl rfl rfl rfl rfl rfl) ?_; intro w8 hw8 hk8 hs8 hbl8
           have hrs8 := (hk8 (w.heap.size + 1) (by omega)).trans hrs7
           have R8 := R7.kept (w' := w8) (fun k hk => hk8 k (by rcases hf k hk with ⟨_, h⟩ | h <;> omega))
           have hb8 := hbl8 _ _ (Nat.le_refl _) hb7
           clear hbx7 hrs7 R7 hb7 hs8)
        | (refine load35 rfl (.tmp 1) rfl w.heap.size _ (by rfl) hw8 rfl ?_)
        | (refine store35 rfl (.tmp 2) (.tmp 16) rfl (w.heap.size + 1) _ _ (by rfl) (by rfl) hrs8 rfl rfl (one6 _ _ _ _ _ _ rfl rfl rfl rfl rfl rfl) ?_; intro w9 hw9 hk9 hs9 hbl9)
        | fail)
      refine bodyPost_ret_by (results_cell_two rfl _ _ (w.heap.size + 1) _ rfl hw9 rfl) rfl ?_
      rw [HR2.out, HE2.out]
      exact ⟨g7, lc7, wa7, _, wc7, rfl, R8.kept (fun k hk => hk9 k (by rcases hf k hk with ⟨_, h⟩ | h <;> omega)), rfl, fun k hk => (hf k hk).imp (fun h => h.1) (fun h => by omega), hbl9 _ _ (by omega) hb8⟩
  · go_wp2_with fail
    refine bodyPost_ret_by (results_cell_two rfl _ _ (w.heap.size + 1) _ rfl (cell_last _ _ _ (by simp)) rfl) rfl ?_
    rw [HR.out, HE.out]
    exact ⟨g, lc, wa, wait.length, wc, rfl, R.below (hb2 _ _), rfl, fun k hk => .inl hk, hb2 _ _⟩
end Go.Proofs.Ytdgbfkedgedogaa
