/- The document's count. -/
import Derived.Test.YtdgbfkedgedogaaRefFail
namespace Go.Proofs.Ytdgbfkedgedogaa
open Go.RowKit Go.Maps
theorem wrap64 {n : Int} (h0 : -9223372036854775808 ≤ n) (h1 : n ≤ 9223372036854775807) : IntKind.i64.wrap n = n := by
  simp only [IntKind.wrap, IntKind.bits, IntKind.signed]
  simp
  omega
def RSt.ticked (r : RSt) : RSt := { r with count := r.count + 1 }
def RSt.hits (r : RSt) : Bool := decide (1 ≤ r.cut) && decide (r.cut = r.count + 1)
def RSt.counted (r : RSt) : RSt := if r.hits then r.ticked.dropped r.keep else r.ticked
theorem results_cell_two {fn : Func} {p u : Tmp} (h : fn.results = #[.cell p 35, .tmp u]) (tmps : Array Value) (w : World) (g : Nat) (cs : Array Value)
    (hp : tmps.getD p undef = .pointer (some ⟨g, 0, none⟩)) (hg : w.heap[g]? = some (.cells cs 35 (0, 0))) (hs : cs.size = 6) :
    (results fn tmps).run Try.prog w = .ok (.tuple #[.agg cs, tmps.getD u undef]) w := by
  rw [results_cell_tmp h, hp]
  simp [asAddr, Result.andThen, run_loadVar_row (P := Try.prog) w g 35 35 cs (0, 0) _ hg Try.underlying35 rfl (by rw [hs]; exact size35)]
theorem RD.re {w : World} {lv wv : Value} {r r' : RSt} (h : RD w lv wv r) (h1 : r'.lasts = r.lasts) (h2 : r'.wait = r.wait) : RD w lv wv r' := ⟨by rw [h1]; exact h.lasts, by rw [h2]; exact h.wait⟩
theorem foot_slice {la wa : Option Addr} {ln lc wn wc k : Nat} : foot (.slice la ln lc) (.slice wa wn wc) k ↔ ((Value.slice la ln lc).ownBlock = some k ∨ (Value.slice wa wn wc).ownBlock = some k) := Iff.rfl
structure RSt.Fit (r : RSt) (m : Int) : Prop where
  some_ : 0 < r.lasts.length
  few : r.lasts.length ≤ 100
  waits : (r.wait.length : Int) ≤ m
  ats : ∀ x ∈ r.wait, 0 ≤ x.1 ∧ x.1 < r.lasts.length
  count0 : 0 ≤ r.count
  count1 : r.count ≤ m
theorem RSt.Fit.ok {r : RSt} {m : Int} (h : r.Fit m) (hm : m ≤ 200) : r.Ok := ⟨h.some_, h.few, by have := h.waits; omega, h.ats, h.count0, by have := h.count1; omega⟩
set_option maxRecDepth 100000 in
set_option maxHeartbeats 2000000 in
theorem rcount_any (g ln lc : Nat) (wa : Option Addr) (wn wc : Nat) (r : RSt) (w : World) (R : RD w (.slice (some ⟨g, 0, none⟩) ln lc) (.slice wa wn wc) r) (ok : r.ticked.Ok) (h0 : 0 ≤ r.count) (hln : ln = r.lasts.length) (hwn : wn = r.wait.length) :
    Calls Try.prog 30 #[rvs (some ⟨g, 0, none⟩) ln lc wa wn wc r] w fun e w' => ∃ g' lc' wa' wn' wc', e = .returned (.tuple #[rvs (some ⟨g', 0, none⟩) ln lc' wa' wn' wc' r.counted, .bool r.hits]) ∧ RD w' (.slice (some ⟨g', 0, none⟩) ln lc') (.slice wa' wn' wc') r.counted ∧ wn' = r.counted.wait.length ∧
      (∀ k, foot (.slice (some ⟨g', 0, none⟩) ln lc') (.slice wa' wn' wc') k → foot (.slice (some ⟨g, 0, none⟩) ln lc) (.slice wa wn wc) k ∨ w.heap.size ≤ k) ∧ Below w.heap.size w w' := by
  subst hln hwn
  obtain ⟨lasts, wait, cut, keep, count, off⟩ := r
  dsimp only at h0 R ⊢
  have hc1 : count + 1 ≤ 200 := ok.count1
  have HW : IntKind.i64.wrap (count + 1) = count + 1 := wrap64 (by omega) (by omega)
  have hwlt : ∀ k, foot (.slice (some ⟨g, 0, none⟩) lasts.length lc) (.slice wa wait.length wc) k → k < w.heap.size := fun k hk => R.lt hk
  have hb2 := fun b1 b2 => below2 w b1 b2
  unfold rvs rv
  go_enter Try.func30, Try.ntmps30
  by_cases hcut : 1 ≤ cut
  · by_cases heq : cut = count + 1
    · subst heq
      have hh : Hid ((RSt.mk lasts wait (count + 1) keep count off).hits = true) := by unfold RSt.hits; rw [decide_eq_true hcut, decide_eq_true rfl]; exact rfl
      have hd : Hid ((RSt.mk lasts wait (count + 1) keep count off).counted = RSt.dropped ⟨lasts, wait, count + 1, keep, count + 1, off⟩ keep) := by unfold RSt.counted; rw [hh.out]; exact rfl
      go_wp2_with fail
      have hB := hb2 (.cells #[.slice (some ⟨g, 0, none⟩) lasts.length lc, .slice wa wait.length wc, .int .i64 (count + 1), .int .u64 (u64 keep), .int .i64 (count + 1), .bool off] 35) (.cells #[.slice none 0 0, .slice none 0 0, .int .i64 0, .int .u64 0, .int .i64 0, .bool false] 35)
      have hres := heap_alloc_new (w.alloc (.cells #[.slice (some ⟨g, 0, none⟩) lasts.length lc, .slice wa wait.length wc, .int .i64 (count + 1), .int .u64 (u64 keep), .int .i64 (count + 1), .bool off] 35)) (.cells #[.slice none 0 0, .slice none 0 0, .int .i64 0, .int .u64 0, .int .i64 0, .bool false] 35)
      have R2 := (R.below hB).re (r' := ⟨lasts, wait, count + 1, keep, count + 1, off⟩) rfl rfl
      rw [show (w.alloc (.cells #[.slice (some ⟨g, 0, none⟩) lasts.length lc, .slice wa wait.length wc, .int .i64 (count + 1), .int .u64 (u64 keep), .int .i64 (count + 1), .bool off] 35)).heap.size = w.heap.size + 1 by simp] at hres
      clear hb2
      generalize hw2 : World.alloc (w.alloc _) _ = w2 at hB hres R2 ⊢
      have hs2 : w2.heap.size = w.heap.size + 1 + 1 := by rw [← hw2]; simp
      clear hw2
      refine (rfail_any g lasts.length lc wa wait.length wc ⟨lasts, wait, count + 1, keep, count + 1, off⟩ keep w2 R2 ok rfl rfl).mono ?_
      rintro e w3 ⟨g', cap', rfl, R3, hg', hB3⟩
      have hres3 := (hB3.block (w.heap.size + 1) (by omega)).trans hres
      dsimp only
      go_wp2_with (first
        | (refine store35 rfl (.tmp 2) (.tmp 24) rfl (w.heap.size + 1) _ _ (by rfl) (by rfl) hres3 rfl rfl (one6 _ _ _ _ _ _ rfl rfl rfl rfl rfl rfl) ?_; intro w4 hw4 hk4 hs4 hbl4)
        | fail)
      refine bodyPost_ret_by (results_cell_two rfl _ _ (w.heap.size + 1) _ rfl hw4 rfl) rfl ?_
      rw [hh.out, hd.out]
      refine ⟨g', _, none, 0, 0, rfl, R3.kept (fun q hq => hk4 q ?_), rfl, fun q hq => ?_, hbl4 _ _ (by omega) (hB.trans (hB3.mono (by omega)))⟩
      · rcases hq with hq | hq
        · rw [show q = g' from (Option.some.inj hq).symm]; omega
        · cases hq
      · rcases hq with hq | hq
        · rw [show q = g' from (Option.some.inj hq).symm]; right; omega
        · cases hq
    · have hh : Hid ((RSt.mk lasts wait cut keep count off).hits = false) := by unfold RSt.hits; rw [decide_eq_false heq, Bool.and_false]; exact rfl
      have hd : Hid ((RSt.mk lasts wait cut keep count off).counted = ⟨lasts, wait, cut, keep, count + 1, off⟩) := by unfold RSt.counted; rw [hh.out]; exact rfl
      go_wp2_with fail
      refine bodyPost_ret_by (results_cell_two rfl _ _ (w.heap.size + 1) _ rfl (cell_last _ _ _ (by simp)) rfl) rfl ?_
      rw [hh.out, hd.out]
      exact ⟨g, lc, wa, wait.length, wc, rfl, (R.below (hb2 _ _)).re rfl rfl, rfl, fun k hk => .inl hk, hb2 _ _⟩
  · have hh : Hid ((RSt.mk lasts wait cut keep count off).hits = false) := by unfold RSt.hits; rw [decide_eq_false hcut, Bool.false_and]; exact rfl
    have hd : Hid ((RSt.mk lasts wait cut keep count off).counted = ⟨lasts, wait, cut, keep, count + 1, off⟩) := by unfold RSt.counted; rw [hh.out]; exact rfl
    go_wp2_with fail
    refine bodyPost_ret_by (results_cell_two rfl _ _ (w.heap.size + 1) _ rfl (cell_last _ _ _ (by simp)) rfl) rfl ?_
    rw [hh.out, hd.out]
    exact ⟨g, lc, wa, wait.length, wc, rfl, (R.below (hb2 _ _)).re rfl rfl, rfl, fun k hk => .inl hk, hb2 _ _⟩
end Go.Proofs.Ytdgbfkedgedogaa
