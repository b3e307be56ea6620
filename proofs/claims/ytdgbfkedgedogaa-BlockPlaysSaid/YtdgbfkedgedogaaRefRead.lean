/- The document's failure when asked, and its reads. -/
import Derived.Test.YtdgbfkedgedogaaRefPut
namespace Go.Proofs.Ytdgbfkedgedogaa
open Go.RowKit Go.Maps
def RSt.crash (r : RSt) (k : BitVec 64) : RSt := if r.off then r else r.dropped k
set_option maxRecDepth 100000 in
set_option maxHeartbeats 2000000 in
theorem rcrash_any (g ln lc : Nat) (wa : Option Addr) (wn wc : Nat) (r : RSt) (k : BitVec 64) (w : World) (R : RD w (.slice (some ⟨g, 0, none⟩) ln lc) (.slice wa wn wc) r) (ok : r.Ok) (hln : ln = r.lasts.length) (hwn : wn = r.wait.length) :
    Calls Try.prog 21 #[rvs (some ⟨g, 0, none⟩) ln lc wa wn wc r, kv k] w fun e w' => ∃ g' lc' wa' wn' wc', e = .returned (rvs (some ⟨g', 0, none⟩) ln lc' wa' wn' wc' (r.crash k)) ∧ RD w' (.slice (some ⟨g', 0, none⟩) ln lc') (.slice wa' wn' wc') (r.crash k) ∧ wn' = (r.crash k).wait.length ∧
      (∀ k, foot (.slice (some ⟨g', 0, none⟩) ln lc') (.slice wa' wn' wc') k → foot (.slice (some ⟨g, 0, none⟩) ln lc) (.slice wa wn wc) k ∨ w.heap.size ≤ k) ∧ Below w.heap.size w w' := by
  subst hln hwn
  obtain ⟨lasts, wait, cut, keep, count, off⟩ := r
  dsimp only at R ⊢
  have HR : Hid ((RSt.mk lasts wait cut keep count off).crash k = if off then ⟨lasts, wait, cut, keep, count, off⟩ else (RSt.mk lasts wait cut keep count off).dropped k) := rfl
  have hb2 := fun b1 b2 => below2 w b1 b2
  have HK := Lib.hid ok
  clear ok
  unfold rvs rv
  go_enter Try.func21, Try.ntmps21
  cases off
  · have HB := Lib.hid hb2
    have hres := heap_alloc_new (w.alloc (.cells #[.slice (some ⟨g, 0, none⟩) lasts.length lc, .slice wa wait.length wc, .int .i64 cut, .int .u64 (u64 keep), .int .i64 count, .bool false] 35)) (.cells #[.slice none 0 0, .slice none 0 0, .int .i64 0, .int .u64 0, .int .i64 0, .bool false] 35)
    rw [show (w.alloc (.cells #[.slice (some ⟨g, 0, none⟩) lasts.length lc, .slice wa wait.length wc, .int .i64 cut, .int .u64 (u64 keep), .int .i64 count, .bool false] 35)).heap.size = w.heap.size + 1 by simp] at hres
    clear hb2
    go_wp2_with fail
    have hB := HB.out (.cells #[.slice (some ⟨g, 0, none⟩) lasts.length lc, .slice wa wait.length wc, .int .i64 cut, .int .u64 (u64 keep), .int .i64 count, .bool false] 35) (.cells #[.slice none 0 0, .slice none 0 0, .int .i64 0, .int .u64 0, .int .i64 0, .bool false] 35)
    have R2 := R.below hB
    generalize hw2 : World.alloc (w.alloc _) _ = w2 at hB hres R2 ⊢
    have hs2 : w2.heap.size = w.heap.size + 1 + 1 := by rw [← hw2]; simp
    clear hw2
    refine (rfail_any g lasts.length lc wa wait.length wc ⟨lasts, wait, cut, keep, count, false⟩ k w2 R2 HK.out rfl rfl).mono ?_
    rintro e w3 ⟨g', cap', rfl, R3, hg', hB3⟩
    have hres3 := (hB3.block (w.heap.size + 1) (by omega)).trans hres
    clear hres
    dsimp only
    go_wp2_with (first
      | (refine store35 rfl (.tmp 4) (.tmp 10) rfl (w.heap.size + 1) _ _ (by rfl) (by rfl) hres3 rfl rfl (one6 _ _ _ _ _ _ rfl rfl rfl rfl rfl rfl) ?_; intro w4 hw4 hk4 hs4 hbl4)
      | fail)
    refine bodyPost_ret_by (results_cell_row rfl _ _ (w.heap.size + 1) 35 _ (0, 0) _ rfl hw4 Try.underlying35 rfl size35) rfl ?_
    rw [HR.out]
    refine ⟨g', _, none, 0, 0, rfl, R3.kept (fun q hq => hk4 q ?_), rfl, fun q hq => ?_, hbl4 _ _ (by omega) (hB.trans (hB3.mono (by omega)))⟩
    · rcases hq with hq | hq
      · rw [show q = g' from (Option.some.inj hq).symm]; omega
      · cases hq
    · rcases hq with hq | hq
      · rw [show q = g' from (Option.some.inj hq).symm]; right; omega
      · cases hq
  · go_wp2_with fail
    refine bodyPost_ret_by (results_cell_row rfl _ _ (w.heap.size + 1) 35 _ (0, 0) _ rfl (cell_last _ _ _ (by simp)) Try.underlying35 rfl size35) rfl ?_
    rw [HR.out]
    exact ⟨g, lc, wa, wait.length, wc, rfl, R.below (hb2 _ _), rfl, fun k hk => .inl hk, hb2 _ _⟩

def seenTo (l0 : ByteArray) (wt : List (Int × ByteArray)) (a : Int) : Nat → ByteArray
  | 0 => l0
  | j + 1 => if (wt.getD j (0, ⟨#[]⟩)).1 = a then (wt.getD j (0, ⟨#[]⟩)).2 else seenTo l0 wt a j
def RSt.seen (r : RSt) (a : Int) : ByteArray := seenTo (r.lasts.getD a.toNat ⟨#[]⟩) r.wait a r.wait.length
def RSt.readS (r : RSt) (a : Int) : ByteArray := if r.off || r.out a then ⟨#[]⟩ else r.seen a
def RSt.readE (r : RSt) (a : Int) : Int := if r.off then 7 else if r.out a then 1 else 0
set_option maxRecDepth 100000 in
set_option maxHeartbeats 2000000 in
theorem rread_any (g ln lc : Nat) (wa : Option Addr) (wn wc : Nat) (r : RSt) (at_ : Int) (w : World) (R : RD w (.slice (some ⟨g, 0, none⟩) ln lc) (.slice wa wn wc) r) (ok : r.Ok) (hln : ln = r.lasts.length) (hwn : wn = r.wait.length) :
    Calls Try.prog 15 #[rvs (some ⟨g, 0, none⟩) ln lc wa wn wc r, .int .i64 at_] w fun e w' => e = .returned (.tuple #[.string (r.readS at_), .int .i64 (r.readE at_)]) ∧ Below w.heap.size w w' := by
  subst hln hwn
  obtain ⟨lasts, wait, cut, keep, count, off⟩ := r
  dsimp only at R ⊢
  have hwa : 0 < wait.length → ∃ g2, wa = some ⟨g2, 0, none⟩ := fun h => by
    obtain ⟨a, cap, e, _, _, h2⟩ := slice_form R.wait
    injection e with e1 e2 e3
    obtain ⟨g2, rfl⟩ := h2 h
    exact ⟨g2, e1⟩
  have hwm : wait.length ≤ 200 := ok.waits
  have hlm : lasts.length ≤ 100 := ok.few
  have HS : Hid ((RSt.mk lasts wait cut keep count off).readS at_ = if off || (RSt.mk lasts wait cut keep count off).out at_ then ⟨#[]⟩ else (RSt.mk lasts wait cut keep count off).seen at_) := rfl
  have HE : Hid ((RSt.mk lasts wait cut keep count off).readE at_ = if off then 7 else if (RSt.mk lasts wait cut keep count off).out at_ then 1 else 0) := rfl
  have hb1 : ∀ b, Below w.heap.size w (w.alloc b) := fun b => (Below.refl _ w).alloc (Nat.le_refl _) b
  have HB := Lib.hid hb1
  unfold rvs rv
  go_enter Try.func15, Try.ntmps15
  cases off
  · by_cases hlo : at_ < 0
    · have ho : Hid ((RSt.mk lasts wait cut keep count false).out at_ = true) := by unfold RSt.out; rw [decide_eq_true hlo]; exact rfl
      go_wp2_with fail
      go_ret2
      rw [HS.out, HE.out, ho.out]
      exact ⟨rfl, HB.out _⟩
    · by_cases hhi : (lasts.length : Int) ≤ at_
      · have ho : Hid ((RSt.mk lasts wait cut keep count false).out at_ = true) := by unfold RSt.out; rw [decide_eq_true hhi, Bool.or_true]; exact rfl
        go_wp2_with fail
        go_ret2
        rw [HS.out, HE.out, ho.out]
        exact ⟨rfl, HB.out _⟩
      · have ho : Hid ((RSt.mk lasts wait cut keep count false).out at_ = false) := by unfold RSt.out; rw [decide_eq_false hlo, decide_eq_false hhi]; exact rfl
        obtain ⟨n, rfl⟩ : ∃ n : Nat, at_ = n := ⟨at_.toNat, by omega⟩
        have hn : n < lasts.length := by omega
        have hn' : (n : Int) < (lasts.length : Int) := by omega
        have R1 := R.below (hb1 (.cells #[.slice (some ⟨g, 0, none⟩) lasts.length lc, .slice wa wait.length wc, .int .i64 cut, .int .u64 (u64 keep), .int .i64 count, .bool false] 35))
        have cl := lasts_at R1.lasts hn
        have HSN : Hid ((RSt.mk lasts wait cut keep count false).seen n = seenTo (lasts.getD n ⟨#[]⟩) wait n wait.length) := by unfold RSt.seen; rw [Int.toNat_natCast]; exact rfl
        have HR1 := Lib.hid R1
        clear hb1 R1
        dsimp only at cl
        generalize lasts.getD n ⟨#[]⟩ = l0 at cl HSN
        go_wp2_with fail
        go_loop [6, 7] (fun s x => ∃ j : Nat, j ≤ wait.length ∧ x = .int .i64 j ∧ s = .string (seenTo l0 wait n j)) (fun _ x => wait.length - (intOf x).toNat)
        case atStart => exact ⟨0, by omega, rfl, rfl⟩
        case round =>
          obtain ⟨j, hj, rfl, rfl⟩ := hrel
          by_cases hlt : j < wait.length
          · have hlt' : (j : Int) < (wait.length : Int) := by omega
            have hj0 : (0 : Int) ≤ (j : Int) := by omega
            obtain ⟨g2, rfl⟩ := hwa (by omega)
            obtain ⟨c0, c1⟩ := wait_at HR1.out.wait hlt
            have HST := Lib.hid (show seenTo l0 wait n (j + 1) = if (wait.getD j (0, ⟨#[]⟩)).1 = (n : Int) then (wait.getD j (0, ⟨#[]⟩)).2 else seenTo l0 wait n j from rfl)
            generalize wait.getD j (0, ⟨#[]⟩) = x at c0 c1 HST
            obtain ⟨xa, xd⟩ := x
            dsimp only at c0 c1 HST
            generalize seenTo l0 wait n j = sj at HST ⊢
            by_cases hx : xa = (n : Int)
            · subst hx
              go_wp2_with fail
              go_round
              case rel => exact ⟨j + 1, by omega, by go_num, by rw [HST.out, if_pos rfl]⟩
              case measure => simp [intOf]; omega
            · go_wp2_with fail
              go_round
              case rel => exact ⟨j + 1, by omega, by go_num, by rw [HST.out, if_neg hx]⟩
              case measure => simp [intOf]; omega
          · obtain rfl : j = wait.length := by omega
            generalize hsl : seenTo l0 wait n wait.length = sl at HSN ⊢
            go_wp2_with fail
            go_ret2
            rw [HS.out, HE.out, ho.out]
            refine ⟨?_, HB.out _⟩
            rw [if_neg (by simp), HSN.out]; rfl
  · go_wp2_with fail
    go_ret2
    rw [HS.out, HE.out]
    exact ⟨rfl, HB.out _⟩
end Go.Proofs.Ytdgbfkedgedogaa
