/- BlockPlays walked. -/
import Derived.Test.YtdgbfkedgedogaaSim
namespace Go.Proofs.Ytdgbfkedgedogaa
open Go.RowKit Go.Maps
/-- The disk, and the document's in a box B. -/
structure Hold (w : World) (p B : Nat) (h : Hd) (t : St) (r : RSt) (n g lc : Nat) (wa : Option Addr) (wn wc lim : Nat) (wr : World) : Prop where
  ctx : Ctx w.heap.size w p h t lim wr
  geB : w.heap.size ≤ B
  mineB : Mine wr p h B
  box : wr.heap[B]? = some (.cells #[.slice (some ⟨g, 0, none⟩) n lc, .slice wa wn wc, .int .i64 r.cut, .int .u64 (u64 r.keep), .int .i64 r.count, .bool r.off] 35 (0, 0))
  rd : RD wr (.slice (some ⟨g, 0, none⟩) n lc) (.slice wa wn wc) r
  hn : n = r.lasts.length
  hwn : wn = r.wait.length
  mine : ∀ k, foot (.slice (some ⟨g, 0, none⟩) n lc) (.slice wa wn wc) k → Mine wr p h k ∧ k ≠ B ∧ w.heap.size ≤ k
variable {w wr w' : World} {p B : Nat} {h h' : Hd} {t t' : St} {r r' : RSt} {n g lc wn wc lim lim' : Nat} {wa : Option Addr}
theorem Hold.turn (H : Hold w p B h t r n g lc wa wn wc lim wr) (O : On w' p h' t' lim') (T : Turn p wr w' h h') : Hold w p B h' t' r n g lc wa wn wc lim' w' :=
  ⟨H.ctx.turn O T, H.geB, T.mine H.mineB, (T.keep H.mineB).trans H.box, H.rd.kept fun k hk => T.keep (H.mine k hk).1, H.hn, H.hwn, fun k hk => ⟨T.mine (H.mine k hk).1, (H.mine k hk).2⟩⟩
theorem Hold.grown (H : Hold w p B h t r n g lc wa wn wc lim wr) (b : Below wr.heap.size wr w') : Hold w p B h t r n g lc wa wn wc lim w' :=
  ⟨H.ctx.grown b, H.geB, H.mineB.below b, (b.block _ H.mineB.1).trans H.box, H.rd.below b, H.hn, H.hwn, fun k hk => ⟨(H.mine k hk).1.below b, (H.mine k hk).2⟩⟩
theorem Hold.drew (H : Hold w p B h t r n g lc wa wn wc lim wr) : Hold w p B h t r n g lc wa wn wc lim wr.drew := H.grown (Below.refl _ _).drew
theorem Hold.mono (H : Hold w p B h t r n g lc wa wn wc lim wr) (hl : lim ≤ lim') : Hold w p B h t r n g lc wa wn wc lim' wr := ⟨H.ctx.mono hl, H.geB, H.mineB, H.box, H.rd, H.hn, H.hwn, H.mine⟩
/-- Behind a call of the document's, and its disk stored. -/
theorem Hold.next {w5 w6 : World} {g' lc' wn' wc' : Nat} {wa' : Option Addr} (H : Hold w p B h t r n g lc wa wn wc lim wr) (R : RD w5 (.slice (some ⟨g', 0, none⟩) n lc') (.slice wa' wn' wc') r') (hl : n = r'.lasts.length) (hw : wn' = r'.wait.length)
    (hf : ∀ k, foot (.slice (some ⟨g', 0, none⟩) n lc') (.slice wa' wn' wc') k → foot (.slice (some ⟨g, 0, none⟩) n lc) (.slice wa wn wc) k ∨ wr.heap.size ≤ k) (b : Below wr.heap.size wr w5)
    (h6 : w6.heap[B]? = some (.cells #[.slice (some ⟨g', 0, none⟩) n lc', .slice wa' wn' wc', .int .i64 r'.cut, .int .u64 (u64 r'.keep), .int .i64 r'.count, .bool r'.off] 35 (0, 0))) (hk : ∀ k, k ≠ B → w6.heap[k]? = w5.heap[k]?) (hs : w6.heap.size = w5.heap.size) (hbl : ∀ C w0, C ≤ B → Below C w0 w5 → Below C w0 w6) :
    Hold w p B h t r' n g' lc' wa' wn' wc' lim w6 := by
  have hm : ∀ k, foot (.slice (some ⟨g', 0, none⟩) n lc') (.slice wa' wn' wc') k → Mine w6 p h k ∧ k ≠ B ∧ w.heap.size ≤ k := fun k hk' => by
    rcases hf k hk' with h1 | h1
    · obtain ⟨m1, m2, m3⟩ := H.mine k h1
      exact ⟨⟨by rw [hs]; exact Nat.lt_of_lt_of_le m1.1 b.size, m1.2⟩, m2, m3⟩
    · have := R.lt hk'
      have hB := H.mineB.1
      exact ⟨⟨by rw [hs]; exact this, fun e => by have := H.ctx.on.lt e; omega⟩, by omega, Nat.le_trans H.ctx.len h1⟩
  exact ⟨⟨H.ctx.on.kept (fun k hk' => (hk k (fun e => H.mineB.2 (e ▸ hk'))).trans (b.block k (H.ctx.on.lt hk'))), H.ctx.own, hbl _ _ H.geB (H.ctx.below.trans (b.mono H.ctx.len)), by rw [hs]; exact Nat.le_trans H.ctx.len b.size⟩, H.geB,
    ⟨by rw [hs]; exact Nat.lt_of_lt_of_le H.mineB.1 b.size, H.mineB.2⟩, h6, R.kept (fun k hk' => hk k (hm k hk').2.1), hl, hw, hm⟩
theorem Hold.start (H : Hold w p B h t r n g lc wa wn wc lim wr) : Hold w p B h t { r with off := false } n g lc wa wn wc lim (wr.setCell ⟨B, 5, none⟩ (.bool false)) :=
  ⟨H.ctx.setCell H.geB H.mineB 5 _, H.geB, ⟨by simpa [World.setCell] using H.mineB.1, H.mineB.2⟩, block_setCell H.box _, (H.rd.kept (fun k hk => Below.heap_setCell _ _ _ _ (H.mine k hk).2.1)).re rfl rfl, H.hn, H.hwn,
    fun k hk => ⟨⟨by simpa [World.setCell] using (H.mine k hk).1.1, (H.mine k hk).1.2⟩, (H.mine k hk).2⟩⟩
theorem counted_len (r : RSt) : r.counted.lasts.length = r.lasts.length := by
  unfold RSt.counted
  split
  · exact rlay_length _ _ _ _
  · rfl
theorem put_len (r : RSt) (a : Int) (d : ByteArray) : (r.put a d).lasts.length = r.lasts.length := by
  unfold RSt.put
  split
  · rfl
  · exact counted_len _
theorem crash_len (r : RSt) (k : BitVec 64) : (r.crash k).lasts.length = r.lasts.length := by
  unfold RSt.crash
  split
  · rfl
  · exact rlay_length _ _ _ _
theorem flush_len (r : RSt) : r.flush.lasts.length = r.lasts.length := by
  unfold RSt.flush
  split
  · rfl
  · split
    · exact counted_len _
    · exact rlay_length _ _ _ _
theorem armed_len (r : RSt) (a : Int) (k : BitVec 64) : (r.armed a k).lasts.length = r.lasts.length := by
  unfold RSt.armed
  split <;> rfl
attribute [local go_sem 9000] sem_strneq
set_option maxRecDepth 100000 in
set_option maxHeartbeats 8000000 in
theorem plays_any (n0 : Int) (a : Option Addr) (len cap : Nat) (l : List Deed) (w : World) (hS : Deeds a len l w) (hlen : len ≤ 140737488355328) (hn0 : (ik n0).wf = true) :
    Calls Try.prog 3 #[.int .i64 n0, .slice a len cap] w fun e w' => e = .returned (.bool true) ∧ Below w.heap.size w w' := by
  go_enter Try.func3, Try.ntmps3
  go_wp2_with fail
  refine (awake_any _).mono ?_
  rintro e w1 ⟨rfl, b1⟩
  dsimp only
  go_wp2_with fail
  refine (few_any a len cap l _ (hS.below b1) hlen).mono ?_
  rintro e w1' ⟨rfl, rfl⟩
  cases hg1 : few l
  · dsimp only
    go_wp2_with fail
    go_ret
    exact ⟨rfl, b1⟩
  have hl200 := (few_spec hg1).1
  have hd300 := (few_spec hg1).2
  have hlenA : len ≤ 200 := by rw [hS.count]; exact hl200
  have hlenA' : (len : Int) ≤ 200 := by omega
  dsimp only
  by_cases hbig : 100 < n0
  · by_cases hbig2 : n0 ≤ 8192
    · go_wp2_with fail
      go_ret
      exact ⟨rfl, b1⟩
    · have hno : 8192 < n0 := by omega
      go_wp2_with fail
      refine (new_not n0 _ (.inr hno)).mono ?_
      rintro e w1' ⟨rfl, rfl⟩
      dsimp only
      go_wp2_with fail
      go_ret
      exact ⟨rfl, b1⟩
  by_cases hsm : n0 < 1
  · go_wp2_with fail
    refine (new_not n0 _ (.inl hsm)).mono ?_
    rintro e w1' ⟨rfl, rfl⟩
    dsimp only
    go_wp2_with fail
    go_ret
    exact ⟨rfl, b1⟩
  obtain ⟨n, rfl⟩ : ∃ n : Nat, n0 = n := ⟨n0.toNat, by omega⟩
  have hn1 : 0 < n := by omega
  have hn2 : n ≤ 100 := by omega
  go_wp2_with fail
  refine (on_new n _ (by omega) (by omega)).mono ?_
  rintro e w2 ⟨p, h2, rfl, O2, o2, b2⟩
  have C2 := Lib.hid (Ctx.new O2 o2 b2 b1)
  clear O2 o2 b2 b1
  dsimp only
  go_wp2_with fail
  refine (rnew_any n _ hn1 hn2).mono ?_
  rintro e w3 ⟨g3, lc3, rfl, R3, hg3, b3⟩
  have hn1' : ¬ (n : Int) < 1 := by omega
  have hn2' : ¬ (8192 : Int) < (n : Int) := by omega
  unfold rvs rv
  dsimp only
  go_wp2_with fail
  have H0 : Hold w p w3.heap.size h2 (St.new n) (RSt.new n) n g3 lc3 none 0 0 0 (w3.alloc (.cells #[.slice (some ⟨g3, 0, none⟩) n lc3, .slice none 0 0, .int .i64 (RSt.new n).cut, .int .u64 (u64 (RSt.new n).keep), .int .i64 (RSt.new n).count, .bool (RSt.new n).off] 35)) := by
    have C3 := C2.out.grown b3
    have hb := (Below.refl w3.heap.size w3).alloc (Nat.le_refl _) (.cells #[.slice (some ⟨g3, 0, none⟩) n lc3, .slice none 0 0, .int .i64 (RSt.new n).cut, .int .u64 (u64 (RSt.new n).keep), .int .i64 (RSt.new n).count, .bool (RSt.new n).off] 35)
    have hg := (R3.lasts.lt g3 rfl).2
    refine ⟨C3.grown hb, C3.len, C3.on.mine_new (Nat.le_refl _) (by simp), heap_alloc_new _ _, R3.below hb, List.length_replicate.symm, rfl, fun k hk => ?_⟩
    have hk3 : k = g3 := by
      rcases hk with hk | hk
      · exact (Option.some.inj hk).symm
      · cases hk
    rw [hk3]
    exact ⟨⟨Nat.lt_of_lt_of_le hg hb.size, fun e => by have := C2.out.on.lt e; omega⟩, by omega, Nat.le_trans C2.out.len hg3⟩
  have S0 := Sim.new n
  have F0 := RSt.Fit.new hn1 hn2
  have hget : ∀ i, i < len → (l.getD i deed0).data.size ≤ 300 := fun i hi => hd300 _ (by rw [List.getD, List.getElem?_eq_getElem (by rw [← hS.count]; exact hi)]; exact List.getElem_mem _)
  have HG := Lib.hid hget
  have HS := Lib.hid hS
  clear C2 R3 hg3 b3 hg1 hl200 hd300 hS hget
  generalize World.alloc w3 _ = w4 at H0 ⊢
  generalize w3.heap.size = B at H0 ⊢
  generalize RSt.new n = r0 at H0 S0 F0
  generalize St.new n = t0 at H0 S0
  go_loopw [8] (fun i wr => ∃ (j : Nat) (h : Hd) (t : St) (r : RSt) (g lc : Nat) (wa : Option Addr) (wn wc : Nat), j ≤ len ∧ i = .int .i64 j ∧ Hold w p B h t r n g lc wa wn wc j wr ∧ Sim t r ∧ r.Fit j) (fun i _ => len - (intOf i).toNat)
  case atStart => exact ⟨0, _, _, _, _, _, _, _, _, by omega, rfl, H0, S0, F0⟩
  case round =>
    clear H0 S0 F0
    obtain ⟨j, h, t, r, g, lc, wa, wn, wc, hj, rfl, H, S, F⟩ := hrel
    by_cases hlt : j < len
    · have hlt' : (j : Int) < (len : Int) := by omega
      have hj0 : (0 : Int) ≤ (j : Int) := by omega
      obtain ⟨b, off, rfl, hr⟩ := (HS.out.below H.ctx.below).cell j hlt
      obtain ⟨f0, f1, f2, f3⟩ := HS.out.fit hlt
      have fd := HG.out j hlt
      have c0 : wr.cell? ⟨b, off + j * 5, none⟩ = some (.int .i64 (l.getD j deed0).kind) := hr 0 _ rfl
      have c1 : wr.cell? ⟨b, off + j * 5 + 1, none⟩ = some (.int .i64 (l.getD j deed0).at_) := hr 1 _ rfl
      have c2 : wr.cell? ⟨b, off + j * 5 + 2, none⟩ = some (.string (l.getD j deed0).data) := hr 2 _ rfl
      have c3 : wr.cell? ⟨b, off + j * 5 + 3, none⟩ = some (.int .i64 (l.getD j deed0).cut) := hr 3 _ rfl
      have c4 : wr.cell? ⟨b, off + j * 5 + 4, none⟩ = some (.int .u64 (Ytdgbfkedgedogaa.u64 (l.getD j deed0).keep)) := hr 4 _ rfl
      clear hr
      generalize l.getD j deed0 = x at *
      generalize x.kind = xk at *
      generalize x.at_ = xa at *
      generalize x.data = xd at *
      generalize x.cut = xc at *
      generalize x.keep = xK at *
      have H1 := Lib.hid (H.grown ((Below.refl wr.heap.size wr).alloc (Nat.le_refl _) (.cells #[.int .i64 xk, .int .i64 xa, .string xd, .int .i64 xc, .int .u64 (Ytdgbfkedgedogaa.u64 xK)] 38)))
      have HA := Lib.hid (heap_alloc_new wr (.cells #[.int .i64 xk, .int .i64 xa, .string xd, .int .i64 xc, .int .u64 (Ytdgbfkedgedogaa.u64 xK)] 38))
      have hmA := Lib.hid (H.ctx.on.mine_new (w' := wr.alloc (.cells #[.int .i64 xk, .int .i64 xa, .string xd, .int .i64 xc, .int .u64 (Ytdgbfkedgedogaa.u64 xK)] 38)) (Nat.le_refl _) (by simp))
      have hAB : wr.heap.size ≠ B := by have := H.mineB.1; omega
      have hAf : ∀ k, foot (.slice (some ⟨g, 0, none⟩) n lc) (.slice wa wn wc) k → k ≠ wr.heap.size := fun k hk => by have := (H.mine k hk).1.1; omega
      have HS1 := Lib.hid S
      have HF1 := Lib.hid F
      clear H S F
      by_cases hkind0 : xk = 0
      · rw [hkind0] at c0 H1 HA hmA
        go_wp2_with fail
        generalize World.alloc wr _ = w5 at H1 HA hmA ⊢
        generalize wr.heap.size = A at HA hmA hAB hAf ⊢
        refine (on_write H1.out.ctx.on (by omega) xa f1 xd f2).mono ?_
        rintro e w6 ⟨rfl, h6, O6, T6⟩
        have H6 := Lib.hid (H1.out.turn O6 T6)
        have cA1 : w6.cell? ⟨A, 1, none⟩ = some (.int .i64 xa) := cell_block ((T6.keep hmA.out).trans HA.out) 1
        have cA2 : w6.cell? ⟨A, 2, none⟩ = some (.string xd) := cell_block ((T6.keep hmA.out).trans HA.out) 2
        obtain ⟨S6, hE⟩ := HS1.out.write HF1.out xa xd
        have F6 := HF1.out.put xa xd
        rw [hE]
        clear O6 T6 H1 HA hmA hE
        have box6 := H6.out.box
        dsimp only
        go_wp2_with (first
          | (refine load35 rfl (.tmp 7) rfl B _ (by rfl) box6 rfl ?_)
          | (go_at_call 13; refine (rput_any g n lc wa wn wc r xa xd w6 H6.out.rd (by have := HF1.out.waits; omega) HF1.out.few (fun ho => ((HF1.out.waited (d := xd) ho).ticked (c := 200) (by have := HF1.out.count1; show r.count + 1 ≤ 200; omega) (by omega)).ok (by omega)) HF1.out.count0 H6.out.hn H6.out.hwn f2).mono ?_; rintro e w7 ⟨g7, lc7, wa7, _, wc7, rfl, R7, rfl, hf7, b7⟩
             have box7 := (b7.block B H6.out.mineB.1).trans box6
             unfold rvs rv
             dsimp only)
          | (refine store35 rfl (.tmp 7) (.tmp 86) rfl B _ _ (by rfl) (by rfl) box7 rfl rfl (one6 _ _ _ _ _ _ rfl rfl rfl rfl rfl rfl) ?_; intro w8 hw8 hk8 hs8 hbl8)
          | fail)
        have HX := Lib.hid (H6.out.next R7 (H6.out.hn.trans (put_len r xa xd).symm) rfl hf7 b7 hw8 hk8 hs8 hbl8)
        clear R7 hf7 b7 hw8 hk8 hs8 hbl8 box7 box6 H6 HS1 HF1
        have hD : (t.write xa xd).down = (r.put xa xd).off := S6.down
        have hW : (((t.write xa xd).waiting : Nat) : Int) = (((r.put xa xd).wait.length : Nat) : Int) := congrArg (fun x : Nat => (x : Int)) (S6.waiting.trans HX.out.hwn.symm)
        have hZ : (t.write xa xd).size = (n : Int) := by rw [S6.size, ← HX.out.hn]
        have co : w8.cell? ⟨B, 5, none⟩ = some (.bool (r.put xa xd).off) := cell_block HX.out.box 5
        have cw : w8.cell? ⟨B, 1, none⟩ = some (.slice wa7 (r.put xa xd).wait.length wc7) := cell_block HX.out.box 1
        have HS8 := Lib.hid S6
        have HF8 := Lib.hid F6
        clear S6 F6
        generalize (t.write xa xd) = t7 at *
        generalize r.putE xa xd = E at *
        generalize (r.put xa xd) = r7 at *
        go_region_held3 (fun w' => w'.cell? ⟨B, 5, none⟩ = some (.bool r7.off) ∧ w'.cell? ⟨B, 1, none⟩ = some (.slice wa7 r7.wait.length wc7)) (exact ⟨co, cw⟩)
          (first
            | (go_at_call 23; (with_reducible refine (on_down (HX.out.ctx.on.kept (w' := w8.drew) (fun _ _ => rfl))).mono ?_); rintro e w' ⟨rfl, rfl⟩; rw [hD])
            | (go_at_call 24; (with_reducible refine (on_waiting (HX.out.ctx.on.kept (w' := w8.drew) (fun _ _ => rfl))).mono ?_); rintro e w' ⟨rfl, rfl⟩; rw [hW])
            | (go_at_call 25; (with_reducible refine (on_size (HX.out.ctx.on.kept (w' := w8.drew) (fun _ _ => rfl))).mono ?_); rintro e w' ⟨rfl, rfl⟩; rw [hZ]))
        go_wp2_with fail
        go_roundw
        case rel => exact ⟨j + 1, _, _, _, _, _, _, _, _, by omega, by go_num, HX.out.drew, HS8.out, HF8.out⟩
        case measure => simp [intOf]; omega
      by_cases hkind1 : xk = 1
      · rw [hkind1] at c0 H1 HA hmA
        go_wp2_with fail
        generalize World.alloc wr _ = w5 at H1 HA hmA ⊢
        generalize wr.heap.size = A at HA hmA hAB hAf ⊢
        refine (on_read H1.out.ctx.on (by omega) xa f1).mono ?_
        rintro e w6 ⟨rfl, O6, b6⟩
        have H6 := Lib.hid (H1.out.grown b6)
        have cA1 : w6.cell? ⟨A, 1, none⟩ = some (.int .i64 xa) := cell_block ((b6.block A hmA.out.1).trans HA.out) 1
        obtain ⟨hE1, hE2⟩ := HS1.out.readS xa
        rw [hE1, hE2]
        clear O6 b6 H1 HA hmA hE1 hE2
        have box6 := H6.out.box
        dsimp only
        generalize hX : r.readS xa = X at *
        generalize hY : r.readE xa = Y at *
        go_wp2_with (first
          | (refine load35 rfl (.tmp 7) rfl B _ (by rfl) box6 rfl ?_)
          | (go_at_call 15; refine (rread_any g n lc wa wn wc r xa w6 H6.out.rd (HF1.out.ok (by omega)) H6.out.hn H6.out.hwn).mono ?_; rintro e w7 ⟨rfl, b7⟩; rw [hX, hY])
          | fail)
        have HX := Lib.hid ((H6.out.grown b7).mono (Nat.le_succ j))
        have S6 := HS1.out
        have F6 := HF1.out.mono (show (j : Int) ≤ ((j + 1 : Nat) : Int) by omega)
        clear b7 box6 H6 HS1 HF1 hX hY
        have hD : t.down = r.off := S6.down
        have hW : ((t.waiting : Nat) : Int) = ((wn : Nat) : Int) := congrArg (fun x : Nat => (x : Int)) (S6.waiting.trans HX.out.hwn.symm)
        have hZ : t.size = (n : Int) := by rw [S6.size, ← HX.out.hn]
        have co : w7.cell? ⟨B, 5, none⟩ = some (.bool r.off) := cell_block HX.out.box 5
        have cw : w7.cell? ⟨B, 1, none⟩ = some (.slice wa wn wc) := cell_block HX.out.box 1
        have HS8 := Lib.hid S6
        have HF8 := Lib.hid F6
        clear S6 F6
        go_region_held3 (fun w' => w'.cell? ⟨B, 5, none⟩ = some (.bool r.off) ∧ w'.cell? ⟨B, 1, none⟩ = some (.slice wa wn wc)) (exact ⟨co, cw⟩)
          (first
            | (go_at_call 23; (with_reducible refine (on_down (HX.out.ctx.on.kept (w' := w7.drew) (fun _ _ => rfl))).mono ?_); rintro e w' ⟨rfl, rfl⟩; rw [hD])
            | (go_at_call 24; (with_reducible refine (on_waiting (HX.out.ctx.on.kept (w' := w7.drew) (fun _ _ => rfl))).mono ?_); rintro e w' ⟨rfl, rfl⟩; rw [hW])
            | (go_at_call 25; (with_reducible refine (on_size (HX.out.ctx.on.kept (w' := w7.drew) (fun _ _ => rfl))).mono ?_); rintro e w' ⟨rfl, rfl⟩; rw [hZ]))
        go_wp2_with fail
        go_roundw
        case rel => exact ⟨j + 1, _, _, _, _, _, _, _, _, by omega, by go_num, HX.out.drew, HS8.out, HF8.out⟩
        case measure => simp [intOf]; omega
      by_cases hkind2 : xk = 2
      · rw [hkind2] at c0 H1 HA hmA
        go_wp2_with fail
        generalize World.alloc wr _ = w5 at H1 HA hmA ⊢
        generalize wr.heap.size = A at HA hmA hAB hAf ⊢
        refine (on_flush H1.out.ctx.on (by omega)).mono ?_
        rintro e w6 ⟨rfl, h6, O6, T6⟩
        have H6 := Lib.hid (H1.out.turn O6 T6)
        obtain ⟨S6, hE⟩ := HS1.out.flush HF1.out
        have F6 := HF1.out.flush
        rw [hE]
        clear O6 T6 H1 HA hmA hE
        have box6 := H6.out.box
        dsimp only
        go_wp2_with (first
          | (refine load35 rfl (.tmp 7) rfl B _ (by rfl) box6 rfl ?_)
          | (go_at_call 17; refine (rflush_any g n lc wa wn wc r w6 H6.out.rd ((HF1.out.ticked (c := 200) (by have := HF1.out.count1; omega) (by omega)).ok (by omega)) HF1.out.count0 H6.out.hn H6.out.hwn).mono ?_; rintro e w7 ⟨g7, lc7, wa7, _, wc7, rfl, R7, rfl, hf7, b7⟩
             have box7 := (b7.block B H6.out.mineB.1).trans box6
             unfold rvs rv
             dsimp only)
          | (refine store35 rfl (.tmp 7) (.tmp 116) rfl B _ _ (by rfl) (by rfl) box7 rfl rfl (one6 _ _ _ _ _ _ rfl rfl rfl rfl rfl rfl) ?_; intro w8 hw8 hk8 hs8 hbl8)
          | fail)
        have HX := Lib.hid ((H6.out.next R7 (H6.out.hn.trans (flush_len r).symm) rfl hf7 b7 hw8 hk8 hs8 hbl8).mono (Nat.le_succ j))
        clear R7 hf7 b7 hw8 hk8 hs8 hbl8 box7 box6 H6 HS1 HF1
        have hD : t.flush.down = r.flush.off := S6.down
        have hW : ((t.flush.waiting : Nat) : Int) = ((r.flush.wait.length : Nat) : Int) := congrArg (fun x : Nat => (x : Int)) (S6.waiting.trans HX.out.hwn.symm)
        have hZ : t.flush.size = (n : Int) := by rw [S6.size, ← HX.out.hn]
        have co : w8.cell? ⟨B, 5, none⟩ = some (.bool r.flush.off) := cell_block HX.out.box 5
        have cw : w8.cell? ⟨B, 1, none⟩ = some (.slice wa7 r.flush.wait.length wc7) := cell_block HX.out.box 1
        have HS8 := Lib.hid S6
        have HF8 := Lib.hid F6
        clear S6 F6
        generalize t.flush = t7 at *
        generalize r.flushE = E at *
        generalize r.flush = r7 at *
        go_region_held3 (fun w' => w'.cell? ⟨B, 5, none⟩ = some (.bool r7.off) ∧ w'.cell? ⟨B, 1, none⟩ = some (.slice wa7 r7.wait.length wc7)) (exact ⟨co, cw⟩)
          (first
            | (go_at_call 23; (with_reducible refine (on_down (HX.out.ctx.on.kept (w' := w8.drew) (fun _ _ => rfl))).mono ?_); rintro e w' ⟨rfl, rfl⟩; rw [hD])
            | (go_at_call 24; (with_reducible refine (on_waiting (HX.out.ctx.on.kept (w' := w8.drew) (fun _ _ => rfl))).mono ?_); rintro e w' ⟨rfl, rfl⟩; rw [hW])
            | (go_at_call 25; (with_reducible refine (on_size (HX.out.ctx.on.kept (w' := w8.drew) (fun _ _ => rfl))).mono ?_); rintro e w' ⟨rfl, rfl⟩; rw [hZ]))
        go_wp2_with fail
        go_roundw
        case rel => exact ⟨j + 1, _, _, _, _, _, _, _, _, by omega, by go_num, HX.out.drew, HS8.out, HF8.out⟩
        case measure => simp [intOf]; omega
      by_cases hkind3 : xk = 3
      · rw [hkind3] at c0 H1 HA hmA
        go_wp2_with fail
        generalize World.alloc wr _ = w5 at H1 HA hmA ⊢
        generalize wr.heap.size = A at HA hmA hAB hAf ⊢
        refine (on_arm H1.out.ctx.on xc (ik_of f3).2 xK).mono ?_
        rintro e w6 ⟨rfl, h6, O6, T6⟩
        have H6 := Lib.hid (H1.out.turn O6 T6)
        have cA3 : w6.cell? ⟨A, 3, none⟩ = some (.int .i64 xc) := cell_block ((T6.keep hmA.out).trans HA.out) 3
        have cA4 : w6.cell? ⟨A, 4, none⟩ = some (.int .u64 (Ytdgbfkedgedogaa.u64 xK)) := cell_block ((T6.keep hmA.out).trans HA.out) 4
        have S6 := HS1.out.armed xc xK
        have F6 := HF1.out.armed xc xK
        have hwa : wn = (r.armed xc xK).wait.length := H6.out.hwn.trans (by unfold RSt.armed; split <;> rfl)
        have Hwa := Lib.hid hwa
        clear O6 T6 H1 HA hmA hwa
        have box6 := H6.out.box
        dsimp only
        go_wp2_with (first
          | (refine load35 rfl (.tmp 7) rfl B _ (by rfl) box6 rfl ?_)
          | (go_at_call 19; refine (rarm_any (some ⟨g, 0, none⟩) n lc wa wn wc r xc xK w6).mono ?_; rintro e w7 ⟨rfl, b7⟩
             have box7 := (b7.block B H6.out.mineB.1).trans box6
             unfold rvs rv
             dsimp only)
          | (refine store35 rfl (.tmp 7) (.tmp 127) rfl B _ _ (by rfl) (by rfl) box7 rfl rfl (one6 _ _ _ _ _ _ rfl rfl rfl rfl rfl rfl) ?_; intro w8 hw8 hk8 hs8 hbl8)
          | fail)
        have HX := Lib.hid ((H6.out.next ((H6.out.rd.below b7).re (r' := r.armed xc xK) (by unfold RSt.armed; split <;> rfl) (by unfold RSt.armed; split <;> rfl)) (H6.out.hn.trans (armed_len r xc xK).symm) Hwa.out (fun k hk => .inl hk) b7 hw8 hk8 hs8 hbl8).mono (Nat.le_succ j))
        clear b7 hw8 hk8 hs8 hbl8 box7 box6 H6 HS1 HF1 Hwa
        have hD : (t.armed xc xK).down = (r.armed xc xK).off := S6.down
        have hW : (((t.armed xc xK).waiting : Nat) : Int) = ((wn : Nat) : Int) := congrArg (fun x : Nat => (x : Int)) (S6.waiting.trans HX.out.hwn.symm)
        have hZ : (t.armed xc xK).size = (n : Int) := by rw [S6.size, ← HX.out.hn]
        have co : w8.cell? ⟨B, 5, none⟩ = some (.bool (r.armed xc xK).off) := cell_block HX.out.box 5
        have cw : w8.cell? ⟨B, 1, none⟩ = some (.slice wa wn wc) := cell_block HX.out.box 1
        have HS8 := Lib.hid S6
        have HF8 := Lib.hid F6
        clear S6 F6
        generalize (t.armed xc xK) = t7 at *
        generalize (r.armed xc xK) = r7 at *
        go_region_held3 (fun w' => w'.cell? ⟨B, 5, none⟩ = some (.bool r7.off) ∧ w'.cell? ⟨B, 1, none⟩ = some (.slice wa wn wc)) (exact ⟨co, cw⟩)
          (first
            | (go_at_call 23; (with_reducible refine (on_down (HX.out.ctx.on.kept (w' := w8.drew) (fun _ _ => rfl))).mono ?_); rintro e w' ⟨rfl, rfl⟩; rw [hD])
            | (go_at_call 24; (with_reducible refine (on_waiting (HX.out.ctx.on.kept (w' := w8.drew) (fun _ _ => rfl))).mono ?_); rintro e w' ⟨rfl, rfl⟩; rw [hW])
            | (go_at_call 25; (with_reducible refine (on_size (HX.out.ctx.on.kept (w' := w8.drew) (fun _ _ => rfl))).mono ?_); rintro e w' ⟨rfl, rfl⟩; rw [hZ]))
        go_wp2_with fail
        go_roundw
        case rel => exact ⟨j + 1, _, _, _, _, _, _, _, _, by omega, by go_num, HX.out.drew, HS8.out, HF8.out⟩
        case measure => simp [intOf]; omega
      by_cases hkind4 : xk = 4
      · rw [hkind4] at c0 H1 HA hmA
        go_wp2_with fail
        generalize World.alloc wr _ = w5 at H1 HA hmA ⊢
        generalize wr.heap.size = A at HA hmA hAB hAf ⊢
        refine (on_crash H1.out.ctx.on (by omega) xK).mono ?_
        rintro e w6 ⟨rfl, h6, O6, T6⟩
        have H6 := Lib.hid (H1.out.turn O6 T6)
        have cA4 : w6.cell? ⟨A, 4, none⟩ = some (.int .u64 (Ytdgbfkedgedogaa.u64 xK)) := cell_block ((T6.keep hmA.out).trans HA.out) 4
        have S6 := HS1.out.crash HF1.out xK
        have F6 := HF1.out.crash xK
        clear O6 T6 H1 HA hmA
        have box6 := H6.out.box
        dsimp only
        go_wp2_with (first
          | (refine load35 rfl (.tmp 7) rfl B _ (by rfl) box6 rfl ?_)
          | (go_at_call 21; refine (rcrash_any g n lc wa wn wc r xK w6 H6.out.rd (HF1.out.ok (by omega)) H6.out.hn H6.out.hwn).mono ?_; rintro e w7 ⟨g7, lc7, wa7, _, wc7, rfl, R7, rfl, hf7, b7⟩
             have box7 := (b7.block B H6.out.mineB.1).trans box6
             unfold rvs rv
             dsimp only)
          | (refine store35 rfl (.tmp 7) (.tmp 139) rfl B _ _ (by rfl) (by rfl) box7 rfl rfl (one6 _ _ _ _ _ _ rfl rfl rfl rfl rfl rfl) ?_; intro w8 hw8 hk8 hs8 hbl8)
          | fail)
        have HX := Lib.hid ((H6.out.next R7 (H6.out.hn.trans (crash_len r xK).symm) rfl hf7 b7 hw8 hk8 hs8 hbl8).mono (Nat.le_succ j))
        clear R7 hf7 b7 hw8 hk8 hs8 hbl8 box7 box6 H6 HS1 HF1
        have hD : (t.crash xK).down = (r.crash xK).off := S6.down
        have hW : (((t.crash xK).waiting : Nat) : Int) = (((r.crash xK).wait.length : Nat) : Int) := congrArg (fun x : Nat => (x : Int)) (S6.waiting.trans HX.out.hwn.symm)
        have hZ : (t.crash xK).size = (n : Int) := by rw [S6.size, ← HX.out.hn]
        have co : w8.cell? ⟨B, 5, none⟩ = some (.bool (r.crash xK).off) := cell_block HX.out.box 5
        have cw : w8.cell? ⟨B, 1, none⟩ = some (.slice wa7 (r.crash xK).wait.length wc7) := cell_block HX.out.box 1
        have HS8 := Lib.hid S6
        have HF8 := Lib.hid F6
        clear S6 F6
        generalize (t.crash xK) = t7 at *
        generalize (r.crash xK) = r7 at *
        go_region_held3 (fun w' => w'.cell? ⟨B, 5, none⟩ = some (.bool r7.off) ∧ w'.cell? ⟨B, 1, none⟩ = some (.slice wa7 r7.wait.length wc7)) (exact ⟨co, cw⟩)
          (first
            | (go_at_call 23; (with_reducible refine (on_down (HX.out.ctx.on.kept (w' := w8.drew) (fun _ _ => rfl))).mono ?_); rintro e w' ⟨rfl, rfl⟩; rw [hD])
            | (go_at_call 24; (with_reducible refine (on_waiting (HX.out.ctx.on.kept (w' := w8.drew) (fun _ _ => rfl))).mono ?_); rintro e w' ⟨rfl, rfl⟩; rw [hW])
            | (go_at_call 25; (with_reducible refine (on_size (HX.out.ctx.on.kept (w' := w8.drew) (fun _ _ => rfl))).mono ?_); rintro e w' ⟨rfl, rfl⟩; rw [hZ]))
        go_wp2_with fail
        go_roundw
        case rel => exact ⟨j + 1, _, _, _, _, _, _, _, _, by omega, by go_num, HX.out.drew, HS8.out, HF8.out⟩
        case measure => simp [intOf]; omega
      by_cases hkind5 : xk = 5
      · rw [hkind5] at c0 H1 HA hmA
        go_wp2_with fail
        generalize World.alloc wr _ = w5 at H1 HA hmA ⊢
        generalize wr.heap.size = A at HA hmA hAB hAf ⊢
        refine (on_start H1.out.ctx.on).mono ?_
        rintro e w6 ⟨rfl, h6, O6, T6⟩
        have H6 := Lib.hid (H1.out.turn O6 T6)
        have S6 := HS1.out.on false
        have F6 := HF1.out.on false
        clear O6 T6 H1 HA hmA
        have cb5 : w6.cell? ⟨B, 5, none⟩ = some (.bool r.off) := cell_block H6.out.box 5
        have fb5 := free_block H6.out.box 5
        have HX := Lib.hid (H6.out.start.mono (Nat.le_succ j))
        dsimp only
        go_wp2_with fail
        clear cb5 fb5 H6 HS1 HF1
        have hD : ({ t with down := false } : St).down = ({ r with off := false } : RSt).off := S6.down
        have hW : ((({ t with down := false } : St).waiting : Nat) : Int) = ((wn : Nat) : Int) := congrArg (fun x : Nat => (x : Int)) (S6.waiting.trans HX.out.hwn.symm)
        have hZ : ({ t with down := false } : St).size = (n : Int) := by rw [S6.size, ← HX.out.hn]
        have co : (w6.setCell ⟨B, 5, none⟩ (.bool false)).cell? ⟨B, 5, none⟩ = some (.bool ({ r with off := false } : RSt).off) := cell_block HX.out.box 5
        have cw : (w6.setCell ⟨B, 5, none⟩ (.bool false)).cell? ⟨B, 1, none⟩ = some (.slice wa wn wc) := cell_block HX.out.box 1
        have HS8 := Lib.hid S6
        have HF8 := Lib.hid F6
        clear S6 F6
        generalize ({ t with down := false } : St) = t7 at *
        generalize ({ r with off := false } : RSt) = r7 at *
        generalize w6.setCell ⟨B, 5, none⟩ (.bool false) = w8 at HX co cw ⊢
        go_region_held3 (fun w' => w'.cell? ⟨B, 5, none⟩ = some (.bool r7.off) ∧ w'.cell? ⟨B, 1, none⟩ = some (.slice wa wn wc)) (exact ⟨co, cw⟩)
          (first
            | (go_at_call 23; (with_reducible refine (on_down (HX.out.ctx.on.kept (w' := w8.drew) (fun _ _ => rfl))).mono ?_); rintro e w' ⟨rfl, rfl⟩; rw [hD])
            | (go_at_call 24; (with_reducible refine (on_waiting (HX.out.ctx.on.kept (w' := w8.drew) (fun _ _ => rfl))).mono ?_); rintro e w' ⟨rfl, rfl⟩; rw [hW])
            | (go_at_call 25; (with_reducible refine (on_size (HX.out.ctx.on.kept (w' := w8.drew) (fun _ _ => rfl))).mono ?_); rintro e w' ⟨rfl, rfl⟩; rw [hZ]))
        go_wp2_with fail
        go_roundw
        case rel => exact ⟨j + 1, _, _, _, _, _, _, _, _, by omega, by go_num, HX.out.drew, HS8.out, HF8.out⟩
        case measure => simp [intOf]; omega
      go_wp2_with fail
      generalize World.alloc wr _ = w8 at H1 HA hmA ⊢
      have HX := Lib.hid (H1.out.mono (Nat.le_succ j))
      have S6 := HS1.out
      have F6 := HF1.out.mono (show (j : Int) ≤ ((j + 1 : Nat) : Int) by omega)
      clear H1 HS1 HF1 HA hmA
      have hD : t.down = r.off := S6.down
      have hW : ((t.waiting : Nat) : Int) = ((wn : Nat) : Int) := congrArg (fun x : Nat => (x : Int)) (S6.waiting.trans HX.out.hwn.symm)
      have hZ : t.size = (n : Int) := by rw [S6.size, ← HX.out.hn]
      have co : w8.cell? ⟨B, 5, none⟩ = some (.bool r.off) := cell_block HX.out.box 5
      have cw : w8.cell? ⟨B, 1, none⟩ = some (.slice wa wn wc) := cell_block HX.out.box 1
      have HS8 := Lib.hid S6
      have HF8 := Lib.hid F6
      clear S6 F6
      go_region_held3 (fun w' => w'.cell? ⟨B, 5, none⟩ = some (.bool r.off) ∧ w'.cell? ⟨B, 1, none⟩ = some (.slice wa wn wc)) (exact ⟨co, cw⟩)
        (first
          | (go_at_call 23; (with_reducible refine (on_down (HX.out.ctx.on.kept (w' := w8.drew) (fun _ _ => rfl))).mono ?_); rintro e w' ⟨rfl, rfl⟩; rw [hD])
          | (go_at_call 24; (with_reducible refine (on_waiting (HX.out.ctx.on.kept (w' := w8.drew) (fun _ _ => rfl))).mono ?_); rintro e w' ⟨rfl, rfl⟩; rw [hW])
          | (go_at_call 25; (with_reducible refine (on_size (HX.out.ctx.on.kept (w' := w8.drew) (fun _ _ => rfl))).mono ?_); rintro e w' ⟨rfl, rfl⟩; rw [hZ]))
      go_wp2_with fail
      go_roundw
      case rel => exact ⟨j + 1, _, _, _, _, _, _, _, _, by omega, by go_num, HX.out.drew, HS8.out, HF8.out⟩
      case measure => simp [intOf]; omega
    · obtain rfl : j = len := by omega
      go_wp2_with fail
      refine (on_start H.ctx.on).mono ?_
      rintro e w5 ⟨rfl, h5, O5, T5⟩
      have H5 := Lib.hid (H.turn O5 T5)
      have S5 := Lib.hid (S.on false)
      have F5 := Lib.hid (show RSt.Fit { r with off := false } _ from ⟨F.some_, F.few, F.waits, F.ats, F.count0, F.count1⟩)
      clear O5 T5 H S F
      have cb5 : w5.cell? ⟨B, 5, none⟩ = some (.bool r.off) := cell_block H5.out.box 5
      have fb5 := free_block H5.out.box 5
      have HX := Lib.hid H5.out.start
      dsimp only
      go_wp2_with fail
      clear cb5 fb5 H5
      generalize World.setCell w5 _ _ = w6 at HX ⊢
      generalize ({ t with down := false } : St) = t6 at HX S5
      have hoff : Hid (({ r with off := false } : RSt).off = false) := rfl
      generalize ({ r with off := false } : RSt) = r6 at HX S5 F5 hoff
      go_loopw [16] (fun i wr => ∃ (k : Nat), k ≤ n ∧ i = .int .i64 k ∧ Hold w p B h5 t6 r6 n g lc wa wn wc j wr) (fun i _ => n - (intOf i).toNat)
      case atStart => exact ⟨0, by omega, rfl, HX.out⟩
      case round =>
        clear HX
        obtain ⟨k, hk, rfl, H⟩ := hrel
        by_cases hkn : k < n
        · have hkn' : (k : Int) < (n : Int) := by omega
          have hk0 : (0 : Int) ≤ (k : Int) := by omega
          have HH := Lib.hid H
          clear H
          go_wp2_with fail
          refine (on_read HH.out.ctx.on (by omega) (k : Int) (WalkArith.wf_i64 (by omega))).mono ?_
          rintro e w7 ⟨rfl, O7, b7⟩
          have H7 := Lib.hid (HH.out.grown b7)
          obtain ⟨hE1, hE2⟩ := S5.out.readS (k : Int)
          have hE0 : r6.readE (k : Int) = 0 := by
            unfold RSt.readE RSt.out
            rw [hoff.out, decide_eq_false (by omega), decide_eq_false (by rw [← H7.out.hn]; omega)]; rfl
          rw [hE1, hE2, hE0]
          have box7 := H7.out.box
          clear hE1 hE2 O7 b7 HH
          generalize hX : r6.readS (k : Int) = X at *
          dsimp only
          go_wp2_with (first
            | (refine load35 rfl (.tmp 7) rfl B _ (by rfl) box7 rfl ?_)
            | (go_at_call 15; refine (rread_any g n lc wa wn wc r6 (k : Int) w7 H7.out.rd (F5.out.ok (by omega)) H7.out.hn H7.out.hwn).mono ?_; rintro e w8 ⟨rfl, b8⟩; rw [hX])
            | fail)
          go_roundw
          case rel => exact ⟨k + 1, by omega, by go_num, H7.out.grown b8⟩
          case measure => simp [intOf]; omega
        · obtain rfl : k = n := by omega
          have hb := H.ctx.below
          clear H
          go_wp2_with fail
          go_ret
          exact ⟨rfl, hb⟩
end Go.Proofs.Ytdgbfkedgedogaa
