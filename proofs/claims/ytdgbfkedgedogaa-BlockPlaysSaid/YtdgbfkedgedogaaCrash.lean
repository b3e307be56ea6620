/- The power fails; a flush. -/
import Derived.Test.YtdgbfkedgedogaaSettle
namespace Go.Proofs.Ytdgbfkedgedogaa
open Go.RowKit Go.Maps
structure Raw.Ok (s : Raw) : Prop where
  few : s.nL + s.cw.length < 1099511627776
  each : ∀ x ∈ s.cw, (ik x.1).wf = true ∧ x.2.length = 32
def bits (k : BitVec 64) : Nat → Bool := fun i => decide (i < 64) && k.getLsbD i
def Raw.crashed (s : Raw) (k : BitVec 64) : Raw := if s.down then s else { s.settled (bits k) with cut := 0, keep := 0, down := true }
def Raw.failed (s : Raw) : Bool := decide (s.cut = 1)
def Raw.failing (s : Raw) : Raw := if s.cut = 0 then s else if s.cut = 1 then Raw.crashed { s with cut := 0 } s.keep else { s with cut := s.cut - 1 }

set_option maxRecDepth 100000 in
set_option maxHeartbeats 1000000 in
theorem crash_any {w : World} {p : Nat} {h : Hd} {s : Raw} (D : Disk w p h s) (k : BitVec 64) (ok : s.Ok) :
    Calls Try.prog 20 #[ptr p, kv k] w fun e w' => e = .returned (.tuple #[]) ∧ ∃ h', Disk w' p h' (s.crashed k) ∧ Turn p w w' h h' := by
  have hmf : ∀ (fn : Fn) (first cap : Array Value) (w : World), (Instr.makeFunc fn first cap).run Try.prog w = .ok (.func fn first cap) w := fun _ _ _ _ => rfl
  have T1 := (Turn.refl p w h).alloc (.cells #[kv k] 31)
  have D1 := D.alloc (.cells #[kv k] 31)
  have hb := heap_alloc_new w (.cells #[kv k] 31)
  have hc : (w.alloc (.cells #[kv k] 31)).cell? ⟨w.heap.size, 0, none⟩ = some (kv k) := cell_block hb 0
  have hm : Mine (w.alloc (.cells #[kv k] 31)) p h w.heap.size := D.mine_new (Nat.le_refl _) (by simp)
  have c7 := D.c7
  have hl := D.lt (.inl rfl)
  have hne : p ≠ w.heap.size := by omega
  clear hb
  unfold Raw.crashed
  cases hd : s.down
  · rw [hd] at c7
    have HS := Lib.hid hc
    clear hc
    go_enter Try.func20, Try.ntmps20
    go_wp2_with fail
    refine (settle_any D1 _ (bits k) (.inr ⟨_, k, rfl, HS.out, hm, rfl⟩) ok.few ok.each).mono ?_
    rintro e w2 ⟨rfl, h2, D2, T2⟩
    clear c7
    have f5 := D2.free 5
    have f6 := D2.free 6
    have f7 := D2.free 7
    have c5 := D2.c5
    have c6 := D2.c6
    have c7 := D2.c7
    have D3 := ((D2.write 5 (.int .i64 0) { s.settled (bits k) with cut := 0 } rfl rfl rfl rfl rfl rfl).write 6 (.int .u64 0) { s.settled (bits k) with cut := 0, keep := 0 } rfl rfl rfl rfl rfl rfl).write 7 (.bool true) { s.settled (bits k) with cut := 0, keep := 0, down := true } rfl rfl rfl rfl rfl rfl
    have T3 := (((Turn.refl p w2 h2).setCell 5 (.int .i64 0)).setCell 6 (.int .u64 0)).setCell 7 (.bool true)
    go_wp2
    go_end0
    exact ⟨rfl, h2, D3, (T1.trans T2).trans T3⟩
  · rw [hd] at c7
    rw [if_pos rfl]
    go_enter Try.func20, Try.ntmps20
    go_wp2
    first | go_end0 | refine bodyPost_ret (results_none rfl _ _ _) rfl ?_
    exact ⟨rfl, h, D1, T1⟩
theorem Raw.Ok.set {s : Raw} (ok : s.Ok) (c : Int) (k : BitVec 64) (d : Bool) : Raw.Ok { s with cut := c, keep := k, down := d } := ⟨ok.few, ok.each⟩
set_option maxRecDepth 100000 in
set_option maxHeartbeats 1000000 in
theorem fails_any {w : World} {p : Nat} {h : Hd} {s : Raw} (D : Disk w p h s) (ok : s.Ok) (h0 : 0 ≤ s.cut) (hx : s.cut ≤ 9223372036854775807) :
    Calls Try.prog 29 #[ptr p] w fun e w' => e = .returned (.bool s.failed) ∧ ∃ h', Disk w' p h' s.failing ∧ Turn p w w' h h' := by
  have c5 := D.c5
  have c6 := D.c6
  have f5 := D.free 5
  unfold Raw.failed Raw.failing
  by_cases hz : s.cut = 0
  · rw [hz] at c5
    rw [if_pos hz, hz]
    go_enter Try.func29, Try.ntmps29
    go_wp2
    go_ret
    exact ⟨rfl, h, D, Turn.refl _ _ _⟩
  · rw [if_neg hz]
    have D1 := D.write 5 (.int .i64 (s.cut - 1)) { s with cut := s.cut - 1 } rfl rfl rfl rfl rfl rfl
    have T1 := (Turn.refl p w h).setCell 5 (.int .i64 (s.cut - 1))
    by_cases h1 : s.cut = 1
    · rw [h1] at c5
      rw [if_pos h1, h1]
      rw [h1] at D1 T1
      go_enter Try.func29, Try.ntmps29
      go_wp2_with fail
      refine (crash_any D1 s.keep (ok.set _ _ _)).mono ?_
      rintro e w2 ⟨rfl, h2, D2, T2⟩
      go_wp2
      go_ret
      exact ⟨rfl, h2, D2, T1.trans T2⟩
    · rw [if_neg h1, decide_eq_false h1]
      have h2 : 0 < s.cut - 1 := by omega
      have h3 : ¬ s.cut = 0 := hz
      go_enter Try.func29, Try.ntmps29
      go_wp2
      go_ret
      exact ⟨rfl, h, D1, T1⟩
def Raw.flushed (s : Raw) : Raw := if s.down then s else if s.failed then s.failing else s.failing.settled (fun _ => true)
def Raw.flushE (s : Raw) : Int := if s.down || s.failed then 7 else 0
theorem Raw.Ok.failing {s : Raw} (ok : s.Ok) (hf : s.failed = false) : s.failing.Ok := by
  unfold Raw.failing
  unfold Raw.failed at hf
  by_cases hz : s.cut = 0
  · rw [if_pos hz]; exact ok
  · rw [if_neg hz, if_neg (of_decide_eq_false hf)]; exact ⟨ok.few, ok.each⟩
set_option maxRecDepth 100000 in
set_option maxHeartbeats 1000000 in
theorem flush_any {w : World} {p : Nat} {h : Hd} {s : Raw} (D : Disk w p h s) (ok : s.Ok) (h0 : 0 ≤ s.cut) (hx : s.cut ≤ 9223372036854775807) :
    Calls Try.prog 16 #[ptr p] w fun e w' => e = .returned (.int .i64 s.flushE) ∧ ∃ h', Disk w' p h' s.flushed ∧ Turn p w w' h h' := by
  have c7 := D.c7
  have HE : Hid (∀ b, s.down = b → s.flushE = if (b || s.failed) = true then 7 else 0) := fun b e => by unfold Raw.flushE; rw [e]
  have HF : Hid (∀ b, s.down = b → s.flushed = if b = true then s else if s.failed then s.failing else s.failing.settled (fun _ => true)) := fun b e => by unfold Raw.flushed; rw [e]
  cases hd : s.down
  · rw [hd] at c7
    have HO := Lib.hid (fun hf => ok.failing hf)
    have HD := Lib.hid hd
    clear hd
    go_enter Try.func16, Try.ntmps16
    go_wp2_with fail
    refine (fails_any D ok h0 hx).mono ?_
    rintro e w2 ⟨rfl, h2, D2, T2⟩
    cases hf : s.failed
    · go_wp2_with fail
      refine (settle_any D2 _ (fun _ => true) (.inl ⟨rfl, rfl⟩) (HO.out hf).few (HO.out hf).each).mono ?_
      rintro e w3 ⟨rfl, h3, D3, T3⟩
      have HF1 := Lib.hid hf
      clear hf
      go_wp2
      go_ret
      rw [HE.out _ HD.out, HF.out _ HD.out, HF1.out]
      exact ⟨rfl, h3, D3, T2.trans T3⟩
    · have HF1 := Lib.hid hf
      clear hf
      go_wp2
      go_ret
      rw [HE.out _ HD.out, HF.out _ HD.out, HF1.out]
      exact ⟨rfl, h2, D2, T2⟩
  · rw [hd] at c7
    have HD := Lib.hid hd
    clear hd
    go_enter Try.func16, Try.ntmps16
    go_wp2
    go_ret
    rw [HE.out _ HD.out, HF.out _ HD.out]
    exact ⟨rfl, h, D, Turn.refl _ _ _⟩
end Go.Proofs.Ytdgbfkedgedogaa
