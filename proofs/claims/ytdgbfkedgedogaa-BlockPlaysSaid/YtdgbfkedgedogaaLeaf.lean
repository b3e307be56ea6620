/- Contracts of the disk's leaf functions. -/
import Derived.Test.YtdgbfkedgedogaaMem
namespace Go.Proofs.Ytdgbfkedgedogaa
open Go.RowKit Go.Maps
attribute [local go_sem 9000] sem_shr64 sem_and64 sem_rem64 sem_eq01
abbrev ptr (p : Nat) : Value := .pointer (some ⟨p, 0, none⟩)

theorem down_any {w : World} {p : Nat} {h : Hd} {s : Raw} (D : Disk w p h s) :
    Calls Try.prog 23 #[ptr p] w fun e w' => e = .returned (.bool s.down) ∧ w = w' := by
  have c7 := D.c7
  go_enter Try.func23, Try.ntmps23
  go_wp2
  go_ret
  exact ⟨rfl, rfl⟩
theorem waiting_any {w : World} {p : Nat} {h : Hd} {s : Raw} (D : Disk w p h s) :
    Calls Try.prog 24 #[ptr p] w fun e w' => e = .returned (.int .i64 s.waiting) ∧ w = w' := by
  have c4 := D.c4
  go_enter Try.func24, Try.ntmps24
  go_wp2
  go_ret
  exact ⟨rfl, rfl⟩
theorem size_any {w : World} {p : Nat} {h : Hd} {s : Raw} (D : Disk w p h s) :
    Calls Try.prog 25 #[ptr p] w fun e w' => e = .returned (.int .i64 s.size) ∧ w = w' := by
  have c0 := D.c0
  go_enter Try.func25, Try.ntmps25
  go_wp2
  go_ret
  exact ⟨rfl, rfl⟩
theorem start_any {w : World} {p : Nat} {h : Hd} {s : Raw} (D : Disk w p h s) :
    Calls Try.prog 22 #[ptr p] w fun e w' => e = .returned (.tuple #[]) ∧ Disk w' p h { s with down := false } ∧ Turn p w w' h h := by
  have c7 := D.c7
  have f7 := D.free 7
  go_enter Try.func22, Try.ntmps22
  go_wp2
  go_end0
  exact ⟨rfl, D.write 7 _ _ rfl rfl rfl rfl rfl rfl, D.write_turn _ _⟩
def Raw.armed (s : Raw) (a : Int) (k : BitVec 64) : Raw := if 1 ≤ a then { s with cut := a, keep := k } else { s with cut := 0, keep := 0 }
theorem Disk.alloc {w : World} {p : Nat} {h : Hd} {s : Raw} (D : Disk w p h s) (o : Obj) : Disk (w.alloc o) p h s := D.grown ((Below.refl w.heap.size w).alloc (Nat.le_refl _) o)
theorem Turn.alloc {p : Nat} {w w' : World} {h h' : Hd} (t : Turn p w w' h h') (o : Obj) : Turn p w (w'.alloc o) h h' := t.trans (Turn.of_below h' ((Below.refl w'.heap.size w').alloc (Nat.le_refl _) o))
theorem Turn.setCell {p : Nat} {w w' : World} {h h' : Hd} (t : Turn p w w' h h') (k : Nat) (u : Value) : Turn p w (w'.setCell ⟨p, k, none⟩ u) h h' :=
  t.trans ⟨rfl, rfl, rfl, by simp [World.setCell], fun j hj ho => Below.heap_setCell _ _ _ _ (fun e => ho (.inl e)), fun _ hk => .inl hk⟩
/-- Any cells of the disk's own block, for which the block is known whole. -/
theorem Disk.reblock {w w' : World} {p : Nat} {h : Hd} {s s' : Raw} (D : Disk w p h s) (hc : w'.heap[p]? = some (.cells (s'.cells h) 66 (0, 0))) (hk : ∀ k, k ≠ p → k < w.heap.size → w'.heap[k]? = w.heap[k]?)
    (h1 : s'.lasts = s.lasts) (h2 : s'.cw = s.cw) (h3 : s'.newest = s.newest) (h4 : s'.nL = s.nL) (h5 : s'.nN = s.nN) : Disk w' p h s' where
  cells := hc
  lasts := by rw [h1, h4]; exact D.lasts.kept (hk _ D.pL (D.lt (.inr (.inl rfl))))
  newest := by rw [h3, h5]; exact D.newest.kept (hk _ D.pN (D.lt (.inr (.inr (.inl rfl)))))
  row := by
    rw [h2]
    refine ⟨D.row.1, ?_⟩
    rcases D.row.2 with h0 | ⟨g, cap, cur, hv, hb, hg, r⟩
    · exact .inl h0
    · exact .inr ⟨g, cap, cur, hv, hb, (hk g (fun e => D.pv (by rw [hv, ← e]; rfl)) (lt_of_block hg)).trans hg, r⟩
  apart := D.apart
theorem arm_any {w : World} {p : Nat} {h : Hd} {s : Raw} (D : Disk w p h s) (a : Int) (k : BitVec 64) :
    Calls Try.prog 18 #[ptr p, .agg #[.int .i64 a, .int .u64 (u64 k)]] w fun e w' => e = .returned (.tuple #[]) ∧ Disk w' p h (s.armed a k) ∧ Turn p w w' h h := by
  have c5 := D.c5
  have f5 := D.free 5
  have c6 := D.c6
  have f6 := D.free 6
  have hlt := D.lt (.inl rfl)
  have hne : p ≠ w.heap.size := by omega
  have D1 := D.write 5 (.int .i64 0) { s with cut := 0 } rfl rfl rfl rfl rfl rfl
  have D2 := D1.write 6 (.int .u64 (u64 0)) { s with cut := 0, keep := 0 } rfl rfl rfl rfl rfl rfl
  have D3 := D2.write 5 (.int .i64 a) { s with cut := a, keep := 0 } rfl rfl rfl rfl rfl rfl
  have D4 := D3.write 6 (.int .u64 (u64 k)) { s with cut := a, keep := k } rfl rfl rfl rfl rfl rfl
  go_enter Try.func18, Try.ntmps18
  by_cases ha : 1 ≤ a
  · go_wp2
    go_end0
    unfold Raw.armed
    rw [if_pos ha]
    exact ⟨rfl, D4.alloc _, (((((Turn.refl p w h).setCell _ _).setCell _ _).setCell _ _).setCell _ _).alloc _⟩
  · have ha' : a < 1 := by omega
    go_wp2
    go_end0
    unfold Raw.armed
    rw [if_neg (by omega)]
    exact ⟨rfl, D2.alloc _, (((Turn.refl p w h).setCell _ _).setCell _ _).alloc _⟩
def Raw.refusal (s : Raw) (a : Int) : Int := if s.down then 7 else if a < 0 ∨ s.size ≤ a then 1 else 0
theorem refusal_any {w : World} {p : Nat} {h : Hd} {s : Raw} (D : Disk w p h s) (a : Int) :
    Calls Try.prog 27 #[ptr p, .int .i64 a] w fun e w' => e = .returned (.int .i64 (s.refusal a)) ∧ w = w' := by
  have c7 := D.c7
  have c0 := D.c0
  unfold Raw.refusal
  cases hd : s.down
  · by_cases h1 : a < 0
    · go_enter Try.func27, Try.ntmps27
      go_wp2
      go_ret
      simp [h1]
    · have h1' : 0 ≤ a := by omega
      by_cases h2 : s.size ≤ a
      · go_enter Try.func27, Try.ntmps27
        go_wp2
        go_ret
        simp [h2]
      · have h2' : a < s.size := by omega
        go_enter Try.func27, Try.ntmps27
        go_wp2
        go_ret
        simp [h1, h2]
  · go_enter Try.func27, Try.ntmps27
    go_wp2
    go_ret
    simp
theorem allKept_any (i : Int) (w : World) : Calls Try.prog 32 #[.int .i64 i] w fun e w' => e = .returned (.bool true) ∧ w = w' := by
  go_enter Try.func32, Try.ntmps32
  go_wp2
  go_ret
  exact ⟨rfl, rfl⟩
theorem kept_any (c : Nat) (k : BitVec 64) (i : Nat) (w : World) (hc : w.cell? ⟨c, 0, none⟩ = some (kv k)) :
    Calls Try.prog 33 #[.int .i64 (i : Int), .pointer (some ⟨c, 0, none⟩)] w fun e w' => e = .returned (.bool (decide (i < 64) && k.getLsbD i)) ∧ w = w' := by
  have hp := par_shr k i
  go_enter Try.func33, Try.ntmps33
  by_cases h : i < 64
  · have h' : (i : Int) < 64 := by omega
    have h0 : (0 : Int) ≤ (i : Int) := by omega
    go_wp2
    go_ret
    refine ⟨?_, rfl⟩
    simp [h, hp]
  · have h' : ¬ (i : Int) < 64 := by omega
    go_wp2
    go_ret
    refine ⟨?_, rfl⟩
    simp [h]
end Go.Proofs.Ytdgbfkedgedogaa
