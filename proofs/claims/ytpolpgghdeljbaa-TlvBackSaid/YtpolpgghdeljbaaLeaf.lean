/- Contracts of the leaf functions. -/
import Derived.Test.YtpolpgghdeljbaaBv
import Derived.ScopeJumps
import Derived.Lib.Hide
namespace Go.Proofs.Ytpolpgghdeljbaa
open Go.RowKit Crc
attribute [local go_sem 9000] sem_xor32 sem_and1 sem_not32 sem_mulpoly sem_shr32 run_w8 run_b8 run_bytes4

theorem scope_jumps2 {P : Program} {a : Act} {w : World} {Q : Exit → Act → World → Prop} {c rest : Code} (l : Nat) (J : Act → World → Prop) (μ : Act → World → Nat) (hf : findLabel c l = some (Code.skip.seq rest))
    (pass : ∀ a w, J a w → rest.wp P (Exit.jump l (fun a' w' => J a' w' ∧ μ a' w' < μ a w) Q) a w)
    (first : (∀ a w, J a w → rest.wp P (Exit.jump l J Q) a w) → c.wp P (Exit.jump l J Q) a w) : (Code.scope c).wp P Q a w :=
  wp_scope_jumps l J μ hf (first fun a w hj => Code.wp_mono (fun e a w h => by cases e <;> first | exact h | exact ⟨h.1, h.2.1⟩) (pass a w hj))
    (fun a w hj => wp_seq (wp_skip (pass a w hj)))

set_option maxHeartbeats 400000 in
theorem sumText_any (x : BitVec 32) (w : World) :
    Calls Try.prog 27 #[wv x] w fun e w' => e = .returned (.string ⟨(low x).toArray⟩) ∧ Below w.heap.size w w' := by
  go_enter Try.func27, Try.ntmps27
  go_wp2
  go_ret
  exact ⟨rfl, (Below.refl _ _).alloc (Nat.le_refl _) _⟩

set_option maxRecDepth 100000 in
set_option maxHeartbeats 1000000 in
theorem shiftByte_any (x : BitVec 32) (c : UInt8) (w : World) :
    Calls Try.prog 33 #[wv x, bv c] w fun e w' => e = .returned (wv (byte x c)) ∧ w = w' := by
  go_enter Try.func33, Try.ntmps33
  go_wp2
  refine scope_jumps2 0 (fun a' wr => ∃ (k : Nat) (v6 v7 v8 v9 v10 v11 v12 v13 v14 v15 v16 v17 v18 v19 v20 v21 v22 v23 : Value), k < 8 ∧ wr = w ∧ a' = { tmps := #[wv (fbits x c k), bv c, undef, undef, .int .u32 0, .int .i64 k, v6, v7, v8, v9, v10, v11, v12, v13, v14, v15, v16, v17, v18, v19, v20, v21, v22, v23], defers := [] }) (fun a' _ => 8 - (intOf (a'.tmps.getD 5 undef)).toNat) rfl ?_ ?_
  · rintro a' wr ⟨k, v6, v7, v8, v9, v10, v11, v12, v13, v14, v15, v16, v17, v18, v19, v20, v21, v22, v23, hk, rfl, rfl⟩
    have hstep := fbit_prog (fbits x c k) c k
    have HS := Lib.hid (show fbit (fbits x c k) (c.toNat.testBit k) = fbits x c (k + 1) from rfl)
    generalize fbits x c k = y at hstep HS ⊢
    have hk1 : (k : Int) < 8 := by omega
    by_cases h7 : k < 7
    · have h8 : (k : Int) + 1 < 8 := by omega
      go_wp2
      go_step3
      rw [HS.out]
      refine ⟨rfl, ⟨k + 1, _, _, _, _, _, _, _, _, _, _, _, _, _, _, _, _, _, _, by omega, rfl, rfl⟩, ?_⟩
      · simp [intOf]; omega
    · have h8 : ¬ (k : Int) + 1 < 8 := by omega
      go_wp2
      simp only [Exit.jump]
      go_ret
      refine ⟨?_, rfl⟩
      obtain rfl : k = 7 := by omega
      exact congrArg (fun z => Ending.returned (wv z)) HS.out
  · intro hpass
    go_wp2
    go_step3
    rename_i Kf hKf
    exact hKf _ _ (hpass _ _ ⟨0, _, _, _, _, _, _, _, _, _, _, _, _, _, _, _, _, _, _, by omega, rfl, rfl⟩)
end Go.Proofs.Ytpolpgghdeljbaa
