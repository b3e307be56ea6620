/- The program's Right of nodes. -/
import Derived.Test.YteieehjggiiljaaRe
import Derived.ScopeJumps
namespace Go.Proofs.Yteieehjggiiljaa
set_option maxRecDepth 100000
open Go.RowKit Go.Less
attribute [local go_sem 9000] sem_eql sem_neq sem_lss sem_leq sem_gtr sem_geq
/-- A jump ahead: behind the label the rest is walked. -/
theorem scope_fwd {P : Program} {a : Act} {w : World} {Q : Exit → Act → World → Prop} {c rest : Code} (l : Nat) (hf : findLabel c l = some (Code.skip.seq rest))
    (first : c.wp P (Exit.jump l (fun a' w' => rest.wp P (Exit.jump l (fun _ _ => False) Q) a' w') Q) a w) : (Code.scope c).wp P Q a w :=
  wp_scope_jumps l (fun a' w' => rest.wp P (Exit.jump l (fun _ _ => False) Q) a' w') (fun _ _ => 0) hf first
    (fun a w hj => wp_seq (wp_skip (Code.wp_mono (fun e a w h => by cases e <;> first | exact h | exact h.2.elim) hj)))
theorem ndr_P (k m : Int) (d t : ByteArray) (l : List En) : ndr k m d t l = (decide (0 ≤ m) && decide (m ≤ 511) &&
    (if k = 1 then decide (d.size ≤ 4096) && isE t && decide (l.length = 0) else if k = 2 then isE d && isE t && rte l else decide (k = 3) && isE d && !isE t && decide (t.size ≤ 64) && decide (l.length = 0))) := Nd.right_P _
theorem ndr_low {k m : Int} {d t : ByteArray} {l : List En} (h : m < 0 ∨ 511 < m) : ndr k m d t l = false := by
  rw [ndr_P]
  rcases h with h | h
  · rw [decide_eq_false (by omega)]; rfl
  · rw [decide_eq_false (p := m ≤ 511) (by omega)]; simp
theorem ndr_in {k m : Int} {d t : ByteArray} {l : List En} (h0 : ¬ m < 0) (h1 : ¬ 511 < m) : ndr k m d t l = (if k = 1 then decide (d.size ≤ 4096) && isE t && decide (l.length = 0) else if k = 2 then isE d && isE t && rte l else decide (k = 3) && isE d && !isE t && decide (t.size ≤ 64) && decide (l.length = 0)) := by
  rw [ndr_P, decide_eq_true (show 0 ≤ m by omega), decide_eq_true (show m ≤ 511 by omega)]; rfl
set_option maxHeartbeats 4000000 in
theorem node_any (k m : Int) (d t : ByteArray) (a : Option Addr) (n cap : Nat) (l : List En) (w : World) (hE : Ents a n l w) (hn : n ≤ 1000000) (hs : ∀ j, j < n → (l.getD j z0).1.size ≤ 100000) :
    Calls Try.prog 19 #[nv k m d t a n cap] w (Samed (ndr k m d t l) w) := by
  have HNL := Lib.hid hE.count
  have HB0 := Lib.hid (show ∀ x : Obj, Below w.heap.size w (w.alloc x) from fun x => (Below.refl _ w).alloc (Nat.le_refl _) _)
  have HF := Lib.hid (show ∀ b W, ndr k m d t l = b → Below w.heap.size w W → Samed (ndr k m d t l) w (.returned (.bool b)) W from fun b W h hb => by rw [h]; exact ⟨rfl, hb⟩)
  have HRe := Lib.hid (show ∀ W, Below w.heap.size w W → Calls Try.prog 36 #[.slice a n cap] W (Samed (rte l) W) from fun W hb => rightEntries_any a n cap l W (hE.below hb) hn hs)
  have HZ := Lib.hid (show decide (l.length = 0) = decide (n = 0) by rw [← HNL.out])
  have HT := Lib.hid (show alike t ⟨#[]⟩ = isE t from rfl)
  have HD := Lib.hid (show alike d ⟨#[]⟩ = isE d from rfl)
  clear hE hs
  by_cases e1 : m < 0
  · have HR := Lib.hid (ndr_low (k := k) (d := d) (t := t) (l := l) (.inl e1))
    go_enter Try.func19, Try.ntmps19
    go_wp2_with fail
    refine scope_fwd 0 rfl ?_
    go_wp2_with fail
    simp only [Exit.jump]
    go_ret
    exact HF.out _ _ HR.out (HB0.out _)
  by_cases e2 : 511 < m
  · have HR := Lib.hid (ndr_low (k := k) (d := d) (t := t) (l := l) (.inr e2))
    go_enter Try.func19, Try.ntmps19
    go_wp2_with fail
    refine scope_fwd 0 rfl ?_
    go_wp2_with fail
    simp only [Exit.jump]
    go_ret
    exact HF.out _ _ HR.out (HB0.out _)
  have HI := Lib.hid (ndr_in (k := k) (d := d) (t := t) (l := l) e1 e2)
  by_cases k1 : k = 1
  · subst k1
    rw [if_pos rfl] at HI
    rcases Nat.lt_or_ge 4096 d.size with hd | hd
    · have hdi : (4096 : Int) < (d.size : Int) := by omega
      have HR := Lib.hid (HI.out.trans (show _ = false by rw [decide_eq_false (p := d.size ≤ 4096) (by omega)]; rfl))
      clear hd
      go_enter Try.func19, Try.ntmps19
      go_wp2_with fail
      refine scope_fwd 0 rfl ?_
      go_wp2_with fail
      refine wp_goto ?_
      refine ⟨rfl, ?_⟩
      go_wp2_with fail
      simp only [Exit.jump]
      go_ret
      exact HF.out _ _ HR.out (HB0.out _)
    have hdi : (d.size : Int) ≤ 4096 := by omega
    cases tE : alike t ⟨#[]⟩
    · have HR := Lib.hid (HI.out.trans (show _ = false by rw [← HT.out, tE]; simp))
      clear hd
      go_enter Try.func19, Try.ntmps19
      go_wp2_with fail
      refine scope_fwd 0 rfl ?_
      go_wp2_with fail
      refine wp_goto ?_
      refine ⟨rfl, ?_⟩
      go_wp2_with fail
      simp only [Exit.jump]
      go_ret
      exact HF.out _ _ HR.out (HB0.out _)
    have HR := Lib.hid (show ndr 1 m d t l = decide ((n : Int) = 0) by rw [HI.out, decide_eq_true hd, ← HT.out, tE, HZ.out]; simp)
    clear hd
    go_enter Try.func19, Try.ntmps19
    go_wp2_with fail
    refine scope_fwd 0 rfl ?_
    go_wp2_with fail
    refine wp_goto ?_
    refine ⟨rfl, ?_⟩
    go_wp2_with fail
    simp only [Exit.jump]
    go_ret
    exact HF.out _ _ HR.out (HB0.out _)
  by_cases k2 : k = 2
  · subst k2
    rw [if_neg (by omega), if_pos rfl] at HI
    cases dE : alike d ⟨#[]⟩
    · have HR := Lib.hid (HI.out.trans (show _ = false by rw [← HD.out, dE]; simp))
      go_enter Try.func19, Try.ntmps19
      go_wp2_with fail
      refine scope_fwd 1 rfl ?_
      go_wp2_with fail
      refine wp_goto ?_
      refine ⟨rfl, ?_⟩
      go_wp2_with fail
      simp only [Exit.jump]
      go_ret
      exact HF.out _ _ HR.out (HB0.out _)
    cases tE : alike t ⟨#[]⟩
    · have HR := Lib.hid (HI.out.trans (show _ = false by rw [← HT.out, tE]; simp))
      go_enter Try.func19, Try.ntmps19
      go_wp2_with fail
      refine scope_fwd 1 rfl ?_
      go_wp2_with fail
      refine wp_goto ?_
      refine ⟨rfl, ?_⟩
      go_wp2_with fail
      simp only [Exit.jump]
      go_ret
      exact HF.out _ _ HR.out (HB0.out _)
    have HR := Lib.hid (show ndr 2 m d t l = rte l by rw [HI.out, ← HD.out, dE, ← HT.out, tE]; rfl)
    go_enter Try.func19, Try.ntmps19
    go_wp2_with fail
    refine scope_fwd 1 rfl ?_
    go_wp2_with fail
    refine wp_goto ?_
    refine ⟨rfl, ?_⟩
    go_wp2_with fail
    refine (HRe.out _ (HB0.out _)).mono ?_
    rintro e w1 ⟨rfl, hw1⟩
    have HB1 := Lib.hid ((HB0.out _).trans (hw1.mono (HB0.out _).size))
    clear hw1
    dsimp only
    go_wp2_with fail
    simp only [Exit.jump]
    go_ret
    exact HF.out _ _ HR.out HB1.out
  by_cases k3 : k = 3
  · subst k3
    rw [if_neg (by omega), if_neg (by omega), decide_eq_true rfl, Bool.true_and] at HI
    cases dE : alike d ⟨#[]⟩
    · have HR := Lib.hid (HI.out.trans (show _ = false by rw [← HD.out, dE]; simp))
      go_enter Try.func19, Try.ntmps19
      go_wp2_with fail
      refine scope_fwd 2 rfl ?_
      go_wp2_with fail
      refine wp_goto ?_
      refine ⟨rfl, ?_⟩
      go_wp2_with fail
      simp only [Exit.jump]
      go_ret
      exact HF.out _ _ HR.out (HB0.out _)
    cases tE : alike t ⟨#[]⟩
    case true =>
      have HR := Lib.hid (HI.out.trans (show _ = false by rw [← HT.out, tE]; simp))
      go_enter Try.func19, Try.ntmps19
      go_wp2_with fail
      refine scope_fwd 2 rfl ?_
      go_wp2_with fail
      refine wp_goto ?_
      refine ⟨rfl, ?_⟩
      go_wp2_with fail
      simp only [Exit.jump]
      go_ret
      exact HF.out _ _ HR.out (HB0.out _)
    rcases Nat.lt_or_ge 64 t.size with h2 | h2
    · have h2i : (64 : Int) < (t.size : Int) := by omega
      have HR := Lib.hid (HI.out.trans (show _ = false by rw [decide_eq_false (p := t.size ≤ 64) (by omega)]; simp))
      clear h2
      go_enter Try.func19, Try.ntmps19
      go_wp2_with fail
      refine scope_fwd 2 rfl ?_
      go_wp2_with fail
      refine wp_goto ?_
      refine ⟨rfl, ?_⟩
      go_wp2_with fail
      simp only [Exit.jump]
      go_ret
      exact HF.out _ _ HR.out (HB0.out _)
    have h2i : (t.size : Int) ≤ 64 := by omega
    have HR := Lib.hid (show ndr 3 m d t l = decide ((n : Int) = 0) by rw [HI.out, ← HD.out, dE, ← HT.out, tE, decide_eq_true h2, HZ.out]; simp)
    clear h2
    go_enter Try.func19, Try.ntmps19
    go_wp2_with fail
    refine scope_fwd 2 rfl ?_
    go_wp2_with fail
    refine wp_goto ?_
    refine ⟨rfl, ?_⟩
    go_wp2_with fail
    simp only [Exit.jump]
    go_ret
    exact HF.out _ _ HR.out (HB0.out _)
  have HR := Lib.hid (HI.out.trans (show _ = false by rw [if_neg k1, if_neg k2, decide_eq_false k3]; rfl))
  go_enter Try.func19, Try.ntmps19
  go_wp2_with fail
  refine scope_fwd 0 rfl ?_
  go_wp2_with fail
  simp only [Exit.jump]
  go_ret
  exact HF.out _ _ HR.out (HB0.out _)
end Go.Proofs.Yteieehjggiiljaa
