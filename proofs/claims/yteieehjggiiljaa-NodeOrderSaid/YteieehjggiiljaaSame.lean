/- slices.Equal of entries; the program's Same. -/
import Derived.Test.YteieehjggiiljaaErow
namespace Go.Proofs.Yteieehjggiiljaa
set_option maxRecDepth 100000
open Go.RowKit Go.Less
attribute [local go_sem 9000] sem_eql sem_neq sem_lss sem_leq sem_gtr sem_geq
attribute [local go_sem 9000] neq_ent
/-- Two rows alike? Closed to the walk's simp. -/
def sameL (l l' : List En) : Bool := decide (l = l')
set_option maxHeartbeats 4000000 in
theorem equal_any (a : Option Addr) (n cap : Nat) (l : List En) (a' : Option Addr) (n' cap' : Nat) (l' : List En) (w : World) (hE : Ents a n l w) (hE' : Ents a' n' l' w) (hn : n ≤ 1000000) (hn' : n' ≤ 1000000) :
    Calls Try.prog 37 #[.slice a n cap, .slice a' n' cap'] w (Samed (sameL l l') w) := by
  have HNL := Lib.hid hE.count
  have HNL' := Lib.hid hE'.count
  have hni : (n : Int) ≤ 1000000 := by omega
  have HE := Lib.hid (fun W (hb : Below w.heap.size w W) => hE.below hb)
  have HE' := Lib.hid (fun W (hb : Below w.heap.size w W) => hE'.below hb)
  clear hE hE'
  by_cases e5 : ¬ n = n'
  · have b1 : ((n : Int) == (n' : Int)) = false := by rw [beq_eq_false_iff_ne]; omega
    have HR := Lib.hid (show sameL l l' = false from decide_eq_false (fun e => e5 (by rw [HNL.out, HNL'.out, e])))
    clear e5
    go_enter Try.func37, Try.ntmps37
    go_wp2_with fail
    go_ret
    rw [HR.out]
    exact ⟨rfl, Below.refl _ _⟩
  obtain rfl := Decidable.not_not.1 e5
  clear e5
  go_enter Try.func37, Try.ntmps37
  go_wp2_with fail
  go_loopw [13] (fun i wr => (∃ j : Nat, j ≤ n ∧ i = .int .i64 j ∧ l.take j = l'.take j) ∧ Below w.heap.size w wr) (fun i _ => n - (intOf i).toNat)
  case atStart => exact ⟨⟨0, Nat.zero_le _, rfl, rfl⟩, Below.refl _ _⟩
  case round =>
    obtain ⟨⟨j, hj, rfl, hf⟩, hb⟩ := hrel
    by_cases hlt : j < n
    · have j0 : (j : Int) < (n : Int) := by omega
      have hj0 : (0 : Int) ≤ (j : Int) := by omega
      obtain ⟨b, off, rfl, c0, c1⟩ := (HE.out _ hb).cell j hlt
      obtain ⟨b', off', rfl, c0', c1'⟩ := (HE'.out _ hb).cell j hlt
      have HT := Lib.hid (fun h => take_ext (l := l) (l' := l') (by rw [← HNL.out, ← HNL'.out]) hf (by rw [← HNL.out]; exact hlt) h)
      obtain ⟨x, hxe⟩ : ∃ x, x = l.getD j z0 := ⟨_, rfl⟩
      obtain ⟨x', hxe'⟩ : ∃ x, x = l'.getD j z0 := ⟨_, rfl⟩
      have HN := Lib.hid (show x ≠ x' → l ≠ l' from fun h e => h (by rw [hxe, hxe', e]))
      rw [← hxe] at c0 c1 HT
      rw [← hxe'] at c0' c1' HT
      clear hxe hxe' hf
      obtain ⟨x1, x2⟩ := x
      obtain ⟨y1, y2⟩ := x'
      have HB := Lib.hid hb
      clear hb
      cases hx : sameE (x1, x2) (y1, y2)
      · have HR := Lib.hid (show sameL l l' = false from decide_eq_false (HN.out (of_decide_eq_false hx)))
        clear HN HT
        go_wp2_with fail
        go_quiet (fail)
        go_wp2_with fail
        go_ret
        rw [HR.out]
        exact ⟨rfl, bdn HB.out _⟩
      · have HR := Lib.hid (HT.out (of_decide_eq_true hx))
        clear HN HT
        go_wp2_with fail
        go_quiet (fail)
        go_wp2_with fail
        exact ⟨⟨⟨j + 1, by omega, by go_num, HR.out⟩, bdn HB.out _⟩, by simp [intOf]; omega⟩
    · obtain rfl : j = n := by omega
      have HR := Lib.hid (show sameL l l' = true from decide_eq_true (by rw [HNL.out, List.take_length, ← HNL.out, HNL'.out, List.take_length] at hf; exact hf))
      have HB := Lib.hid hb
      clear hf hb
      go_wp2_with fail
      go_ret
      rw [HR.out]
      exact ⟨rfl, HB.out⟩
set_option maxHeartbeats 4000000 in
theorem same_any (k m : Int) (d t : ByteArray) (a : Option Addr) (n cap : Nat) (l : List En) (k' m' : Int) (d' t' : ByteArray) (a' : Option Addr) (n' cap' : Nat) (l' : List En) (w : World) (hE : Ents a n l w) (hE' : Ents a' n' l' w) (hn : n ≤ 1000000) (hn' : n' ≤ 1000000) :
    Calls Try.prog 21 #[nv k m d t a n cap, nv k' m' d' t' a' n' cap'] w (Samed (sameN k m d t l k' m' d' t' l') w) := by
  have HQ := Lib.hid (show ∀ W, Below w.heap.size w W → Calls Try.prog 37 #[.slice a n cap, .slice a' n' cap'] W (Samed (sameL l l') W) from fun W hb => equal_any a n cap l a' n' cap' l' W (hE.below hb) (hE'.below hb) hn hn')
  have HB0 := Lib.hid (show ∀ x y : Obj, Below w.heap.size w ((w.alloc x).alloc y) from fun x y => ((Below.refl _ w).alloc (Nat.le_refl _) _).alloc (by simp) _)
  have HF := Lib.hid (show ∀ b W, sameN k m d t l k' m' d' t' l' = b → Below w.heap.size w W → Samed (sameN k m d t l k' m' d' t' l') w (.returned (.bool b)) W from fun b W h hb => by rw [h]; exact ⟨rfl, hb⟩)
  clear hE hE'
  by_cases e1 : ¬ k = k'
  · have b1 : (k == k') = false := by rw [beq_eq_false_iff_ne]; exact e1
    have HR := Lib.hid (show sameN k m d t l k' m' d' t' l' = false by unfold sameN; rw [b1]; rfl)
    go_enter Try.func21, Try.ntmps21
    go_wp2_with fail
    go_ret
    exact HF.out _ _ HR.out (HB0.out _ _)
  obtain rfl := Decidable.not_not.1 e1
  clear e1
  by_cases e2 : ¬ m = m'
  · have b1 : (m == m') = false := by rw [beq_eq_false_iff_ne]; exact e2
    have HR := Lib.hid (show sameN k m d t l k m' d' t' l' = false by unfold sameN; rw [b1]; simp)
    go_enter Try.func21, Try.ntmps21
    go_wp2_with fail
    go_ret
    exact HF.out _ _ HR.out (HB0.out _ _)
  obtain rfl := Decidable.not_not.1 e2
  clear e2
  cases e3 : alike d d'
  · have HR := Lib.hid (show sameN k m d t l k m d' t' l' = false by unfold sameN; rw [e3]; simp)
    go_enter Try.func21, Try.ntmps21
    go_wp2_with fail
    go_ret
    exact HF.out _ _ HR.out (HB0.out _ _)
  cases e4 : alike t t'
  · have HR := Lib.hid (show sameN k m d t l k m d' t' l' = false by unfold sameN; rw [e4]; simp)
    go_enter Try.func21, Try.ntmps21
    go_wp2_with fail
    go_ret
    exact HF.out _ _ HR.out (HB0.out _ _)
  have HR := Lib.hid (show sameN k m d t l k m d' t' l' = sameL l l' by unfold sameN sameL; rw [e3, e4]; simp)
  go_enter Try.func21, Try.ntmps21
  go_wp2_with fail
  refine (HQ.out _ (HB0.out _ _)).mono ?_
  rintro e w1 ⟨rfl, hb⟩
  have HB := Lib.hid ((HB0.out _ _).trans (hb.mono (HB0.out _ _).size))
  clear hb
  dsimp only
  go_wp2_with fail
  go_ret
  exact HF.out _ _ HR.out HB.out
end Go.Proofs.Yteieehjggiiljaa
