/- Layer 11, a law walked. -/
import Derived.Test.YthehblmjloohiaaGreatDoorM39
namespace Go.Proofs.YthehblmjloohiaaGreatDoor
set_option maxRecDepth 100000
open Go.RowKit Go.Less Go.Maps
open T8 (pv Dg)
attribute [local go_sem 9000] sem_eql sem_neq
def IsMax (M : Int) (l : List Int) : Prop := M ∈ l ∧ ∀ x ∈ l, x ≤ M
theorem max_more {M : Int} {l : List Int} {k : Nat} {z : Int} (h : IsMax M (l.take k)) (hz : l[k]? = some z) : IsMax (max M z) (l.take (k + 1)) := by
 have hk : k < l.length := by
  rcases Nat.lt_or_ge k l.length with h | h
  ·exact h
  ·rw [List.getElem?_eq_none h] at hz; cases hz
 have e : l.take (k + 1) = l.take k ++ [z] := by
  rw [List.take_succ_eq_append_getElem hk]
  rw [List.getElem?_eq_getElem hk] at hz
  injection hz with hz
  rw [hz]
 rw [e]
 refine ⟨?_, fun x hx => ?_⟩
 ·rcases Int.le_total M z with h1 | h1
  ·rw [Int.max_eq_right h1]; exact List.mem_append_right _ (List.mem_singleton.2 rfl)
  ·rw [Int.max_eq_left h1]; exact List.mem_append_left _ h.1
 ·rcases List.mem_append.1 hx with hx | hx
  ·exact Int.le_trans (h.2 x hx) (Int.le_max_left _ _)
  ·rw [List.mem_singleton.1 hx]; exact Int.le_max_right _ _
set_option maxHeartbeats 8000000 in
theorem max_any (a : Option Addr) (n cap : Nat) (l : List Int) (w : World) (hI : Ints a n l w) (hn : n ≤ 1000000) (h1 : 1 ≤ n) : Calls Tryz.prog 72 #[.slice a n cap] w fun e w' => (∃ M, e = .returned (.int .i64 M) ∧ IsMax M l) ∧ w' = w := by
 have hni : (n : Int) ≤ 1000000 := by omega
 have h1i : ¬ (n : Int) < 1 := by omega
 have h0i : (0 : Int) < (n : Int) := by omega
 have HI := Lib.hid hI
 have hcount := hI.count
 obtain ⟨z, hz⟩ : ∃ z, l[0]? = some z := ⟨_, List.getElem?_eq_getElem (by omega)⟩
 obtain ⟨b, off, rfl, hc⟩ := hI.cell 0 h1
 rw [show l.getD 0 0 = z by rw [List.getD, hz]; rfl] at hc
 have HL := Lib.hid hcount
 have HZ := Lib.hid (show IsMax z (l.take 1) by
  have e : l.take 1 = [z] := by
   cases l with
   | nil => cases hz
   | cons y l => injection hz with hz; rw [hz]; rfl
  rw [e]; exact ⟨List.mem_singleton.2 rfl, fun x hx => by rw [List.mem_singleton.1 hx]; exact Int.le_refl _⟩)
 rw [Nat.add_zero] at hc
 clear hI hcount hz
 go_enter Tryz.func72, Tryz.ntmps72
 go_wp2_with fail
 clear hc
 go_loopw [3, 4] (fun x3 x4 wr => ∃ (k : Nat) (M : Int), 1 ≤ k ∧ k ≤ n ∧ x4 = .int .i64 k ∧ x3 = .int .i64 M ∧ Hid (IsMax M (l.take k)) ∧ wr = w) (fun _ x4 _ => n - (intOf x4).toNat)
 case atStart => exact ⟨1, z, Nat.le_refl _, h1, rfl, rfl, HZ.out, rfl⟩
 case round =>
  clear HZ
  obtain ⟨k, M, hk1, hk, rfl, rfl, HM, rfl⟩ := hrel
  by_cases hlt : k < n
  ·have k0 : (k : Int) < (n : Int) := by omega
   have hk0 : (0 : Int) ≤ (k : Int) := by omega
   obtain ⟨b1, o1, e1, hc⟩ := HI.out.cell k hlt
   injection e1 with e1
   injection e1 with e1 e2 _
   subst e1 e2
   obtain ⟨z2, hz2⟩ : ∃ z, l[k]? = some z := ⟨_, List.getElem?_eq_getElem (by rw [← HL.out]; exact hlt)⟩
   rw [show l.getD k 0 = z2 by rw [List.getD, hz2]; rfl] at hc
   have HM2 := Lib.hid (max_more HM.out hz2)
   clear hz2
   go_wp2_with fail
   go_roundw
   case rel => exact ⟨k + 1, _, by omega, by omega, by go_num, by first | rfl | trivial, HM2.out, by first | rfl | trivial⟩
   case measure => simp [intOf]; omega
  ·obtain rfl : k = n := by omega
   have hge : ¬ ((k : Int) < (k : Int)) := by omega
   go_wp2_with fail
   go_ret
   exact ⟨⟨M, rfl, by have := HM.out; rwa [HL.out, List.take_length] at this⟩, rfl⟩
def OfR (l : List Fs.Item) (next : Int) (w : World) (e : Ending) (w' : World) : Prop :=
 (soundL l = true ∧ next ≤ 2147483647 ∧ (∀ y ∈ l, y.1 < next) ∧ ∃ g, e = .returned (.tuple #[ptg g, .int .i64 0]) ∧ Fo w' g ⟨l, next⟩ ∧ w.heap.size ≤ g ∧ Below w.heap.size w w') ∨
 (¬ (soundL l = true ∧ next ≤ 2147483647 ∧ ∀ y ∈ l, y.1 < next) ∧ e = .returned (.tuple #[.pointer none, .int .i64 2]) ∧ Below w.heap.size w w')
theorem of_bad (m : Option Nat) (next : Int) (w : World) (h : Calls Tryz.prog 29 #[pv m] w (SoundR false w)) : Calls Tryz.prog 31 #[pv m, .int .i64 next] w fun e w' => e = .returned (.tuple #[.pointer none, .int .i64 2]) ∧ Below w.heap.size w w' := by
 have HS := Lib.hid h
 clear h
 unfold SoundR at HS
 go_enter Tryz.func31, Tryz.ntmps31
 go_wp2_with fail
 refine HS.out.mono ?_
 rintro e w1 ⟨rfl, hb⟩
 dsimp only
 go_wp2_with fail
 go_ret2
 exact ⟨rfl, hb⟩
theorem sound_some {l : List Fs.Item} (h : soundL l = true) : 1 ≤ l.length := by
 cases l with
 | nil => exact absurd h (by decide)
 | cons y l => rw [List.length_cons]; omega
set_option maxHeartbeats 8000000 in
theorem of_any (m : Option Nat) (l : List Fs.Item) (next : Int) (w : World) (h : Sv w m l) : Calls Tryz.prog 31 #[pv m, .int .i64 next] w (OfR l next w) := by
 have hS := pSound_any m l w h
 cases hs : soundL l with
 | false =>
  rw [hs] at hS
  exact (of_bad m next w hS).mono fun e w' h => .inr ⟨fun h2 => (by rw [hs] at h2; cases h2.1), h.1, h.2⟩
 | true =>
  rw [hs] at hS
  have HSo := Lib.hid hS
  have HSv := Lib.hid (fun W (hb : Below w.heap.size w W) => h.below hb)
  have HIn := Lib.hid (fun W (hb : Below w.heap.size w W) => inos_any m next l W (h.below hb))
  have hlen : 1 ≤ (inosL l).length := by unfold inosL; rw [List.length_map]; exact sound_some hs
  have hl : (inosL l).length ≤ 1000 := by unfold inosL; rw [List.length_map]; exact h.ok.few
  have HMem := Lib.hid (show (∀ M ∈ inosL l, ∃ y ∈ l, y.1 = M) ∧ ∀ y ∈ l, y.1 ∈ inosL l from ⟨fun M hM => List.mem_map.1 hM, fun y hy => List.mem_map.2 ⟨y, hy, rfl⟩⟩)
  generalize inosL l = L at *
  have HSs := Lib.hid hs
  clear hS h hs
  unfold SoundR at HSo
  by_cases hn : 2147483647 < next
  ·have HF := Lib.hid (show ¬ (soundL l = true ∧ next ≤ 2147483647 ∧ ∀ y ∈ l, y.1 < next) from fun h => by omega)
   go_enter Tryz.func31, Tryz.ntmps31
   go_wp2_with fail
   refine HSo.out.mono ?_
   rintro e w1 ⟨rfl, hb⟩
   have HB := Lib.hid hb
   clear hb
   dsimp only
   go_wp2_with fail
   go_ret2
   exact .inr ⟨HF.out, rfl, HB.out.trans ((below_one _ _).mono HB.out.size)⟩
  ·have hn2 : ¬ (next > 2147483647) := hn
   go_enter Tryz.func31, Tryz.ntmps31
   go_wp2_with fail
   refine HSo.out.mono ?_
   rintro e w1 ⟨rfl, hb⟩
   have hb1 := below_one w1 (.cells #[pv m, .int .i64 next] 88)
   have HB := Lib.hid (hb.trans (hb1.mono hb.size))
   have c0 : (w1.alloc (.cells #[pv m, .int .i64 next] 88)).cell? ⟨w1.heap.size, 0, none⟩ = some (pv m) := World.cell?_alloc_new _ _ _ _
   have c1 : (w1.alloc (.cells #[pv m, .int .i64 next] 88)).cell? ⟨w1.heap.size, 1, none⟩ = some (.int .i64 next) := World.cell?_alloc_new _ _ _ _
   have HC := Lib.hid (show (w1.alloc (.cells #[pv m, .int .i64 next] 88)).heap[w1.heap.size]? = some (.cells #[pv m, .int .i64 next] 88 (0, 0)) from heap_alloc_new _ _)
   clear hb hb1
   dsimp only
   go_wp2_with fail
   refine (HIn.out _ HB.out).mono ?_
   rintro e w2 ⟨ao, cap, rfl, hI, hb⟩
   have HB := Lib.hid (HB.out.trans (hb.mono HB.out.size))
   have HC := Lib.hid ((hb.block _ (lt_of_obj HC.out)).trans HC.out)
   have HMx := Lib.hid (max_any ao L.length cap L w2 (irow_ints hI rfl) (by omega) hlen)
   clear hb hI c0 c1
   dsimp only
   go_wp2_with fail
   refine HMx.out.mono ?_
   rintro e w3 ⟨⟨M, rfl, hM⟩, rfl⟩
   dsimp only
   by_cases hle : next ≤ M
   ·have HF := Lib.hid (show ¬ (soundL l = true ∧ next ≤ 2147483647 ∧ ∀ y ∈ l, y.1 < next) from fun h => by
     obtain ⟨y, hy, e⟩ := HMem.out.1 M hM.1
     have := h.2.2 y hy
     omega)
    clear hM
    go_wp2_with fail
    go_ret2
    exact .inr ⟨HF.out, rfl, HB.out⟩
   ·have HF := Lib.hid (show ∀ y ∈ l, y.1 < next from fun y hy => by
     have := hM.2 y.1 (HMem.out.2 y hy)
     omega)
    clear hM
    have c0 : w3.cell? ⟨w1.heap.size, 0, none⟩ = some (pv m) := cell_obj HC.out 0
    have c1 : w3.cell? ⟨w1.heap.size, 1, none⟩ = some (.int .i64 next) := cell_obj HC.out 1
    go_wp2_with fail
    go_ret2
    exact .inl ⟨HSs.out, by omega, HF.out, _, rfl, ⟨m, heap_alloc_new _ _, (HSv.out _ HB.out).below (below_one _ _)⟩, HB.out.size, HB.out.trans ((below_one _ _).mono HB.out.size)⟩
end Go.Proofs.YthehblmjloohiaaGreatDoor
