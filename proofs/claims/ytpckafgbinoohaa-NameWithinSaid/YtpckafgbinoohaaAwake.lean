/- What the laws of names ask of the program; the law's awake. -/
import Derived.Test.YtpckafgbinoohaaNmLaws
import Derived.Test.YtpckafgbinoohaaTexts
namespace Go.Proofs.Ytpckafgbinoohaa
set_option maxRecDepth 100000
open Go.RowKit
/-- The program's functions, as the document says them. -/
structure Names : Prop where
  right : ∀ (s : ByteArray) (w : World), s.size ≤ 140737488355328 → Calls Try.prog 13 #[.string s] w fun e w' => e = .returned (.bool (Nm.right s.data.toList)) ∧ Below w.heap.size w w'
  split : ∀ (p : ByteArray) (w : World), p.size ≤ 100000 → Calls Try.prog 7 #[.string p] w (Splitted p.data.toList w)
  join : ∀ (a : Option Addr) (ln cn : Nat) (ss : List ByteArray) (w : World), Strs a ln ss w → ln ≤ 140737488355328 → ln ≤ cn → (∀ i, i < ss.length → (ss.getD i ByteArray.empty).size ≤ 140737488355328) → Calls Try.prog 9 #[.slice a ln cn] w fun e w' => e = .returned (.tuple #[.string (lstr (joinR (dat ss)).1), .int .i64 (joinR (dat ss)).2]) ∧ Below w.heap.size w w'
  parent : ∀ (p : ByteArray) (w : World), p.size ≤ 100000 → Calls Try.prog 11 #[.string p] w (ParentPost p.data.toList w)
  within : ∀ (a b : ByteArray) (w : World), a.size ≤ 100000 → b.size ≤ 100000 → Calls Try.prog 16 #[.string a, .string b] w (WithinPost a.data.toList b.data.toList w)
theorem split_ab : Nm.split [47, 97, 47, 98] = some [[97], [98]] := by decide +kernel
theorem aw_split (H : Names) (w : World) : Calls Try.prog 7 #[.string ⟨#[47, 97, 47, 98]⟩] w fun e w' => ∃ g cap, 2 ≤ cap ∧ e = .returned (.tuple #[.slice (some ⟨g, 0, none⟩) 2 cap, .int .i64 0]) ∧ Strs (some ⟨g, 0, none⟩) 2 [lstr [97], lstr [98]] w' ∧ w'.cell? ⟨g, 1, none⟩ = some (.string ⟨#[98]⟩) ∧ g < w'.heap.size ∧ Below w.heap.size w w' := by
  refine (H.split _ w (by decide)).mono ?_
  intro e w' h
  obtain ⟨ao, cap, rfl, hT⟩ := h.yes _ split_ab
  have hS := trow_strs hT rfl
  have hcap := trow_cap hT
  have h2 := hT
  obtain ⟨_, ⟨_, h0⟩ | ⟨g, cap', cur, e, _⟩⟩ := hT
  · simp at h0
  · injection e with e1 e2 e3
    subst e1 e3
    exact ⟨g, cap, hcap, rfl, hS, by rw [World.ownsRow.cellAt h2 1 (by simp)]; rfl, (World.ownsRow.lt h2 g rfl).2, h.below⟩
theorem aw_join (H : Names) (g cap : Nat) (hcap : 2 ≤ cap) (w : World) (hS : Strs (some ⟨g, 0, none⟩) 2 [lstr [97], lstr [98]] w) : Calls Try.prog 9 #[.slice (some ⟨g, 0, none⟩) 2 cap] w fun e w' => e = .returned (.tuple #[.string ⟨#[47, 97, 47, 98]⟩, .int .i64 0]) ∧ Below w.heap.size w w' := by
  refine (H.join _ 2 cap _ w hS (by decide) hcap (fun i hi => ?_)).mono fun e w' h => ?_
  · match i, hi with
    | 0, _ => decide
    | 1, _ => decide
  · have e2 : joinR (dat [lstr [97], lstr [98]]) = ([47, 97, 47, 98], 0) := by decide +kernel
    rw [e2] at h; exact h
theorem aw_parent (H : Names) (w : World) : Calls Try.prog 11 #[.string ⟨#[47, 97, 47, 98]⟩] w fun e w' => e = .returned (.tuple #[.string ⟨#[47, 97]⟩, .string ⟨#[98]⟩, .int .i64 0]) ∧ Below w.heap.size w w' :=
  (H.parent _ w (by decide)).mono fun e w' h => by
    unfold ParentPost at h
    rw [show parentR (⟨#[47, 97, 47, 98]⟩ : ByteArray).data.toList = ([47, 97], [98], 0) from by decide +kernel] at h; exact h
theorem aw_top (H : Names) (w : World) : Calls Try.prog 11 #[.string ⟨#[47]⟩] w fun e w' => e = .returned (.tuple #[.string ⟨#[]⟩, .string ⟨#[]⟩, .int .i64 17]) ∧ Below w.heap.size w w' :=
  (H.parent _ w (by decide)).mono fun e w' h => by
    unfold ParentPost at h
    rw [show parentR (⟨#[47]⟩ : ByteArray).data.toList = ([], [], 17) from by decide +kernel] at h; exact h
theorem aw_bad (H : Names) (w : World) : Calls Try.prog 7 #[.string ⟨#[97]⟩] w fun e w' => e = .returned (.tuple #[.slice none 0 0, .int .i64 14]) ∧ Below w.heap.size w w' :=
  (H.split _ w (by decide)).mono fun e w' h => ⟨h.no (by decide +kernel), h.below⟩
theorem aw_within (H : Names) (a b : ByteArray) (r : Bool) (w : World) (ha : a.size ≤ 100000) (hb : b.size ≤ 100000) (hr : Nm.within a.data.toList b.data.toList = r) : Calls Try.prog 16 #[.string a, .string b] w fun e w' => e = .returned (.bool r) ∧ Below w.heap.size w w' :=
  (H.within a b w ha hb).mono fun e w' h => by unfold WithinPost at h; rw [hr] at h; exact h
theorem aw_right (H : Names) (s : ByteArray) (r : Bool) (w : World) (hs : s.size ≤ 140737488355328) (hr : Nm.right s.data.toList = r) : Calls Try.prog 13 #[.string s] w fun e w' => e = .returned (.bool r) ∧ Below w.heap.size w w' :=
  (H.right s w hs).mono fun e w' h => by rw [hr] at h; exact h
set_option maxHeartbeats 2000000 in
theorem awake_any (H : Names) (w : World) : Calls Try.prog 6 #[] w fun e w' => e = .returned (.bool true) ∧ Below w.heap.size w w' := by
  go_enter Try.func6, Try.ntmps6
  go_wp2_with fail
  refine (aw_split H _).mono ?_
  rintro e w1 ⟨g, cap, hcap, rfl, hS, hc, hg, hB1⟩
  have HJ := Lib.hid (aw_join H g cap hcap w1 hS)
  clear hS hcap
  dsimp only
  go_wp2_with fail
  refine HJ.out.mono ?_
  rintro e w2 ⟨rfl, hB2⟩
  have hc := (hB2.cell (p := ⟨g, 1, none⟩) hg).trans hc
  have hg := Nat.lt_of_lt_of_le hg hB2.size
  have hB2 := hB1.trans (hB2.mono hB1.size)
  clear hB1 HJ
  dsimp only
  go_wp2_with fail
  refine (aw_parent H _).mono ?_
  rintro e w3 ⟨rfl, hB3⟩
  have hc := (hB3.cell (p := ⟨g, 1, none⟩) hg).trans hc
  have hg := Nat.lt_of_lt_of_le hg hB3.size
  have hB3 := hB2.trans (hB3.mono hB2.size)
  clear hB2
  dsimp only
  go_wp2_with fail
  refine (aw_bad H _).mono ?_
  rintro e w4 ⟨rfl, hB4⟩
  have hc := (hB4.cell (p := ⟨g, 1, none⟩) hg).trans hc
  have hg := Nat.lt_of_lt_of_le hg hB4.size
  have hB4 := hB3.trans (hB4.mono hB3.size)
  clear hB3
  dsimp only
  go_wp2_with fail
  refine (aw_top H _).mono ?_
  rintro e w5 ⟨rfl, hB5⟩
  have hc := (hB5.cell (p := ⟨g, 1, none⟩) hg).trans hc
  have hB5 := hB4.trans (hB5.mono hB4.size)
  clear hB4
  dsimp only
  go_wp2_with fail
  refine (aw_within H _ _ true _ (by decide) (by decide) (by decide +kernel)).mono ?_
  rintro e w6 ⟨rfl, hB6⟩
  have hB6 := hB5.trans (hB6.mono hB5.size)
  clear hB5
  dsimp only
  go_wp2_with fail
  refine (aw_within H _ _ false _ (by decide) (by decide) (by decide +kernel)).mono ?_
  rintro e w7 ⟨rfl, hB7⟩
  have hB7 := hB6.trans (hB7.mono hB6.size)
  clear hB6
  dsimp only
  go_wp2_with fail
  refine (aw_right H _ true _ (by decide) (by decide +kernel)).mono ?_
  rintro e w8 ⟨rfl, hB8⟩
  have hB8 := hB7.trans (hB8.mono hB7.size)
  clear hB7
  dsimp only
  go_wp2_with fail
  refine (aw_right H _ false _ (by decide) (by decide +kernel)).mono ?_
  rintro e w9 ⟨rfl, hB9⟩
  have hB9 := hB8.trans (hB9.mono hB8.size)
  clear hB8
  dsimp only
  go_wp2_with fail
  go_ret
  exact ⟨rfl, hB9⟩
end Go.Proofs.Ytpckafgbinoohaa
