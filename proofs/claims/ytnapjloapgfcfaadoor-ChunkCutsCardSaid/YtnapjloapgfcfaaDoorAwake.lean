/- The law's awake: answers that the document fixes. -/
import Derived.Test.YtnapjloapgfcfaaDoorFillB
namespace Go.Proofs.YtnapjloapgfcfaaDoor
set_option maxRecDepth 100000
open Go.RowKit Sha

theorem both_is {r r' : List UInt8 × Int} {w w' : World} {e : Ending} (h : Both r w e w') (hr : r = r') : Both r' w e w' := hr ▸ h
def c16 : List UInt8 := [48, 49, 50, 51, 52, 53, 54, 55, 56, 57, 97, 98, 99, 100, 101, 102]
theorem aw_put (w : World) : Calls Tryd.prog 9 #[.string ⟨#[97, 98]⟩, .int .i64 4, .string ⟨#[99]⟩] w fun e w' => e = .returned (.tuple #[.string ⟨#[97, 98, 0, 0, 99]⟩, .int .i64 0]) ∧ Below w.heap.size w w' :=
  (put_any _ 4 _ w (by decide) (by decide) (by decide)).mono fun e w' h => both_is (r' := ([97, 98, 0, 0, 99], 0)) h (by decide +kernel)
theorem aw_trunc (w : World) : Calls Tryd.prog 11 #[.string ⟨#[97, 98, 99]⟩, .int .i64 1] w fun e w' => e = .returned (.tuple #[.string ⟨#[97]⟩, .int .i64 0]) ∧ Below w.heap.size w w' :=
  (trunc_any _ 1 w).mono fun e w' h => both_is (r' := ([97], 0)) h (by decide +kernel)
theorem aw_get (w : World) : Calls Tryd.prog 13 #[.string ⟨#[97, 98, 99]⟩, .int .i64 1, .int .i64 9] w fun e w' => e = .returned (.tuple #[.string ⟨#[98, 99]⟩, .int .i64 0]) ∧ Below w.heap.size w w' :=
  (get_any _ 1 9 w (by decide) (by decide) (by decide)).mono fun e w' h => both_is (r' := ([98, 99], 0)) h (by decide +kernel)
theorem aw_copy (w : World) : Calls Tryd.prog 15 #[.string ⟨#[120, 121]⟩, .int .i64 1, .string ⟨#[97, 98, 99]⟩, .int .i64 1, .int .i64 2] w fun e w' => e = .returned (.tuple #[.string ⟨#[120, 98, 99]⟩, .int .i64 0]) ∧ Below w.heap.size w w' :=
  (copy_any _ 1 _ 1 2 w (by decide) (by decide) (by decide) (by decide) (by decide)).mono fun e w' h => both_is (r' := ([120, 98, 99], 0)) h (by decide +kernel)
theorem aw_long (w : World) : Calls Tryd.prog 9 #[.string ⟨#[]⟩, .int .i64 4096, .string ⟨#[99]⟩] w fun e w' => e = .returned (.tuple #[.string ⟨#[]⟩, .int .i64 3]) ∧ Below w.heap.size w w' :=
  (put_any _ 4096 _ w (by decide) (by decide) (by decide)).mono fun e w' h => both_is (r' := ([], 3)) h (by decide +kernel)
theorem cut18 : Chk.cut (c16 ++ [0, 0]) = [c16, [0, 0]] := by
  rw [Chk.cut_cons (by simp [c16]), show List.drop 16 (c16 ++ [0, 0]) = ([0, 0] : List UInt8) from rfl, Chk.cut_cons (by simp), show ([0, 0] : List UInt8).drop 16 = [] from rfl, Chk.cut_nil]; rfl
theorem aw_names (w : World) (hK : KOk w) (hI : IOk w) : Calls Tryd.prog 20 #[.string ⟨#[48, 49, 50, 51, 52, 53, 54, 55, 56, 57, 97, 98, 99, 100, 101, 102, 0, 0]⟩] w fun e w' => ∃ g cap, e = .returned (.slice (some ⟨g, 0, none⟩) 2 cap) ∧ g < w'.heap.size ∧ w'.cell? ⟨g, 0, none⟩ = some (.string (lstr (sha c16))) ∧ w'.cell? ⟨g, 1, none⟩ = some (.string ⟨#[]⟩) ∧ Below w.heap.size w w' := by
  refine (names_in _ w hK hI (by decide)).mono ?_
  rintro e w' ⟨ao, cap, rfl, hT, hB⟩
  rw [show (⟨#[48, 49, 50, 51, 52, 53, 54, 55, 56, 57, 97, 98, 99, 100, 101, 102, 0, 0]⟩ : ByteArray).data.toList = c16 ++ [0, 0] from rfl, cut18] at hT ⊢
  rw [show [c16, [0, 0]].map nameOf = [sha c16, []] from by
    simp only [List.map_cons, List.map_nil]
    rw [show nameOf c16 = sha c16 from by unfold nameOf; rw [if_neg (by decide)], show nameOf [0, 0] = [] from by unfold nameOf; rw [if_pos (by decide)]]] at hT ⊢
  have hS := trow_strs hT rfl
  have h2 := hT
  obtain ⟨_, ⟨e, h0⟩ | ⟨g, cap', cur, e, _⟩⟩ := hT
  · simp at h0
  · injection e with e1 e2 e3
    subst e1 e3
    refine ⟨g, cap, rfl, (World.ownsRow.lt h2 g rfl).2, ?_, ?_, hB⟩
    · rw [World.ownsRow.cellAt h2 0 (by simp)]; rfl
    · rw [World.ownsRow.cellAt h2 1 (by simp)]; rfl
theorem aw_looks (w : World) : Looks 28 #[] (fun _ => some (lstr c16)) w := by
  intro x W1 _ _
  show Calls Tryd.prog 28 #[.string x] W1 _
  go_enter Tryd.func28, Tryd.ntmps28
  go_wp2_with fail
  go_ret2
  exact ⟨rfl, rfl⟩
theorem sha16_size : (lstr (sha c16)).size = 32 := by rw [lstr_size, sha_length]
theorem aw_fill (w : World) (g cap : Nat) (h0 : w.cell? ⟨g, 0, none⟩ = some (.string (lstr (sha c16)))) (h1 : w.cell? ⟨g, 1, none⟩ = some (.string ⟨#[]⟩)) :
    Calls Tryd.prog 23 #[.slice (some ⟨g, 0, none⟩) 2 cap, .int .i64 18, .func (.func 28) #[] #[]] w fun e w' => e = .returned (.tuple #[.string ⟨#[48, 49, 50, 51, 52, 53, 54, 55, 56, 57, 97, 98, 99, 100, 101, 102, 0, 0]⟩, .int .i64 0]) ∧ Below w.heap.size w w' := by
  refine (fill_any (some ⟨g, 0, none⟩) 2 cap [lstr (sha c16), ⟨#[]⟩] 18 w 28 #[] (fun _ => some (lstr c16)) ⟨rfl, ?_⟩ (aw_looks w) (enters_of Tryd.func28 (by kernel_rfl) rfl) (by decide) (by decide)
    (fun i => if i = 0 then some c16 else some [0, 0]) (c16 ++ [0, 0], 0) ⟨?_, ?_, ?_, ?_⟩ ?_ ?_ ?_ ?_).mono fun e w' h => both_is (r' := ([48, 49, 50, 51, 52, 53, 54, 55, 56, 57, 97, 98, 99, 100, 101, 102, 0, 0], 0)) h rfl
  · intro i hi
    refine ⟨g, 0, rfl, ?_⟩
    match i, hi with
    | 0, _ => exact h0
    | 1, _ => exact h1
  · intro h; omega
  · intro m hm _ k hk hp
    match k, hk with
    | 0, _ => cases hp
    | 1, _ => cases hp
  · intro m hm _ _ k hk hp
    obtain rfl : m = 18 := by omega
    match k, hk with
    | 0, _ => exact absurd rfl hp
    | 1, _ => exact absurd rfl hp
  · intro m hm _ _ _; rfl
  · intro k hk h
    match k, hk with
    | 0, _ => rw [show [lstr (sha c16), (⟨#[]⟩ : ByteArray)].getD 0 ByteArray.empty = lstr (sha c16) from rfl, sha16_size] at h; cases h
    | 1, _ => rfl
  · intro k hk h
    match k, hk with
    | 0, _ => rfl
    | 1, _ => cases h
  · intro k hk c hc
    cases hc; decide
  · intro k hk
    match k, hk with
    | 0, _ => rw [show [lstr (sha c16), (⟨#[]⟩ : ByteArray)].getD 0 ByteArray.empty = lstr (sha c16) from rfl, sha16_size]; decide
    | 1, _ => decide
theorem aw_cut (w : World) : Calls Tryd.prog 18 #[.string ⟨#[97]⟩] w fun e w' => ∃ ao cap, e = .returned (.slice ao 1 cap) ∧ Below w.heap.size w w' := by
  refine (cut_in _ w (by decide)).mono ?_
  rintro e w' ⟨ao, cap, rfl, _, hB⟩
  refine ⟨ao, cap, ?_, hB⟩
  rw [show (Chk.cut (⟨#[97]⟩ : ByteArray).data.toList).length = 1 from by rw [Chk.cut_length]; rfl]
theorem aw_name (w : World) (hK : KOk w) (hI : IOk w) : Calls Tryd.prog 26 #[.string ⟨#[0]⟩] w fun e w' => e = .returned (.string ⟨#[]⟩) ∧ Below w.heap.size w w' :=
  (name_any _ w hK hI (by decide)).mono fun e w' h => by
    have h2 : Named [0] w e w' := h
    unfold Named at h2
    rw [show nameOf [0] = [] from by unfold nameOf; rw [if_pos (by decide)]] at h2
    exact h2
set_option maxHeartbeats 2000000 in
theorem awake_any (w : World) (hK : KOk w) (hI : IOk w) : Calls Tryd.prog 8 #[] w fun e w' => e = .returned (.bool true) ∧ Below w.heap.size w w' := by
  go_enter Tryd.func8, Tryd.ntmps8
  go_wp2_with fail
  refine (aw_put _).mono ?_
  rintro e w1 ⟨rfl, hB1⟩
  dsimp only
  go_wp2_with fail
  refine (aw_trunc _).mono ?_
  rintro e w2 ⟨rfl, hB2⟩
  have hB2 := hB1.trans (hB2.mono hB1.size)
  clear hB1
  dsimp only
  go_wp2_with fail
  refine (aw_get _).mono ?_
  rintro e w3 ⟨rfl, hB3⟩
  have hB3 := hB2.trans (hB3.mono hB2.size)
  clear hB2
  dsimp only
  go_wp2_with fail
  refine (aw_copy _).mono ?_
  rintro e w4 ⟨rfl, hB4⟩
  have hB4 := hB3.trans (hB4.mono hB3.size)
  clear hB3
  dsimp only
  go_wp2_with fail
  refine (aw_long _).mono ?_
  rintro e w5 ⟨rfl, hB5⟩
  have hB5 := hB4.trans (hB5.mono hB4.size)
  clear hB4
  dsimp only
  go_wp2_with fail
  refine (aw_names _ (hK.below hB5) (hI.below hB5)).mono ?_
  rintro e w6 ⟨g, cap, rfl, hg, h0, h1, hB6⟩
  have hB6 := hB5.trans (hB6.mono hB5.size)
  clear hB5
  dsimp only
  have HX := Lib.hid (aw_fill w6 g cap h0 h1)
  have hz := sha16_size
  generalize lstr (sha c16) = z at h0 hz
  go_wp2_with fail
  refine HX.out.mono ?_
  rintro e w7 ⟨rfl, hB7⟩
  have h0 := (hB7.cell (p := ⟨g, 0, none⟩) hg).trans h0
  have h1 := (hB7.cell (p := ⟨g, 1, none⟩) hg).trans h1
  have hB7 := hB6.trans (hB7.mono hB6.size)
  clear hB6
  dsimp only
  go_wp2_with fail
  refine (aw_cut _).mono ?_
  rintro e w8 ⟨ao, cp, rfl, hB8⟩
  have hB8 := hB7.trans (hB8.mono hB7.size)
  clear hB7
  dsimp only
  go_wp2_with fail
  refine (aw_name _ (hK.below hB8) (hI.below hB8)).mono ?_
  rintro e w9 ⟨rfl, hB9⟩
  have hB9 := hB8.trans (hB9.mono hB8.size)
  clear hB8
  dsimp only
  go_wp2_with fail
  go_ret
  exact ⟨rfl, hB9⟩
end Go.Proofs.YtnapjloapgfcfaaDoor
