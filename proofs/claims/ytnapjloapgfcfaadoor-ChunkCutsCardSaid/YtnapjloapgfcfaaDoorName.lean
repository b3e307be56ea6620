/- chunk.Name. -/
import Derived.Test.YtnapjloapgfcfaaDoorRefName
import Derived.Test.YtnapjloapgfcfaaDoorTrim
import Derived.Test.YtnapjloapgfcfaaDoorSum
namespace Go.Proofs.YtnapjloapgfcfaaDoor
set_option maxRecDepth 100000
open Go.RowKit Sha
theorem IOk.lt {w : World} (h : IOk w) : 0 < w.heap.size := block_lt_of_cell (h 0 (by omega))
theorem IOk.below {w w' : World} (h : IOk w) (hb : Below w.heap.size w w') : IOk w' := fun j hj => (hb.cell (p := ⟨0, j, none⟩) h.lt).trans (h j hj)
set_option maxHeartbeats 1000000 in
theorem name_any (c : ByteArray) (w : World) (hK : KOk w) (hI : IOk w) (hc : c.size ≤ 1000000000) :
    Calls Tryd.prog 26 #[.string c] w (Named c.data.toList w) := by
  go_enter Tryd.func26, Tryd.ntmps26
  go_wp2_with fail
  refine (trim_any c w (by omega)).mono ?_
  rintro e w1 ⟨rfl, hw1⟩
  have hB1 : Below w.heap.size w w1 := by
    rcases hw1 with rfl | rfl
    · exact Below.refl _ _
    · exact (Below.refl _ _).drew
  clear hw1
  dsimp only
  have ht := trim_blank c.data.toList
  by_cases hb : Chk.blank c.data.toList = true
  · rw [ht.2 hb]
    have HE := Lib.hid (show lstr (nameOf c.data.toList) = ⟨#[]⟩ from by unfold nameOf; rw [if_pos hb]; rfl)
    clear ht hb
    go_wp2_with fail
    go_ret
    show Named c.data.toList w _ _
    unfold Named
    rw [HE.out]
    exact ⟨rfl, hB1⟩
  · have hne : ¬ Lib.trimB c.data.toList 0 = [] := fun h => hb (ht.1 h)
    have HE := Lib.hid (show nameOf c.data.toList = sha c.data.toList from by unfold nameOf; rw [if_neg hb])
    clear ht hb
    generalize Lib.trimB c.data.toList 0 = t at hne ⊢
    have hte : t.isEmpty = false := by cases t with
      | nil => exact absurd rfl hne
      | cons _ _ => rfl
    have HX := Lib.hid (sum_any (some ⟨w1.heap.size, 0, none⟩) 1 1 [c] (w1.alloc (.cells #[.string c] 9)) ((hK.below hB1).below ((Below.refl _ _).alloc (Nat.le_refl _) _)) ((hI.below hB1).below ((Below.refl _ _).alloc (Nat.le_refl _) _)) (strs_lone _ _ _ (by simp)) (by rw [cat_lone]; show c.data.toList.length ≤ _; rw [Array.length_toList]; show c.size ≤ _; omega) (by omega))
    rw [cat_lone] at HX
    have hal := Lib.hid ((Below.refl w1.heap.size w1).alloc (Nat.le_refl _) (.cells #[.string c] 9))
    have HB := Lib.hid hB1
    clear hB1
    go_wp2_with fail
    refine HX.out.mono ?_
    rintro e w2 ⟨rfl, hw2⟩
    have HW := Lib.hid (HB.out.trans ((hal.out.trans (hw2.mono hal.out.size)).mono HB.out.size))
    clear hw2 hal HX
    dsimp only
    go_wp2_with fail
    go_ret
    show Named c.data.toList w _ _
    unfold Named
    rw [HE.out]
    exact ⟨rfl, HW.out⟩
end Go.Proofs.YtnapjloapgfcfaaDoor
