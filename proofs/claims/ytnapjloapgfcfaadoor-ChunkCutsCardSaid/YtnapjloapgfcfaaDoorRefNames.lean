/- The document's Names; Texts. -/
import Derived.Test.YtnapjloapgfcfaaDoorRefName
namespace Go.Proofs.YtnapjloapgfcfaaDoor
set_option maxRecDepth 100000
open Go.RowKit Sha

theorem trow_base {base base' : Nat} {v : Value} {ls : List (List UInt8)} {w : World} (h : Trow base v ls w) (hb : base' ≤ base) : Trow base' v ls w := by
  obtain ⟨h1, h2 | ⟨g, cap, cur, e, hg, h3⟩⟩ := h
  · exact ⟨h1, .inl h2⟩
  · exact ⟨h1, .inr ⟨g, cap, cur, e, Nat.le_trans hb hg, h3⟩⟩
theorem cut_le (l : List UInt8) (k : Nat) : (((Chk.cut l).getD k [])).length ≤ 16 := by
  by_cases h : k < (Chk.cut l).length
  · rw [List.getD, List.getElem?_eq_getElem h]
    show ((Chk.cut l)[k]).length ≤ 16
    rw [Chk.cut_get h, List.length_take]
    exact Nat.min_le_left _ _
  · rw [List.getD, List.getElem?_eq_none (by omega)]
    exact Nat.zero_le _
theorem take_map_succ (ls : List (List UInt8)) (f : List UInt8 → List UInt8) {k : Nat} (h : k < ls.length) : (ls.take (k + 1)).map f = (ls.take k).map f ++ [f (ls.getD k [])] := by
  rw [List.take_add_one, List.getElem?_eq_getElem h, List.map_append]
  simp [List.getD, List.getElem?_eq_getElem h]
theorem map_getD_lstr (ls : List (List UInt8)) {k : Nat} (h : k < ls.length) : (ls.map lstr).getD k ByteArray.empty = lstr (ls.getD k []) := by
  simp [List.getD, List.getElem?_eq_getElem h]

set_option maxRecDepth 100000 in
set_option maxHeartbeats 4000000 in
theorem refNames_any (s : ByteArray) (w : World) (hs : s.size ≤ 1000000) : Calls Tryd.prog 21 #[.string s] w (Rowed ((Chk.cut s.data.toList).map nameOf) w) := by
  have HSL := Lib.hid (show s.data.toList.length = s.size from Array.length_toList)
  go_enter Tryd.func21, Tryd.ntmps21
  go_wp2_with fail
  refine (refCut_any s _ hs).mono ?_
  rintro e w1 ⟨ao, cap, rfl, hT1, hW1⟩
  have hll : (Chk.cut s.data.toList).length ≤ 1000000 := by rw [Chk.cut_length, HSL.out]; omega
  have HLE := Lib.hid (cut_le s.data.toList)
  have HS1 := Lib.hid (trow_strs hT1 rfl)
  generalize hcut : Chk.cut s.data.toList = ls at HS1 hll HLE ⊢
  have HCUT := Lib.hid hcut
  clear hcut
  have HW1 := Lib.hid hW1
  clear hT1 hW1 HSL
  have hli : (ls.length : Int) ≤ 1000000 := by omega
  dsimp only
  go_wp2_with fail
  go_loopw [3, 5] (fun x i wr => ∃ (k : Nat) (a : Option Addr) (c : Nat), k ≤ ls.length ∧ i = .int .i64 k ∧ x = .slice a k c ∧ Trow w1.heap.size (.slice a k c) ((ls.take k).map nameOf) wr ∧ Below w1.heap.size w1 wr) (fun _ i _ => ls.length - (intOf i).toNat)
  case atStart => exact ⟨0, none, 0, Nat.zero_le _, rfl, rfl, by rw [List.take_zero]; exact World.ownsRow_nil _ _ _ _, Below.refl _ _⟩
  case round =>
    obtain ⟨k, a, c, hk, rfl, rfl, hT, hW⟩ := hrel
    by_cases hlt : k < ls.length
    · have k0 : (k : Int) < (ls.length : Int) := by omega
      obtain ⟨b, off, rfl, hc⟩ := (HS1.out.below hW).cell k hlt
      rw [map_getD_lstr ls hlt] at hc
      have HTk := Lib.hid (take_map_succ ls nameOf hlt)
      have HLk := Lib.hid (HLE.out k)
      have HLt := Lib.hid (show ((ls.take k).map nameOf).length = k from by rw [List.length_map, List.length_take]; omega)
      generalize ls.getD k [] = y at hc HTk HLk
      generalize (ls.take k).map nameOf = ns at hT HTk HLt
      have HT := Lib.hid hT
      have HW := Lib.hid hW
      clear hT hW
      go_wp2_with fail
      refine (refName_any (lstr y) _ (by have := HLk.out; rw [lstr_size]; omega)).mono ?_
      rintro e w2 ⟨rfl, hw2⟩
      rw [lstr_data]
      obtain ⟨z, hz⟩ : ∃ z, z = nameOf y := ⟨_, rfl⟩
      rw [← hz]
      rw [← hz] at HTk
      clear hz
      have hal := hw2.alloc hw2.size (.cells #[.string (lstr z)] 9)
      have hlk : ns.length = k := HLt.out
      subst hlk
      have HT1 := Lib.hid (trow_below HT.out hal)
      have HW2 := Lib.hid (HW.out.trans (hal.mono HW.out.size))
      clear hal hw2 HT HW HLt
      dsimp only
      go_wp2_with (at_builtin; refine at_appt rfl _ _ rfl HT1.out (by rfl) w2.heap.size (lstr z) z rfl (by rfl) (by simp) (by omega) HW2.out.size ?_; intro ao4 cap4 w4 hT4 hgrow4; have HT2 := Lib.hid hT4; have HW3 := Lib.hid (HW2.out.grown hgrow4 HW2.out.size (fun j hj => trow_lt HT1.out j hj)); clear hT4 hgrow4)
      go_roundw
      case rel => exact ⟨ns.length + 1, ao4, cap4, by omega, by go_num, rfl, by rw [HTk.out]; exact HT2.out, HW3.out⟩
      case measure => simp [intOf]; omega
    · obtain rfl : k = ls.length := by omega
      rw [List.take_length] at hT
      have HT := Lib.hid hT
      have HW := Lib.hid hW
      clear hT hW
      go_wp2_with fail
      go_ret
      show Rowed ((Chk.cut s.data.toList).map nameOf) w _ _
      unfold Rowed
      rw [HCUT.out]
      rw [List.length_map]
      exact ⟨a, c, rfl, trow_base HT.out HW1.out.size, HW1.out.trans (HW.out.mono HW1.out.size)⟩
end Go.Proofs.YtnapjloapgfcfaaDoor
