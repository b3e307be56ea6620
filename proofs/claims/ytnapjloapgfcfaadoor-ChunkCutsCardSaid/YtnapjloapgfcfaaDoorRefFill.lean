/- The document's Fill. -/
import Derived.Test.YtnapjloapgfcfaaDoorRefNames
import Derived.Test.YtnapjloapgfcfaaDoorTexts
import Derived.Deep.RegionHeld3
namespace Go.Proofs.YtnapjloapgfcfaaDoor
set_option maxRecDepth 100000
open Go.RowKit Sha
attribute [local go_sem 9000] sem_stralike sem_strnot

/-- How long the chunk at place i of a file of m bytes is. -/
def place (m i : Nat) : Nat := min 16 (m - 16 * i)
def look (known : List ByteArray) (nm : ByteArray) : Option ByteArray := known.find? fun c => alike (lstr (nameOf c.data.toList)) nm
def pick (names known : List ByteArray) (m i : Nat) : Option (List UInt8) :=
  if alike (names.getD i ByteArray.empty) ⟨#[]⟩ then some (List.replicate (place m i) 0) else (look known (names.getD i ByteArray.empty)).map fun c => c.data.toList
def picked (names known : List ByteArray) (m k : Nat) : List (List UInt8) := (List.range k).map fun i => (pick names known m i).getD []
theorem picked_length (names known : List ByteArray) (m k : Nat) : (picked names known m k).length = k := by unfold picked; rw [List.length_map, List.length_range]
theorem picked_succ (names known : List ByteArray) (m k : Nat) : picked names known m (k + 1) = picked names known m k ++ [(pick names known m k).getD []] := by unfold picked; rw [List.range_succ, List.map_append]; rfl
theorem picked_get (names known : List ByteArray) (m n : Nat) {k : Nat} (h : k < n) : (picked names known m n).getD k [] = (pick names known m k).getD [] := by
  unfold picked
  simp [List.getD, h]
/-- What Fill answers. -/
def fillR (names known : List ByteArray) (n : Int) : List UInt8 × Int :=
  if n < 0 ∨ 4096 < n ∨ (names.length : Int) ≠ (n + 15) / 16 then ([], 1)
  else if ∀ i, i < names.length → (pick names known n.toNat i).isSome = true then
    if ∀ i, i < names.length → ((pick names known n.toNat i).getD []).length = place n.toNat i then ((picked names known n.toNat names.length).flatten, 0) else ([], 2)
  else ([], 4)
theorem fill_range {names known : List ByteArray} {n : Int} (h : n < 0 ∨ 4096 < n ∨ (names.length : Int) ≠ (n + 15) / 16) : fillR names known n = ([], 1) := by unfold fillR; rw [if_pos h]
theorem fill_none {names known : List ByteArray} {m : Nat} (h : ¬ ((m : Int) < 0 ∨ 4096 < (m : Int) ∨ (names.length : Int) ≠ ((m : Int) + 15) / 16)) {k : Nat} (hk : k < names.length) (hp : pick names known m k = none) : fillR names known m = ([], 4) := by
  unfold fillR
  rw [if_neg h, if_neg]
  intro ha
  have := ha k hk
  rw [Int.toNat_natCast, hp] at this
  cases this
theorem fill_form {names known : List ByteArray} {m : Nat} (h : ¬ ((m : Int) < 0 ∨ 4096 < (m : Int) ∨ (names.length : Int) ≠ ((m : Int) + 15) / 16)) (ha : ∀ i, i < names.length → (pick names known m i).isSome = true) {k : Nat} (hk : k < names.length) (hp : ((pick names known m k).getD []).length ≠ place m k) : fillR names known m = ([], 2) := by
  unfold fillR
  rw [if_neg h, if_pos (by simpa using ha), if_neg]
  intro hb
  exact hp (by simpa using hb k hk)
theorem fill_whole {names known : List ByteArray} {m : Nat} (h : ¬ ((m : Int) < 0 ∨ 4096 < (m : Int) ∨ (names.length : Int) ≠ ((m : Int) + 15) / 16)) (ha : ∀ i, i < names.length → (pick names known m i).isSome = true) (hb : ∀ i, i < names.length → ((pick names known m i).getD []).length = place m i) : fillR names known m = ((picked names known m names.length).flatten, 0) := by
  unfold fillR
  rw [if_neg h, if_pos (by simpa using ha), if_pos (by simpa using hb)]
  simp
/-- The first that is known, found one after the other. -/
theorem look_found {known : List ByteArray} {nm : ByteArray} {j : Nat} (hj : j < known.length) (hb : ∀ i, i < j → alike (lstr (nameOf (known.getD i ByteArray.empty).data.toList)) nm = false) (h : alike (lstr (nameOf (known.getD j ByteArray.empty).data.toList)) nm = true) : look known nm = some (known.getD j ByteArray.empty) := by
  unfold look
  rw [List.find?_eq_some_iff_getElem]
  rw [List.getD, List.getElem?_eq_getElem hj] at h ⊢
  refine ⟨h, j, hj, rfl, fun i hi => ?_⟩
  have := hb i hi
  rw [List.getD, List.getElem?_eq_getElem (by omega)] at this
  simpa using this
theorem look_none {known : List ByteArray} {nm : ByteArray} (hb : ∀ i, i < known.length → alike (lstr (nameOf (known.getD i ByteArray.empty).data.toList)) nm = false) : look known nm = none := by
  unfold look
  rw [List.find?_eq_none]
  intro x hx
  obtain ⟨i, hi, rfl⟩ := List.getElem_of_mem hx
  have := hb i hi
  rw [List.getD, List.getElem?_eq_getElem hi] at this
  simpa using this
set_option maxRecDepth 100000 in
set_option maxHeartbeats 4000000 in
theorem refFill_any (na ka : Option Addr) (ln cn lk ck : Nat) (names known : List ByteArray) (n : Int) (w : World) (hN : Strs na ln names w) (hK : Strs ka lk known w) (hln : ln ≤ 1000000) (hlk : lk ≤ 1000000) (hn : n ≤ 9223372036854775807) (hsz : ∀ i, i < known.length → (known.getD i ByteArray.empty).size ≤ 1000000) :
    Calls Tryd.prog 25 #[.slice na ln cn, .int .i64 n, .slice ka lk ck] w (Both (fillR names known n) w) := by
  have hlni : (ln : Int) ≤ 1000000 := by omega
  have hlki : (lk : Int) ≤ 1000000 := by omega
  have HCN := Lib.hid hN.count
  have HCK := Lib.hid hK.count
  have key : fillR names known n = ([], 1) → ∀ e w', e = Ending.returned (.tuple #[.string ⟨#[]⟩, .int .i64 1]) ∧ w = w' → Both (fillR names known n) w e w' := by
    rintro hr e w' ⟨rfl, rfl⟩
    rw [hr]
    exact ⟨rfl, Below.refl _ _⟩
  by_cases h1 : n < 0
  · refine Calls.mono ?_ (key (fill_range (.inl h1)))
    clear key
    go_enter Tryd.func25, Tryd.ntmps25
    go_wp2_with fail
    go_ret2
    exact ⟨rfl, rfl⟩
  · by_cases h2 : 4096 < n
    · refine Calls.mono ?_ (key (fill_range (.inr (.inl h2))))
      have h1' : 0 ≤ n := by omega
      clear key
      go_enter Tryd.func25, Tryd.ntmps25
      go_wp2_with fail
      go_ret2
      exact ⟨rfl, rfl⟩
    · obtain ⟨m, rfl⟩ : ∃ m : Nat, n = (m : Int) := ⟨n.toNat, by omega⟩
      have hm : (m : Int) ≤ 4096 := by omega
      have hmw : IntKind.i64.wrap ((m : Int) + 15) = (m : Int) + 15 := IntWalk.i64_in _ (by omega)
      have hmt : ((m : Int) + 15).tdiv 16 = ((m : Int) + 15) / 16 := Int.tdiv_eq_ediv_of_nonneg (by omega)
      have hmv : IntKind.i64.wrap (((m : Int) + 15) / 16) = ((m : Int) + 15) / 16 := IntWalk.i64_in _ (by omega)
      by_cases h3 : (ln : Int) = ((m : Int) + 15) / 16
      · have HOK := Lib.hid (show ¬ ((m : Int) < 0 ∨ 4096 < (m : Int) ∨ (names.length : Int) ≠ ((m : Int) + 15) / 16) from by rw [← HCN.out]; omega)
        clear key
        have hlp : (ln : Int) ≤ 256 := by omega
        clear hmt hmv h1 h2
        go_enter Tryd.func25, Tryd.ntmps25
        go_wp2_with fail
        have H3 := Lib.hid h3
        clear h3
        go_loopw [8, 9] (fun x i wr => ∃ (k : Nat) (a : Option Addr) (c : Nat), k ≤ ln ∧ i = .int .i64 k ∧ x = .slice a k c ∧ Trow w.heap.size (.slice a k c) (picked names known m k) wr ∧ Below w.heap.size w wr ∧ ∀ i, i < k → (pick names known m i).isSome = true) (fun _ i _ => ln - (intOf i).toNat)
        case atStart => exact ⟨0, none, 0, Nat.zero_le _, rfl, rfl, World.ownsRow_nil _ _ _ _, Below.refl _ _, fun i hi => absurd hi (Nat.not_lt_zero i)⟩
        case round =>
          obtain ⟨k, a, c, hk, rfl, rfl, hT, hW, hA⟩ := hrel
          have HT := Lib.hid hT
          have HW := Lib.hid hW
          have HA := Lib.hid hA
          clear hT hW hA
          by_cases hlt : k < ln
          · have k0 : (k : Int) < (ln : Int) := by omega
            have hkn := Lib.hid (show k < names.length from by rw [← HCN.out]; exact hlt)
            obtain ⟨b1, o1, rfl, hc1⟩ := hN.cell k hlt
            have hd1 := (HW.out.cell (p := ⟨b1, o1 + k, none⟩) (block_lt_of_cell hc1)).trans hc1
            obtain ⟨nm, HNM⟩ : ∃ nm, RowKit.Hid (nm = names.getD k ByteArray.empty) := ⟨_, Lib.hid rfl⟩
            rw [← HNM.out] at hc1 hd1
            have e1 : IntKind.i64.wrap (16 * (k : Int)) = 16 * (k : Int) := IntWalk.i64_in _ (by omega)
            have e2 : IntKind.i64.wrap ((m : Int) - 16 * (k : Int)) = (m : Int) - 16 * (k : Int) := IntWalk.i64_in _ (by omega)
            have hqm : 16 * k < m := by have := H3.out; omega
            by_cases hgt : 16 < (m : Int) - 16 * (k : Int)
            · have hX : ((place m k : Nat) : Int) = 16 := by unfold place; omega
              have hp16 : place m k ≤ 16 := Nat.min_le_left _ _
              by_cases hnm : alike nm ⟨#[]⟩ = true
              · have HPK := Lib.hid (show pick names known m k = some (List.replicate (place m k) 0) from by unfold pick; rw [← HNM.out, if_pos hnm])
                have hmk := run_make8 (place m k) (by omega) wr
                rw [hX] at hmk
                have HBm := bown_made (place m k) wr
                have hcv := bown_text HBm (place m k) (by rw [List.length_replicate]) (place m k)
                obtain ⟨z, HZ⟩ : ∃ z : List UInt8, RowKit.Hid (z = List.replicate (place m k) 0) := ⟨_, Lib.hid rfl⟩
                rw [← HZ.out] at hcv
                have HPS := Lib.hid (show picked names known m (k + 1) = picked names known m k ++ [z] from by rw [picked_succ, HPK.out, HZ.out]; rfl)
                have HA2 := Lib.hid (show ∀ i, i < k + 1 → (pick names known m i).isSome = true from fun i hi => by
                  rcases Nat.lt_or_ge i k with h | h
                  · exact HA.out i h
                  · obtain rfl : i = k := by omega
                    rw [HPK.out]; rfl)
                have hal := ((Below.refl wr.heap.size wr).alloc (Nat.le_refl _) (.cells (madeCells #[.int .u8 0] (place m k)) 5)).alloc (by simp) (.cells #[.string (lstr z)] 9)
                have HLn := Lib.hid (picked_length names known m k)
                generalize picked names known m k = L at HT HPS HLn
                obtain rfl : L.length = k := HLn.out
                have HT1 := Lib.hid (trow_below HT.out hal)
                have HW1 := Lib.hid (HW.out.trans (hal.mono HW.out.size))
                generalize place m L.length = p at hmk hcv hal HT1 HW1
                clear hal HBm HT HW hX hp16
                go_wp2_with (at_builtin; refine at_appt rfl _ _ rfl HT1.out (by rfl) (wr.heap.size + 1) (lstr z) z rfl (by rfl) (by simp) (by omega) HW1.out.size ?_; intro ao4 cap4 w4 hT4 hgrow4; have HT2 := Lib.hid hT4; have HW2 := Lib.hid (HW1.out.grown hgrow4 HW1.out.size (fun j hj => trow_lt HT1.out j hj)); clear hT4 hgrow4)
                go_roundw
                case rel => exact ⟨L.length + 1, ao4, cap4, by omega, by go_num, rfl, by rw [HPS.out]; exact HT2.out, HW2.out, HA2.out⟩
                case measure => simp [intOf]; omega
              · have hnm' : alike nm ⟨#[]⟩ = false := by simpa using hnm
                have HPK := Lib.hid (show pick names known m k = (look known nm).map (fun c => c.data.toList) from by unfold pick; rw [← HNM.out, if_neg hnm])
                have HLn := Lib.hid (picked_length names known m k)
                have HPS := Lib.hid (show ∀ y, look known nm = some y → picked names known m (k + 1) = picked names known m k ++ [y.data.toList] from fun y hy => by rw [picked_succ, HPK.out, hy]; rfl)
                have HA2 := Lib.hid (show ∀ y, look known nm = some y → ∀ i, i < k + 1 → (pick names known m i).isSome = true from fun y hy i hi => by
                  rcases Nat.lt_or_ge i k with h | h
                  · exact HA.out i h
                  · obtain rfl : i = k := by omega
                    rw [HPK.out, hy]; rfl)
                generalize picked names known m k = L at HT HPS HLn
                have HT0 := Lib.hid HT.out
                have HW0 := Lib.hid HW.out
                clear HT HW hX hp16
                go_wp2_with fail
                go_loopw [8, 11, 12] (fun x f i wi => ∃ (q : Nat) (a : Option Addr) (c : Nat), q ≤ lk ∧ i = .int .i64 q ∧ Below w.heap.size w wi ∧ ((f = .bool false ∧ x = .slice a k c ∧ Trow w.heap.size (.slice a k c) L wi ∧ ∀ i, i < q → alike (lstr (nameOf (known.getD i ByteArray.empty).data.toList)) nm = false) ∨ (f = .bool true ∧ x = .slice a (k + 1) c ∧ ∃ y, look known nm = some y ∧ Trow w.heap.size (.slice a (k + 1) c) (L ++ [y.data.toList]) wi))) (fun _ _ i _ => lk - (intOf i).toNat)
                case atStart => exact ⟨0, a, c, Nat.zero_le _, rfl, HW0.out, .inl ⟨rfl, rfl, HT0.out, fun i hi => absurd hi (Nat.not_lt_zero i)⟩⟩
                case round =>
                  clear HT0 HW0
                  rename_i a0 c0 _
                  obtain ⟨q, a, c, hq, rfl, hW, ⟨rfl, rfl, hT, hF⟩ | ⟨rfl, rfl, y, hy, hT⟩⟩ := hrel
                  · have HT := Lib.hid hT
                    have HW := Lib.hid hW
                    have HF := Lib.hid hF
                    clear hT hW hF
                    by_cases hql : q < lk
                    · have k1 : (q : Int) < (lk : Int) := by omega
                      obtain ⟨b2, o2, rfl, hc2⟩ := hK.cell q hql
                      have hqn : q < known.length := by rw [← HCK.out]; exact hql
                      have hsy := hsz q hqn
                      have HLF := Lib.hid (look_found hqn HF.out)
                      have HF2 := Lib.hid (show alike (lstr (nameOf (known.getD q ByteArray.empty).data.toList)) nm = false → ∀ i, i < q + 1 → alike (lstr (nameOf (known.getD i ByteArray.empty).data.toList)) nm = false from fun h i hi => by
                        rcases Nat.lt_or_ge i q with h' | h'
                        · exact HF.out i h'
                        · obtain rfl : i = q := by omega
                          exact h)
                      generalize known.getD q ByteArray.empty = y at hc2 hsy HLF HF2
                      have HKp := Lib.hid (show ∀ W, Below w.heap.size w W → W.cell? ⟨b2, o2 + q, none⟩ = some (.string y) ∧ W.cell? ⟨b1, o1 + k, none⟩ = some (.string nm) from fun W hb => ⟨(hb.cell (p := ⟨b2, o2 + q, none⟩) (block_lt_of_cell hc2)).trans hc2, (hb.cell (p := ⟨b1, o1 + k, none⟩) (block_lt_of_cell hc1)).trans hc1⟩)
                      by_cases ha : alike (lstr (nameOf y.data.toList)) nm = true
                      · have HY := Lib.hid (HLF.out ha)
                        clear HLF HF2 HF
                        go_wp2_with fail
                        go_region_held3 (fun W => W.cell? ⟨b2, o2 + q, none⟩ = some (.string y) ∧ W.cell? ⟨b1, o1 + k, none⟩ = some (.string nm)) (first | exact HKp.out _ HW.out | exact HKp.out _ HW.out.drew | exact HKp.out _ HW2.out) (first | (go_at_call 22; (with_reducible refine (refName_any y _ (by omega)).mono ?_); rintro e w2 ⟨rfl, hw2⟩; have HW2 := Lib.hid (HW.out.drew.trans (hw2.mono HW.out.size)); have HT2 := Lib.hid (trow_below HT.out ((Below.refl wr.heap.size wr).drew.trans hw2)); clear hw2))
                        all_goals
                          have hc3 := (HKp.out _ HW2.out).1
                          have HT3 := Lib.hid (trow_below HT2.out ((Below.refl w2.heap.size w2).alloc (Nat.le_refl _) (.cells #[.string y] 9)))
                          have HW3 := Lib.hid (HW2.out.alloc HW2.out.size (.cells #[.string y] 9))
                          go_wp2_with (at_builtin; refine at_appt rfl _ _ rfl HT3.out (by rfl) w2.heap.size y y.data.toList (by apply Go.WideShapes.bytes_inj; rfl) (by rfl) (by simp) (by have := HLn.out; omega) HW3.out.size ?_; intro ao4 cap4 w4 hT4 hgrow4; have HT4 := Lib.hid hT4; have HW4 := Lib.hid (HW3.out.grown hgrow4 HW3.out.size (fun j hj => trow_lt HT3.out j hj)); clear hT4 hgrow4)
                          go_roundw
                          case rel => exact ⟨q + 1, ao4, cap4, by omega, by go_num, HW4.out, .inr ⟨rfl, by rw [HLn.out], y, HY.out, by rw [← HLn.out]; exact HT4.out⟩⟩
                          case measure => simp [intOf]; omega
                      · have ha' : alike (lstr (nameOf y.data.toList)) nm = false := by simpa using ha
                        clear ha HLF HF
                        go_wp2_with fail
                        go_region_held3 (fun W => W.cell? ⟨b2, o2 + q, none⟩ = some (.string y) ∧ W.cell? ⟨b1, o1 + k, none⟩ = some (.string nm)) (first | exact HKp.out _ HW.out | exact HKp.out _ HW.out.drew | exact HKp.out _ HW2.out) (first | (go_at_call 22; (with_reducible refine (refName_any y _ (by omega)).mono ?_); rintro e w2 ⟨rfl, hw2⟩; have HW2 := Lib.hid (HW.out.drew.trans (hw2.mono HW.out.size)); have HT2 := Lib.hid (trow_below HT.out ((Below.refl wr.heap.size wr).drew.trans hw2)); clear hw2))
                        all_goals
                          go_wp2_with fail
                          go_roundw
                          case rel => exact ⟨q + 1, a, c, by omega, by go_num, HW2.out, .inl ⟨rfl, rfl, HT2.out, HF2.out ha'⟩⟩
                          case measure => simp [intOf]; omega
                    · obtain rfl : lk = q := by omega
                      have HR := Lib.hid (fill_none HOK.out hkn.out (by rw [HPK.out, look_none (fun i hi => HF.out i (by rw [HCK.out]; exact hi))]; rfl))
                      go_wp2_with fail
                      go_ret2
                      show Both (fillR names known (m : Int)) w _ _
                      rw [HR.out]
                      exact ⟨rfl, HW.out⟩
                  · have HT := Lib.hid hT
                    have HW := Lib.hid hW
                    clear hT hW
                    by_cases hql : q < lk
                    · have k1 : (q : Int) < (lk : Int) := by omega
                      go_wp2_with fail
                      go_roundw
                      case rel => exact ⟨k + 1, a, c, by omega, by go_num, rfl, by rw [HPS.out y hy]; exact HT.out, HW.out, HA2.out y hy⟩
                      case measure => simp [intOf]; omega
                    · obtain rfl : lk = q := by omega
                      go_wp2_with fail
                      go_roundw
                      case rel => exact ⟨k + 1, a, c, by omega, by go_num, rfl, by rw [HPS.out y hy]; exact HT.out, HW.out, HA2.out y hy⟩
                      case measure => simp [intOf]; omega
            · have hX : ((place m k : Nat) : Int) = (m : Int) - 16 * (k : Int) := by unfold place; omega
              have hp16 : place m k ≤ 16 := Nat.min_le_left _ _
              by_cases hnm : alike nm ⟨#[]⟩ = true
              · have HPK := Lib.hid (show pick names known m k = some (List.replicate (place m k) 0) from by unfold pick; rw [← HNM.out, if_pos hnm])
                have hmk := run_make8 (place m k) (by omega) wr
                rw [hX] at hmk
                have HBm := bown_made (place m k) wr
                have hcv := bown_text HBm (place m k) (by rw [List.length_replicate]) (place m k)
                obtain ⟨z, HZ⟩ : ∃ z : List UInt8, RowKit.Hid (z = List.replicate (place m k) 0) := ⟨_, Lib.hid rfl⟩
                rw [← HZ.out] at hcv
                have HPS := Lib.hid (show picked names known m (k + 1) = picked names known m k ++ [z] from by rw [picked_succ, HPK.out, HZ.out]; rfl)
                have HA2 := Lib.hid (show ∀ i, i < k + 1 → (pick names known m i).isSome = true from fun i hi => by
                  rcases Nat.lt_or_ge i k with h | h
                  · exact HA.out i h
                  · obtain rfl : i = k := by omega
                    rw [HPK.out]; rfl)
                have hal := ((Below.refl wr.heap.size wr).alloc (Nat.le_refl _) (.cells (madeCells #[.int .u8 0] (place m k)) 5)).alloc (by simp) (.cells #[.string (lstr z)] 9)
                have HLn := Lib.hid (picked_length names known m k)
                generalize picked names known m k = L at HT HPS HLn
                obtain rfl : L.length = k := HLn.out
                have HT1 := Lib.hid (trow_below HT.out hal)
                have HW1 := Lib.hid (HW.out.trans (hal.mono HW.out.size))
                generalize place m L.length = p at hmk hcv hal HT1 HW1
                clear hal HBm HT HW hX hp16
                go_wp2_with (at_builtin; refine at_appt rfl _ _ rfl HT1.out (by rfl) (wr.heap.size + 1) (lstr z) z rfl (by rfl) (by simp) (by omega) HW1.out.size ?_; intro ao4 cap4 w4 hT4 hgrow4; have HT2 := Lib.hid hT4; have HW2 := Lib.hid (HW1.out.grown hgrow4 HW1.out.size (fun j hj => trow_lt HT1.out j hj)); clear hT4 hgrow4)
                go_roundw
                case rel => exact ⟨L.length + 1, ao4, cap4, by omega, by go_num, rfl, by rw [HPS.out]; exact HT2.out, HW2.out, HA2.out⟩
                case measure => simp [intOf]; omega
              · have hnm' : alike nm ⟨#[]⟩ = false := by simpa using hnm
                have HPK := Lib.hid (show pick names known m k = (look known nm).map (fun c => c.data.toList) from by unfold pick; rw [← HNM.out, if_neg hnm])
                have HLn := Lib.hid (picked_length names known m k)
                have HPS := Lib.hid (show ∀ y, look known nm = some y → picked names known m (k + 1) = picked names known m k ++ [y.data.toList] from fun y hy => by rw [picked_succ, HPK.out, hy]; rfl)
                have HA2 := Lib.hid (show ∀ y, look known nm = some y → ∀ i, i < k + 1 → (pick names known m i).isSome = true from fun y hy i hi => by
                  rcases Nat.lt_or_ge i k with h | h
                  · exact HA.out i h
                  · obtain rfl : i = k := by omega
                    rw [HPK.out, hy]; rfl)
                generalize picked names known m k = L at HT HPS HLn
                have HT0 := Lib.hid HT.out
                have HW0 := Lib.hid HW.out
                clear HT HW hX hp16
                go_wp2_with fail
                go_loopw [8, 11, 12] (fun x f i wi => ∃ (q : Nat) (a : Option Addr) (c : Nat), q ≤ lk ∧ i = .int .i64 q ∧ Below w.heap.size w wi ∧ ((f = .bool false ∧ x = .slice a k c ∧ Trow w.heap.size (.slice a k c) L wi ∧ ∀ i, i < q → alike (lstr (nameOf (known.getD i ByteArray.empty).data.toList)) nm = false) ∨ (f = .bool true ∧ x = .slice a (k + 1) c ∧ ∃ y, look known nm = some y ∧ Trow w.heap.size (.slice a (k + 1) c) (L ++ [y.data.toList]) wi))) (fun _ _ i _ => lk - (intOf i).toNat)
                case atStart => exact ⟨0, a, c, Nat.zero_le _, rfl, HW0.out, .inl ⟨rfl, rfl, HT0.out, fun i hi => absurd hi (Nat.not_lt_zero i)⟩⟩
                case round =>
                  clear HT0 HW0
                  rename_i a0 c0 _
                  obtain ⟨q, a, c, hq, rfl, hW, ⟨rfl, rfl, hT, hF⟩ | ⟨rfl, rfl, y, hy, hT⟩⟩ := hrel
                  · have HT := Lib.hid hT
                    have HW := Lib.hid hW
                    have HF := Lib.hid hF
                    clear hT hW hF
                    by_cases hql : q < lk
                    · have k1 : (q : Int) < (lk : Int) := by omega
                      obtain ⟨b2, o2, rfl, hc2⟩ := hK.cell q hql
                      have hqn : q < known.length := by rw [← HCK.out]; exact hql
                      have hsy := hsz q hqn
                      have HLF := Lib.hid (look_found hqn HF.out)
                      have HF2 := Lib.hid (show alike (lstr (nameOf (known.getD q ByteArray.empty).data.toList)) nm = false → ∀ i, i < q + 1 → alike (lstr (nameOf (known.getD i ByteArray.empty).data.toList)) nm = false from fun h i hi => by
                        rcases Nat.lt_or_ge i q with h' | h'
                        · exact HF.out i h'
                        · obtain rfl : i = q := by omega
                          exact h)
                      generalize known.getD q ByteArray.empty = y at hc2 hsy HLF HF2
                      have HKp := Lib.hid (show ∀ W, Below w.heap.size w W → W.cell? ⟨b2, o2 + q, none⟩ = some (.string y) ∧ W.cell? ⟨b1, o1 + k, none⟩ = some (.string nm) from fun W hb => ⟨(hb.cell (p := ⟨b2, o2 + q, none⟩) (block_lt_of_cell hc2)).trans hc2, (hb.cell (p := ⟨b1, o1 + k, none⟩) (block_lt_of_cell hc1)).trans hc1⟩)
                      by_cases ha : alike (lstr (nameOf y.data.toList)) nm = true
                      · have HY := Lib.hid (HLF.out ha)
                        clear HLF HF2 HF
                        go_wp2_with fail
                        go_region_held3 (fun W => W.cell? ⟨b2, o2 + q, none⟩ = some (.string y) ∧ W.cell? ⟨b1, o1 + k, none⟩ = some (.string nm)) (first | exact HKp.out _ HW.out | exact HKp.out _ HW.out.drew | exact HKp.out _ HW2.out) (first | (go_at_call 22; (with_reducible refine (refName_any y _ (by omega)).mono ?_); rintro e w2 ⟨rfl, hw2⟩; have HW2 := Lib.hid (HW.out.drew.trans (hw2.mono HW.out.size)); have HT2 := Lib.hid (trow_below HT.out ((Below.refl wr.heap.size wr).drew.trans hw2)); clear hw2))
                        all_goals
                          have hc3 := (HKp.out _ HW2.out).1
                          have HT3 := Lib.hid (trow_below HT2.out ((Below.refl w2.heap.size w2).alloc (Nat.le_refl _) (.cells #[.string y] 9)))
                          have HW3 := Lib.hid (HW2.out.alloc HW2.out.size (.cells #[.string y] 9))
                          go_wp2_with (at_builtin; refine at_appt rfl _ _ rfl HT3.out (by rfl) w2.heap.size y y.data.toList (by apply Go.WideShapes.bytes_inj; rfl) (by rfl) (by simp) (by have := HLn.out; omega) HW3.out.size ?_; intro ao4 cap4 w4 hT4 hgrow4; have HT4 := Lib.hid hT4; have HW4 := Lib.hid (HW3.out.grown hgrow4 HW3.out.size (fun j hj => trow_lt HT3.out j hj)); clear hT4 hgrow4)
                          go_roundw
                          case rel => exact ⟨q + 1, ao4, cap4, by omega, by go_num, HW4.out, .inr ⟨rfl, by rw [HLn.out], y, HY.out, by rw [← HLn.out]; exact HT4.out⟩⟩
                          case measure => simp [intOf]; omega
                      · have ha' : alike (lstr (nameOf y.data.toList)) nm = false := by simpa using ha
                        clear ha HLF HF
                        go_wp2_with fail
                        go_region_held3 (fun W => W.cell? ⟨b2, o2 + q, none⟩ = some (.string y) ∧ W.cell? ⟨b1, o1 + k, none⟩ = some (.string nm)) (first | exact HKp.out _ HW.out | exact HKp.out _ HW.out.drew | exact HKp.out _ HW2.out) (first | (go_at_call 22; (with_reducible refine (refName_any y _ (by omega)).mono ?_); rintro e w2 ⟨rfl, hw2⟩; have HW2 := Lib.hid (HW.out.drew.trans (hw2.mono HW.out.size)); have HT2 := Lib.hid (trow_below HT.out ((Below.refl wr.heap.size wr).drew.trans hw2)); clear hw2))
                        all_goals
                          go_wp2_with fail
                          go_roundw
                          case rel => exact ⟨q + 1, a, c, by omega, by go_num, HW2.out, .inl ⟨rfl, rfl, HT2.out, HF2.out ha'⟩⟩
                          case measure => simp [intOf]; omega
                    · obtain rfl : lk = q := by omega
                      have HR := Lib.hid (fill_none HOK.out hkn.out (by rw [HPK.out, look_none (fun i hi => HF.out i (by rw [HCK.out]; exact hi))]; rfl))
                      go_wp2_with fail
                      go_ret2
                      show Both (fillR names known (m : Int)) w _ _
                      rw [HR.out]
                      exact ⟨rfl, HW.out⟩
                  · have HT := Lib.hid hT
                    have HW := Lib.hid hW
                    clear hT hW
                    by_cases hql : q < lk
                    · have k1 : (q : Int) < (lk : Int) := by omega
                      go_wp2_with fail
                      go_roundw
                      case rel => exact ⟨k + 1, a, c, by omega, by go_num, rfl, by rw [HPS.out y hy]; exact HT.out, HW.out, HA2.out y hy⟩
                      case measure => simp [intOf]; omega
                    · obtain rfl : lk = q := by omega
                      go_wp2_with fail
                      go_roundw
                      case rel => exact ⟨k + 1, a, c, by omega, by go_num, rfl, by rw [HPS.out y hy]; exact HT.out, HW.out, HA2.out y hy⟩
                      case measure => simp [intOf]; omega
          · obtain rfl : ln = k := by omega
            go_wp2_with fail
            have HAL := Lib.hid (show ∀ i, i < names.length → (pick names known m i).isSome = true from fun i hi => HA.out i (by rw [HCN.out]; exact hi))
            have HSt := Lib.hid (trow_strs HT.out (picked_length names known m ln).symm)
            go_loop [13, 14] (fun s i => ∃ q : Nat, q ≤ ln ∧ i = .int .i64 q ∧ s = .string (lstr (picked names known m q).flatten) ∧ (picked names known m q).flatten.length ≤ 16 * q ∧ ∀ i, i < q → ((pick names known m i).getD []).length = place m i) (fun _ i => ln - (intOf i).toNat)
            case atStart => exact ⟨0, Nat.zero_le _, rfl, rfl, Nat.le_refl _, fun i hi => absurd hi (Nat.not_lt_zero i)⟩
            case round =>
              obtain ⟨q, hq, rfl, rfl, hSl, hB⟩ := hrel
              have HB := Lib.hid hB
              clear hB
              by_cases hql : q < ln
              · have k1 : (q : Int) < (ln : Int) := by omega
                have hqn := Lib.hid (show q < names.length from by rw [← HCN.out]; exact hql)
                obtain ⟨b, off, rfl, hc⟩ := HSt.out.cell q hql
                rw [map_getD_lstr _ (by rw [picked_length]; exact hql), picked_get names known m ln hql] at hc
                have HPq := Lib.hid (show (picked names known m (q + 1)).flatten = (picked names known m q).flatten ++ (pick names known m q).getD [] from by rw [picked_succ, List.flatten_append]; simp)
                obtain ⟨z, HZP⟩ : ∃ z, RowKit.Hid (z = (pick names known m q).getD []) := ⟨_, Lib.hid rfl⟩
                rw [← HZP.out] at hc HPq
                generalize (picked names known m q).flatten = S at HPq hSl
                have e1 : IntKind.i64.wrap (16 * (q : Int)) = 16 * (q : Int) := IntWalk.i64_in _ (by omega)
                have e2 : IntKind.i64.wrap ((m : Int) - 16 * (q : Int)) = (m : Int) - 16 * (q : Int) := IntWalk.i64_in _ (by omega)
                have hqm : 16 * q < m := by have := H3.out; omega
                by_cases hgt : 16 < (m : Int) - 16 * (q : Int)
                · have hpl : place m q = 16 := by unfold place; omega
                  by_cases hz : z.length = place m q
                  · have hzb : (((lstr z).size : Int) != 16) = false := by
                      rw [lstr_size, hz, hpl]
                      simp
                      try omega
                    have HS2 := Lib.hid (show lstr S ++ lstr z = lstr (S ++ z) from lstr_append S z)
                    have hb3 : ¬ 9223372036854775807 < (lstr S).size + (lstr z).size := by rw [lstr_size, lstr_size]; omega
                    have HZ := Lib.hid (show ∀ i, i < q + 1 → ((pick names known m i).getD []).length = place m i from fun i hi => by
                      rcases Nat.lt_or_ge i q with h | h
                      · exact HB.out i h
                      · obtain rfl : i = q := by omega
                        rw [← HZP.out]; exact hz)
                    have HL2 := Lib.hid (show (S ++ z).length ≤ 16 * (q + 1) from by rw [List.length_append]; have := Nat.min_le_left 16 (m - 16 * q); unfold place at hz; omega)
                    have hbs : ¬ ((9223372036854775807 : Int) < ((lstr S).size : Int) + ((lstr z).size : Int)) := by omega
                    clear hz hpl
                    go_wp2_with fail
                    rw [HS2.out]
                    go_round
                    case rel => exact ⟨q + 1, by omega, by go_num, by rw [HPq.out], by rw [HPq.out]; exact HL2.out, HZ.out⟩
                    case measure => simp [intOf]; omega
                  · have hzb : (((lstr z).size : Int) != 16) = true := by
                      rw [lstr_size, bne_iff_ne]
                      omega
                    have HR := Lib.hid (fill_form HOK.out HAL.out hqn.out (by rw [← HZP.out]; exact hz))
                    clear hz hpl
                    go_wp2_with fail
                    go_ret2
                    show Both (fillR names known (m : Int)) w _ _
                    rw [HR.out]
                    exact ⟨rfl, HW.out⟩
                · have hpl : place m q = m - 16 * q := by unfold place; omega
                  by_cases hz : z.length = place m q
                  · have hzb : (((lstr z).size : Int) != (m : Int) - 16 * (q : Int)) = false := by
                      rw [lstr_size, hz, hpl]
                      simp
                      try omega
                    have HS2 := Lib.hid (show lstr S ++ lstr z = lstr (S ++ z) from lstr_append S z)
                    have hb3 : ¬ 9223372036854775807 < (lstr S).size + (lstr z).size := by rw [lstr_size, lstr_size]; omega
                    have HZ := Lib.hid (show ∀ i, i < q + 1 → ((pick names known m i).getD []).length = place m i from fun i hi => by
                      rcases Nat.lt_or_ge i q with h | h
                      · exact HB.out i h
                      · obtain rfl : i = q := by omega
                        rw [← HZP.out]; exact hz)
                    have HL2 := Lib.hid (show (S ++ z).length ≤ 16 * (q + 1) from by rw [List.length_append]; have := Nat.min_le_left 16 (m - 16 * q); unfold place at hz; omega)
                    have hbs : ¬ ((9223372036854775807 : Int) < ((lstr S).size : Int) + ((lstr z).size : Int)) := by omega
                    clear hz hpl
                    go_wp2_with fail
                    rw [HS2.out]
                    go_round
                    case rel => exact ⟨q + 1, by omega, by go_num, by rw [HPq.out], by rw [HPq.out]; exact HL2.out, HZ.out⟩
                    case measure => simp [intOf]; omega
                  · have hzb : (((lstr z).size : Int) != (m : Int) - 16 * (q : Int)) = true := by
                      rw [lstr_size, bne_iff_ne]
                      omega
                    have HR := Lib.hid (fill_form HOK.out HAL.out hqn.out (by rw [← HZP.out]; exact hz))
                    clear hz hpl
                    go_wp2_with fail
                    go_ret2
                    show Both (fillR names known (m : Int)) w _ _
                    rw [HR.out]
                    exact ⟨rfl, HW.out⟩
              · obtain rfl : ln = q := by omega
                have HR := Lib.hid (fill_whole HOK.out HAL.out (fun i hi => HB.out i (by rw [HCN.out]; exact hi)))
                rw [← HCN.out] at HR
                go_wp2_with fail
                go_ret2
                show Both (fillR names known (m : Int)) w _ _
                rw [HR.out]
                exact ⟨rfl, HW.out⟩
      · refine Calls.mono ?_ (key (fill_range (.inr (.inr (by rw [← HCN.out]; exact h3)))))
        clear key
        go_enter Tryd.func25, Tryd.ntmps25
        go_wp2_with fail
        go_ret2
        exact ⟨rfl, rfl⟩
end Go.Proofs.YtnapjloapgfcfaaDoor
