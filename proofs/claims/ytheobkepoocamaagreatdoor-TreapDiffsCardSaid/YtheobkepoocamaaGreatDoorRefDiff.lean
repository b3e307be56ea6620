/- The document's Diff. -/
import Derived.Test.YtheobkepoocamaaGreatDoorPrs
import Derived.Test.YtheobkepoocamaaGreatDoorGrow
namespace Go.Proofs.YtheobkepoocamaaGreatDoor
set_option maxRecDepth 100000
open Go.RowKit Go.Less
attribute [local go_sem 9000] sem_eql sem_neq sem_lss sem_leq sem_gtr sem_geq
theorem drop_one {l : List Pr} {j : Nat} (h : j < l.length) : l.drop j = l.getD j z0 :: l.drop (j + 1) := by
  rw [List.drop_eq_getElem_cons h]; simp [List.getD, List.getElem?_eq_getElem h]
abbrev df (a b : List Pr) : List ByteArray := Tr.diff less a b
/-- Texts are answered, in a row of the call's own. -/
def Rowed (l : List ByteArray) (w : World) (e : Ending) (w' : World) : Prop := ∃ ao cap, e = .returned (.slice ao l.length cap) ∧ w'.ownsRow w.heap.size 9 1 (.slice ao l.length cap) l.length (l.map Value.string) ∧ Below w.heap.size w w'
set_option maxHeartbeats 8000000 in
theorem rdiff_any (la lb : List Pr) (a b : Option Addr) (m n ca cb : Nat) (w : World) (hA : Prs a m la w) (hB : Prs b n lb w) (hm : la.length ≤ 5000) (hn : lb.length ≤ 5000) :
    Calls Tryz.prog 9 #[.slice a m ca, .slice b n cb] w (Rowed (df la lb) w) := by
  have hma : m = la.length := hA.count
  have hnb : n = lb.length := hB.count
  have hdl := Tr.diff_length less (la.length + lb.length) la lb (Nat.le_refl _)
  have HDL := Lib.hid (show (df la lb).length ≤ 10000 by show (Tr.diff less la lb).length ≤ 10000; omega)
  have HMA := Lib.hid hma
  have HNB := Lib.hid hnb
  have hmI : (m : Int) ≤ 5000 := by omega
  have hnI : (n : Int) ≤ 5000 := by omega
  have HA := Lib.hid hA
  have HB := Lib.hid hB
  clear hA hB hm hn hma hnb hdl
  go_enter Tryz.func9, Tryz.ntmps9
  go_wp2_with fail
  go_loopw [5, 6, 7] (fun o x y wr => ∃ (i k : Nat) (l : List ByteArray) (ao : Option Addr) (cp : Nat), i ≤ m ∧ k ≤ n ∧ x = .int .i64 (i : Int) ∧ y = .int .i64 (k : Int) ∧ o = .slice ao l.length cp ∧ df la lb = l ++ df (la.drop i) (lb.drop k) ∧ wr.ownsRow w.heap.size 9 1 (.slice ao l.length cp) l.length (l.map Value.string) ∧ Below w.heap.size w wr) (fun _ x y _ => (m - (intOf x).toNat) + (n - (intOf y).toNat))
  case atStart => exact ⟨0, 0, [], none, 0, Nat.zero_le _, Nat.zero_le _, rfl, rfl, rfl, rfl, ⟨rfl, .inl ⟨rfl, rfl⟩⟩, Below.refl _ _⟩
  case round =>
    obtain ⟨i, k, l, ao, cp, hi, hk, rfl, rfl, rfl, hdf, ho, hb⟩ := hrel
    have HDF := Lib.hid hdf
    have HO := Lib.hid ho
    have HW := Lib.hid hb
    have HL := Lib.hid (show l.length ≤ 1000000 by have := HDL.out; rw [hdf, List.length_append] at this; omega)
    clear hdf ho hb
    by_cases hia : i < m
    · obtain ⟨ba, oa, rfl, ea0, ea1⟩ := HA.out.cell i hia
      have x0 := (HW.out.cell (p := ⟨ba, oa + i * 2, none⟩) (block_lt_of_cell ea0)).trans ea0
      have x1 := (HW.out.cell (p := ⟨ba, oa + i * 2 + 1, none⟩) (block_lt_of_cell ea1)).trans ea1
      have hil : i < la.length := by have := HMA.out; omega
      have HDA := Lib.hid (drop_one hil)
      generalize la.getD i z0 = x at x0 x1 HDA ea0 ea1
      clear ea0 ea1 hil
      have hi0 : (i : Int) < (m : Int) := by omega
      have hie : ((i : Int) == (m : Int)) = false := by rw [beq_eq_false_iff_ne]; omega
      by_cases hkb : k < n
      · obtain ⟨bb, ob, rfl, eb0, eb1⟩ := HB.out.cell k hkb
        have y0 := (HW.out.cell (p := ⟨bb, ob + k * 2, none⟩) (block_lt_of_cell eb0)).trans eb0
        have y1 := (HW.out.cell (p := ⟨bb, ob + k * 2 + 1, none⟩) (block_lt_of_cell eb1)).trans eb1
        have hkl : k < lb.length := by have := HNB.out; omega
        have HDB := Lib.hid (drop_one hkl)
        generalize lb.getD k z0 = y at y0 y1 HDB eb0 eb1
        clear eb0 eb1 hkl
        have hk0 : (k : Int) < (n : Int) := by omega
        have hke : ((k : Int) == (n : Int)) = false := by rw [beq_eq_false_iff_ne]; omega
        cases h1 : less x.1 y.1
        · cases h2 : less y.1 x.1
          · cases h3 : alike x.2 y.2
            · have HDN := Lib.hid (show df la lb = (l ++ [x.1]) ++ df (la.drop (i + 1)) (lb.drop (k + 1)) from by rw [HDF.out, HDA.out, HDB.out]; show l ++ Tr.diff less _ _ = _ ++ Tr.diff less _ _; rw [Tr.diff_ne less _ _ h1 h2 (fun e => by rw [alike_eq.2 e] at h3; cases h3)]; simp)
              have hwr := Below.refl wr.heap.size wr
              go_wp2_with fail
              go_quiet (fail)
              have hq := bdn (Below.refl wr.heap.size wr) nq
              generalize wr.drewN nq = wq1 at hq ⊢
              have hwq1 := btrans hq hwr
              have x0 := (hq.cell (p := ⟨ba, oa + i * 2, none⟩) (block_lt_of_cell x0)).trans x0
              have x1 := (hq.cell (p := ⟨ba, oa + i * 2 + 1, none⟩) (block_lt_of_cell x1)).trans x1
              have y0 := (hq.cell (p := ⟨bb, ob + k * 2, none⟩) (block_lt_of_cell y0)).trans y0
              have y1 := (hq.cell (p := ⟨bb, ob + k * 2 + 1, none⟩) (block_lt_of_cell y1)).trans y1
              go_wp2_with fail
              go_quiet (fail)
              have hq := bdn (Below.refl wq1.heap.size wq1) nq
              generalize wq1.drewN nq = wq2 at hq ⊢
              have hwq2 := btrans hq hwq1
              have x0 := (hq.cell (p := ⟨ba, oa + i * 2, none⟩) (block_lt_of_cell x0)).trans x0
              have x1 := (hq.cell (p := ⟨ba, oa + i * 2 + 1, none⟩) (block_lt_of_cell x1)).trans x1
              have y0 := (hq.cell (p := ⟨bb, ob + k * 2, none⟩) (block_lt_of_cell y0)).trans y0
              have y1 := (hq.cell (p := ⟨bb, ob + k * 2 + 1, none⟩) (block_lt_of_cell y1)).trans y1
              go_wp2_with fail
              go_quiet (fail)
              have hq := bdn (Below.refl wq2.heap.size wq2) nq
              generalize wq2.drewN nq = wq3 at hq ⊢
              have hwq3 := btrans hq hwq2
              have x0 := (hq.cell (p := ⟨ba, oa + i * 2, none⟩) (block_lt_of_cell x0)).trans x0
              have x1 := (hq.cell (p := ⟨ba, oa + i * 2 + 1, none⟩) (block_lt_of_cell x1)).trans x1
              have y0 := (hq.cell (p := ⟨bb, ob + k * 2, none⟩) (block_lt_of_cell y0)).trans y0
              have y1 := (hq.cell (p := ⟨bb, ob + k * 2 + 1, none⟩) (block_lt_of_cell y1)).trans y1
              have HB3 := Lib.hid (balloc (.cells #[.string x.1] 9) (btrans hwq3 HW.out))
              have HO3 := Lib.hid (owned_below (owned_below HO.out hwq3) (below_one wq3 (.cells #[.string x.1] 9)))
              clear hq hwq3 hwr
              go_wp2_with (first | (at_builtin; refine at_app1 rfl _ _ rfl w.heap.size _ l.length (l.map Value.string) (by rfl) HO3.out wq3.heap.size (.string x.1) (by rfl) (by simp) rfl HL.out HB3.out.size ?_; intro ao4 cap4 w4 hown4 hgrow4; have HB4 := Lib.hid (HB3.out.grown hgrow4 HB3.out.size (fun j hj => (owns_lt HO3.out j hj).1)); have HO4 := Lib.hid hown4; clear hown4 hgrow4) | fail)
              go_roundw
              case rel => exact ⟨i + 1, k + 1, l ++ [x.1], ao4, cap4, by omega, by omega, by go_num, by go_num, by rw [List.length_append]; rfl, HDN.out, by rw [List.length_append, List.map_append]; exact HO4.out, HB4.out⟩
              case measure => simp [intOf]; omega
            · have HDN := Lib.hid (show df la lb = l ++ df (la.drop (i + 1)) (lb.drop (k + 1)) from by rw [HDF.out, HDA.out, HDB.out]; show l ++ Tr.diff less _ _ = _ ++ Tr.diff less _ _; rw [Tr.diff_eq less _ _ h1 h2 (alike_eq.1 h3)])
              have hwr := Below.refl wr.heap.size wr
              go_wp2_with fail
              go_quiet (fail)
              have hq := bdn (Below.refl wr.heap.size wr) nq
              generalize wr.drewN nq = wq1 at hq ⊢
              have hwq1 := btrans hq hwr
              have x0 := (hq.cell (p := ⟨ba, oa + i * 2, none⟩) (block_lt_of_cell x0)).trans x0
              have x1 := (hq.cell (p := ⟨ba, oa + i * 2 + 1, none⟩) (block_lt_of_cell x1)).trans x1
              have y0 := (hq.cell (p := ⟨bb, ob + k * 2, none⟩) (block_lt_of_cell y0)).trans y0
              have y1 := (hq.cell (p := ⟨bb, ob + k * 2 + 1, none⟩) (block_lt_of_cell y1)).trans y1
              go_wp2_with fail
              go_quiet (fail)
              have hq := bdn (Below.refl wq1.heap.size wq1) nq
              generalize wq1.drewN nq = wq2 at hq ⊢
              have hwq2 := btrans hq hwq1
              have x0 := (hq.cell (p := ⟨ba, oa + i * 2, none⟩) (block_lt_of_cell x0)).trans x0
              have x1 := (hq.cell (p := ⟨ba, oa + i * 2 + 1, none⟩) (block_lt_of_cell x1)).trans x1
              have y0 := (hq.cell (p := ⟨bb, ob + k * 2, none⟩) (block_lt_of_cell y0)).trans y0
              have y1 := (hq.cell (p := ⟨bb, ob + k * 2 + 1, none⟩) (block_lt_of_cell y1)).trans y1
              go_wp2_with fail
              go_quiet (fail)
              have hq := bdn (Below.refl wq2.heap.size wq2) nq
              generalize wq2.drewN nq = wq3 at hq ⊢
              have hwq3 := btrans hq hwq2
              have x0 := (hq.cell (p := ⟨ba, oa + i * 2, none⟩) (block_lt_of_cell x0)).trans x0
              have x1 := (hq.cell (p := ⟨ba, oa + i * 2 + 1, none⟩) (block_lt_of_cell x1)).trans x1
              have y0 := (hq.cell (p := ⟨bb, ob + k * 2, none⟩) (block_lt_of_cell y0)).trans y0
              have y1 := (hq.cell (p := ⟨bb, ob + k * 2 + 1, none⟩) (block_lt_of_cell y1)).trans y1
              have HB3 := Lib.hid (btrans hwq3 HW.out)
              have HO3 := Lib.hid (owned_below HO.out hwq3)
              clear hq hwq3 hwr
              go_wp2_with fail
              go_roundw
              case rel => exact ⟨i + 1, k + 1, l, ao, cp, by omega, by omega, by go_num, by go_num, rfl, HDN.out, HO3.out, HB3.out⟩
              case measure => simp [intOf]; omega
          · have HDN := Lib.hid (show df la lb = (l ++ [y.1]) ++ df (la.drop i) (lb.drop (k + 1)) from by rw [HDF.out, HDA.out, HDB.out]; show l ++ Tr.diff less _ _ = _ ++ Tr.diff less _ _; rw [Tr.diff_gt less _ _ h1 h2]; simp)
            have hwr := Below.refl wr.heap.size wr
            go_wp2_with fail
            go_quiet (fail)
            have hq := bdn (Below.refl wr.heap.size wr) nq
            generalize wr.drewN nq = wq1 at hq ⊢
            have hwq1 := btrans hq hwr
            have x0 := (hq.cell (p := ⟨ba, oa + i * 2, none⟩) (block_lt_of_cell x0)).trans x0
            have x1 := (hq.cell (p := ⟨ba, oa + i * 2 + 1, none⟩) (block_lt_of_cell x1)).trans x1
            have y0 := (hq.cell (p := ⟨bb, ob + k * 2, none⟩) (block_lt_of_cell y0)).trans y0
            have y1 := (hq.cell (p := ⟨bb, ob + k * 2 + 1, none⟩) (block_lt_of_cell y1)).trans y1
            go_wp2_with fail
            go_quiet (fail)
            have hq := bdn (Below.refl wq1.heap.size wq1) nq
            generalize wq1.drewN nq = wq2 at hq ⊢
            have hwq2 := btrans hq hwq1
            have x0 := (hq.cell (p := ⟨ba, oa + i * 2, none⟩) (block_lt_of_cell x0)).trans x0
            have x1 := (hq.cell (p := ⟨ba, oa + i * 2 + 1, none⟩) (block_lt_of_cell x1)).trans x1
            have y0 := (hq.cell (p := ⟨bb, ob + k * 2, none⟩) (block_lt_of_cell y0)).trans y0
            have y1 := (hq.cell (p := ⟨bb, ob + k * 2 + 1, none⟩) (block_lt_of_cell y1)).trans y1
            have HB3 := Lib.hid (balloc (.cells #[.string y.1] 9) (btrans hwq2 HW.out))
            have HO3 := Lib.hid (owned_below (owned_below HO.out hwq2) (below_one wq2 (.cells #[.string y.1] 9)))
            clear hq hwq2 hwr
            go_wp2_with (first | (at_builtin; refine at_app1 rfl _ _ rfl w.heap.size _ l.length (l.map Value.string) (by rfl) HO3.out wq2.heap.size (.string y.1) (by rfl) (by simp) rfl HL.out HB3.out.size ?_; intro ao4 cap4 w4 hown4 hgrow4; have HB4 := Lib.hid (HB3.out.grown hgrow4 HB3.out.size (fun j hj => (owns_lt HO3.out j hj).1)); have HO4 := Lib.hid hown4; clear hown4 hgrow4) | fail)
            go_roundw
            case rel => exact ⟨i, k + 1, l ++ [y.1], ao4, cap4, by omega, by omega, by go_num, by go_num, by rw [List.length_append]; rfl, HDN.out, by rw [List.length_append, List.map_append]; exact HO4.out, HB4.out⟩
            case measure => simp [intOf]; omega
        · have HDN := Lib.hid (show df la lb = (l ++ [x.1]) ++ df (la.drop (i + 1)) (lb.drop k) from by rw [HDF.out, HDA.out, HDB.out]; show l ++ Tr.diff less _ _ = _ ++ Tr.diff less _ _; rw [Tr.diff_lt less _ _ h1]; simp)
          have hwr := Below.refl wr.heap.size wr
          go_wp2_with fail
          go_quiet (fail)
          have hq := bdn (Below.refl wr.heap.size wr) nq
          generalize wr.drewN nq = wq1 at hq ⊢
          have hwq1 := btrans hq hwr
          have x0 := (hq.cell (p := ⟨ba, oa + i * 2, none⟩) (block_lt_of_cell x0)).trans x0
          have x1 := (hq.cell (p := ⟨ba, oa + i * 2 + 1, none⟩) (block_lt_of_cell x1)).trans x1
          have y0 := (hq.cell (p := ⟨bb, ob + k * 2, none⟩) (block_lt_of_cell y0)).trans y0
          have y1 := (hq.cell (p := ⟨bb, ob + k * 2 + 1, none⟩) (block_lt_of_cell y1)).trans y1
          have HB3 := Lib.hid (balloc (.cells #[.string x.1] 9) (btrans hwq1 HW.out))
          have HO3 := Lib.hid (owned_below (owned_below HO.out hwq1) (below_one wq1 (.cells #[.string x.1] 9)))
          clear hq hwq1 hwr
          go_wp2_with (first | (at_builtin; refine at_app1 rfl _ _ rfl w.heap.size _ l.length (l.map Value.string) (by rfl) HO3.out wq1.heap.size (.string x.1) (by rfl) (by simp) rfl HL.out HB3.out.size ?_; intro ao4 cap4 w4 hown4 hgrow4; have HB4 := Lib.hid (HB3.out.grown hgrow4 HB3.out.size (fun j hj => (owns_lt HO3.out j hj).1)); have HO4 := Lib.hid hown4; clear hown4 hgrow4) | fail)
          go_roundw
          case rel => exact ⟨i + 1, k, l ++ [x.1], ao4, cap4, by omega, by omega, by go_num, by go_num, by rw [List.length_append]; rfl, HDN.out, by rw [List.length_append, List.map_append]; exact HO4.out, HB4.out⟩
          case measure => simp [intOf]; omega
      · obtain rfl : k = n := by omega
        have HDB := Lib.hid (show lb.drop k = [] by rw [HNB.out, List.drop_length])
        have hk0 : ¬ (k : Int) < (k : Int) := by omega
        have hk1 : decide ((k : Int) < (k : Int)) = false := by simp
        have hke : ((k : Int) == (k : Int)) = true := by simp
        have HDN := Lib.hid (show df la lb = (l ++ [x.1]) ++ df (la.drop (i + 1)) (lb.drop k) from by rw [HDF.out, HDA.out, HDB.out]; show l ++ Tr.diff less _ _ = _ ++ Tr.diff less _ _; rw [Tr.diff_cn]; simp)
        have hwr := Below.refl wr.heap.size wr
        go_wp2_with fail
        go_quiet (fail)
        have hq := bdn (Below.refl wr.heap.size wr) nq
        generalize wr.drewN nq = wq1 at hq ⊢
        have hwq1 := btrans hq hwr
        have x0 := (hq.cell (p := ⟨ba, oa + i * 2, none⟩) (block_lt_of_cell x0)).trans x0
        have x1 := (hq.cell (p := ⟨ba, oa + i * 2 + 1, none⟩) (block_lt_of_cell x1)).trans x1
        have HB3 := Lib.hid (balloc (.cells #[.string x.1] 9) (btrans hwq1 HW.out))
        have HO3 := Lib.hid (owned_below (owned_below HO.out hwq1) (below_one wq1 (.cells #[.string x.1] 9)))
        clear hq hwq1 hwr
        go_wp2_with (first | (at_builtin; refine at_app1 rfl _ _ rfl w.heap.size _ l.length (l.map Value.string) (by rfl) HO3.out wq1.heap.size (.string x.1) (by rfl) (by simp) rfl HL.out HB3.out.size ?_; intro ao4 cap4 w4 hown4 hgrow4; have HB4 := Lib.hid (HB3.out.grown hgrow4 HB3.out.size (fun j hj => (owns_lt HO3.out j hj).1)); have HO4 := Lib.hid hown4; clear hown4 hgrow4) | fail)
        go_roundw
        case rel => exact ⟨i + 1, k, l ++ [x.1], ao4, cap4, by omega, by omega, by go_num, by go_num, by rw [List.length_append]; rfl, HDN.out, by rw [List.length_append, List.map_append]; exact HO4.out, HB4.out⟩
        case measure => simp [intOf]; omega
    · obtain rfl : i = m := by omega
      have HDA := Lib.hid (show la.drop i = [] by rw [HMA.out, List.drop_length])
      have hi0 : ¬ (i : Int) < (i : Int) := by omega
      have hi1 : decide ((i : Int) < (i : Int)) = false := by simp
      have hie : ((i : Int) == (i : Int)) = true := by simp
      by_cases hkb : k < n
      · obtain ⟨bb, ob, rfl, eb0, eb1⟩ := HB.out.cell k hkb
        have y0 := (HW.out.cell (p := ⟨bb, ob + k * 2, none⟩) (block_lt_of_cell eb0)).trans eb0
        have y1 := (HW.out.cell (p := ⟨bb, ob + k * 2 + 1, none⟩) (block_lt_of_cell eb1)).trans eb1
        have hkl : k < lb.length := by have := HNB.out; omega
        have HDB := Lib.hid (drop_one hkl)
        generalize lb.getD k z0 = y at y0 y1 HDB eb0 eb1
        clear eb0 eb1 hkl
        have hk0 : (k : Int) < (n : Int) := by omega
        have hke : ((k : Int) == (n : Int)) = false := by rw [beq_eq_false_iff_ne]; omega
        have HDN := Lib.hid (show df la lb = (l ++ [y.1]) ++ df (la.drop i) (lb.drop (k + 1)) from by rw [HDF.out, HDA.out, HDB.out]; show l ++ Tr.diff less _ _ = _ ++ Tr.diff less _ _; rw [Tr.diff_nc]; simp)
        have hwr := Below.refl wr.heap.size wr
        go_wp2_with fail
        go_quiet (fail)
        have hq := bdn (Below.refl wr.heap.size wr) nq
        generalize wr.drewN nq = wq1 at hq ⊢
        have hwq1 := btrans hq hwr
        have y0 := (hq.cell (p := ⟨bb, ob + k * 2, none⟩) (block_lt_of_cell y0)).trans y0
        have y1 := (hq.cell (p := ⟨bb, ob + k * 2 + 1, none⟩) (block_lt_of_cell y1)).trans y1
        go_wp2_with fail
        go_quiet (fail)
        have hq := bdn (Below.refl wq1.heap.size wq1) nq
        generalize wq1.drewN nq = wq2 at hq ⊢
        have hwq2 := btrans hq hwq1
        have y0 := (hq.cell (p := ⟨bb, ob + k * 2, none⟩) (block_lt_of_cell y0)).trans y0
        have y1 := (hq.cell (p := ⟨bb, ob + k * 2 + 1, none⟩) (block_lt_of_cell y1)).trans y1
        have HB3 := Lib.hid (balloc (.cells #[.string y.1] 9) (btrans hwq2 HW.out))
        have HO3 := Lib.hid (owned_below (owned_below HO.out hwq2) (below_one wq2 (.cells #[.string y.1] 9)))
        clear hq hwq2 hwr
        go_wp2_with (first | (at_builtin; refine at_app1 rfl _ _ rfl w.heap.size _ l.length (l.map Value.string) (by rfl) HO3.out wq2.heap.size (.string y.1) (by rfl) (by simp) rfl HL.out HB3.out.size ?_; intro ao4 cap4 w4 hown4 hgrow4; have HB4 := Lib.hid (HB3.out.grown hgrow4 HB3.out.size (fun j hj => (owns_lt HO3.out j hj).1)); have HO4 := Lib.hid hown4; clear hown4 hgrow4) | fail)
        go_roundw
        case rel => exact ⟨i, k + 1, l ++ [y.1], ao4, cap4, by omega, by omega, by go_num, by go_num, by rw [List.length_append]; rfl, HDN.out, by rw [List.length_append, List.map_append]; exact HO4.out, HB4.out⟩
        case measure => simp [intOf]; omega
      · obtain rfl : k = n := by omega
        have HDB := Lib.hid (show lb.drop k = [] by rw [HNB.out, List.drop_length])
        have hk0 : ¬ (k : Int) < (k : Int) := by omega
        have hk1 : decide ((k : Int) < (k : Int)) = false := by simp
        have hke : ((k : Int) == (k : Int)) = true := by simp
        have HDN := Lib.hid (show df la lb = l by rw [HDF.out, HDA.out, HDB.out]; show l ++ Tr.diff less _ _ = _; rw [Tr.diff_nn, List.append_nil])
        go_wp2_with fail
        go_ret
        exact ⟨ao, cp, by rw [HDN.out]; rfl, by rw [HDN.out]; exact HO.out, HW.out⟩
end Go.Proofs.YtheobkepoocamaaGreatDoor
