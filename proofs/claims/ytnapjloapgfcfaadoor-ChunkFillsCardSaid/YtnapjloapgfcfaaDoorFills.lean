/- ChunkFills, walked. -/
import Derived.Test.YtnapjloapgfcfaaDoorSmap
import Derived.Test.YtnapjloapgfcfaaDoorTells
import Derived.Deep.RegionHeld3
namespace Go.Proofs.YtnapjloapgfcfaaDoor
set_option maxRecDepth 100000
open Go.RowKit Go.Maps Sha
theorem nameOf_size (l : List UInt8) : (lstr (nameOf l)).size ≤ 32 := by
  rw [lstr_size]
  unfold nameOf
  split
  · exact Nat.zero_le _
  · rw [sha_length]; exact Nat.le_refl _
theorem turned_other {w w' : World} {b k : Nat} (h : w.mapTurned w' b) (hk : k ≠ b) : w'.heap[k]? = w.heap[k]? := by
  rcases Nat.lt_or_ge k w.heap.size with hl | hl
  · exact h.grown.block k hl (fun e => hk (by injection e))
  · obtain ⟨es, c, es', c', hb, rfl⟩ := h
    exact ChangeMaps.heap_setBlock_other hb _ hk
/-- One known text more in the map. -/
theorem fills_step {known : List ByteArray} {w1 wr w2 : World} {b off k lk : Nat} {y : ByteArray} (hM : Smp wr w1.heap.size (lk - (k + 1)) (fromJ known (k + 1))) (hX : Boxed wr (w1.heap.size + 1) 38 (.map (some w1.heap.size))) (hW : Below w1.heap.size w1 wr) (hcy : wr.cell? ⟨b, off + k, none⟩ = some (.string y)) (hlk : lk ≤ 40) (hkl : k < lk)
    (hJ : updS (fromJ known (k + 1)) (lstr (nameOf y.data.toList)) (.string y) = fromJ known k) (hw2 : Below wr.heap.size wr w2) :
    ∃ w3, (Instr.mapUpdate 38 (.map (some w1.heap.size)) (.string (lstr (nameOf y.data.toList))) (.string y)).run Tryd.prog w2 = .ok () w3 ∧ (w2.cell? ⟨w1.heap.size + 1, 0, none⟩ = some (.map (some w1.heap.size)) ∧ w2.cell? ⟨b, off + k, none⟩ = some (.string y)) ∧
      (w3.cell? ⟨w1.heap.size + 1, 0, none⟩ = some (.map (some w1.heap.size)) ∧ w3.cell? ⟨b, off + k, none⟩ = some (.string y)) ∧ Smp w3 w1.heap.size (lk - k) (fromJ known k) ∧ Boxed w3 (w1.heap.size + 1) 38 (.map (some w1.heap.size)) ∧ Below w1.heap.size w1 w3 := by
  have hblt := block_lt_of_cell hcy
  have hmlt := hM.lt
  have hX2 := boxed_below hX hw2
  have hcy2 := (hw2.cell (p := ⟨b, off + k, none⟩) hblt).trans hcy
  have hns := nameOf_size y.data.toList
  obtain ⟨w3, hst, hM3, hturn⟩ := (hM.below hw2).store Tryd.underlying38 (by unfold maxLen; omega) (a := lstr (nameOf y.data.toList)) (by unfold maxLen; omega) (.string y)
  have hbne : b ≠ w1.heap.size := fun e => by
    obtain ⟨es, c, _, _, hb', _⟩ := hturn
    have h := hcy2
    subst e
    unfold World.cell? at h
    rw [show w2.heap[(⟨w1.heap.size, off + k, none⟩ : Addr).block]? = _ from hb'] at h
    cases h
  have hX3 : Boxed w3 (w1.heap.size + 1) 38 (.map (some w1.heap.size)) := (turned_other hturn (by omega)).trans hX2
  refine ⟨w3, hst, ⟨hX2.cell, hcy2⟩, ⟨hX3.cell, (World.cell?_of_block (turned_other hturn hbne)).trans hcy2⟩, ?_, hX3, (hW.trans (hw2.mono hW.size)).grown hturn.grown (Nat.le_trans hW.size hw2.size) (fun j e => by cases e; exact Nat.le_refl _)⟩
  rw [← show lk - (k + 1) + 1 = lk - k from by omega]
  exact hM3.same hJ
set_option maxHeartbeats 4000000 in
theorem fills_any (na ka : Option Addr) (ln cn lk ck : Nat) (names known : List ByteArray) (n : Int) (w : World) (hK : KOk w) (hI : IOk w) (hN : Strs na ln names w) (hD : Strs ka lk known w) (hln : ln ≤ 140737488355328) (hlk : lk ≤ 140737488355328) (hn : -9223372036854775808 ≤ n ∧ n ≤ 9223372036854775807)
    (hnm : ∀ i, i < names.length → (names.getD i ByteArray.empty).size ≤ 140737488355328) (hkm : ∀ i, i < known.length → (known.getD i ByteArray.empty).size ≤ 140737488355328) :
    Calls Tryd.prog 4 #[.slice na ln cn, .slice ka lk ck, .int .i64 n] w (Yes w) := by
  have hlni : (ln : Int) ≤ 140737488355328 := by omega
  have hlki : (lk : Int) ≤ 140737488355328 := by omega
  rcases Nat.lt_or_ge 300 ln with hl1 | hl1
  · have g1 : (300 : Int) < (ln : Int) := by omega
    go_enter Tryd.func4, Tryd.ntmps4
    go_wp2_with fail
    refine (awake_any _ hK hI).mono ?_
    rintro e w1 ⟨rfl, hB1⟩
    dsimp only
    go_wp2_with fail
    go_ret
    exact ⟨rfl, hB1⟩
  rcases Nat.lt_or_ge 40 lk with hl2 | hl2
  · have g1 : (ln : Int) ≤ 300 := by omega
    have g2 : (40 : Int) < (lk : Int) := by omega
    go_enter Tryd.func4, Tryd.ntmps4
    go_wp2_with fail
    refine (awake_any _ hK hI).mono ?_
    rintro e w1 ⟨rfl, hB1⟩
    dsimp only
    go_wp2_with fail
    go_ret
    exact ⟨rfl, hB1⟩
  have g1 : (ln : Int) ≤ 300 := by omega
  have g2 : (lk : Int) ≤ 40 := by omega
  have hmm := @run_makeMap Tryd.prog
  go_enter Tryd.func4, Tryd.ntmps4
  go_wp2_with fail
  refine (awake_any _ hK hI).mono ?_
  rintro e w1 ⟨rfl, hB1⟩
  dsimp only
  go_wp2_with fail
  have hM0 : Smp ((w1.alloc (.map #[] 0)).alloc (.cells #[.map (some w1.heap.size)] 38)) w1.heap.size 0 (fromJ known lk) := by
    rw [hD.count, fromJ_end]
    exact (Smp.made w1).below ((Below.refl _ _).alloc (Nat.le_refl _) _)
  have hX0 := Boxed.new (w1.alloc (.map #[] 0)) 38 (.map (some w1.heap.size))
  rw [World.size_alloc] at hX0
  have hW0 : Below w1.heap.size w1 ((w1.alloc (.map #[] 0)).alloc (.cells #[.map (some w1.heap.size)] 38)) := ((Below.refl _ w1).alloc (Nat.le_refl _) _).alloc (by simp) _
  have HNM := Lib.hid hnm
  have HKM := Lib.hid hkm
  have HB1 := Lib.hid hB1
  have HDc := Lib.hid hD.count
  clear hnm hkm hB1
  go_loopw [8] (fun i wr => ∃ j : Nat, j ≤ lk ∧ i = .int .i64 ((j : Int) - 1) ∧ Smp wr w1.heap.size (lk - j) (fromJ known j) ∧ Boxed wr (w1.heap.size + 1) 38 (.map (some w1.heap.size)) ∧ Below w1.heap.size w1 wr ∧ ∀ i, j ≤ i → i < lk → (known.getD i ByteArray.empty).size ≤ 100)
    (fun i _ => (intOf i + 1).toNat)
  case atStart => exact ⟨lk, Nat.le_refl _, rfl, by rw [Nat.sub_self]; exact hM0, hX0, hW0, fun i h1 h2 => by omega⟩
  case round =>
    obtain ⟨j, hj, rfl, hM, hX, hW, hsz⟩ := hrel
    clear hM0 hX0 hW0
    cases j with
    | zero =>
      rw [show ((0 : Nat) : Int) - 1 = -1 from rfl]
      have hBw := HB1.out.trans (hW.mono HB1.out.size)
      have hcn : names.length = ln := hN.count.symm
      have hlk2 : known.length = lk := hD.count.symm
      have hsk : ∀ x c, look known x = some c → c.size ≤ 1000000 := fun x c h => by
        obtain ⟨i, hi, e⟩ := List.getElem_of_mem (List.mem_of_find?_eq_some h)
        have := hsz i (Nat.zero_le _) (by omega)
        rw [List.getD, List.getElem?_eq_getElem hi] at this
        simp only [Option.getD_some] at this
        rw [← e]; omega
      have hsp := fill_spec names known n
      rw [hcn] at hsp
      have HF := Lib.hid (fill_any na ln cn names n wr 24 #[.pointer (some ⟨w1.heap.size + 1, 0, none⟩)] (look known) (hN.below hBw) (fun x W1 hx hW1 => look_any known wr w1.heap.size (w1.heap.size + 1) (lk - 0) hM hX x (Nat.le_trans hx (by unfold maxLen; omega)) W1 hW1) (enters_of Tryd.func24 (by kernel_rfl) rfl) hn hln (pick names known n.toNat) (fillR names known n) hsp
        (fun k hk h => by unfold pick; rw [if_pos (alike_nil h)]) (fun k hk h => by unfold pick; rw [alike_not h]; rfl) (fun k hk c h => hsk _ c h) (fun k hk => HNM.out k (by omega)))
      have HG := Lib.hid (fun w2 (h2 : Below wr.heap.size wr w2) => refFill_any na ka ln cn lk ck names known n w2 ((hN.below hBw).below h2) ((hD.below hBw).below h2) (by omega) (by omega) hn.2 (fun i hi => by have := hsz i (Nat.zero_le _) (by omega); omega))
      have HBw := Lib.hid hBw
      clear hM hX hW hsz hBw hsk hsp hcn hlk2
      generalize fillR names known n = R at HF HG
      go_wp2_with fail
      refine HF.out.mono ?_
      rintro e w2 ⟨rfl, hw2⟩
      have HW2 := Lib.hid hw2
      clear hw2
      dsimp only
      go_wp2_with fail
      refine (HG.out w2 HW2.out).mono ?_
      rintro e w3 ⟨rfl, hw3⟩
      have HW3 := Lib.hid (HBw.out.trans ((HW2.out.trans (hw3.mono HW2.out.size)).mono HBw.out.size))
      clear hw3
      dsimp only
      go_wp2_with fail
      go_ret
      exact ⟨rfl, HW3.out⟩
    | succ k =>
      rw [show (((k + 1 : Nat) : Int) - 1) = (k : Int) from by omega]
      obtain ⟨b, off, rfl, hc⟩ := (hD.below (HB1.out.trans (hW.mono HB1.out.size))).cell k (by omega)
      have HJ := Lib.hid (fromJ_step known (j := k) (by have := HDc.out; omega))
      have HS := Lib.hid hsz
      have HY := Lib.hid (show ∀ y, known.getD k ByteArray.empty = y → y.size ≤ 100 → ∀ i, k ≤ i → i < lk → (known.getD i ByteArray.empty).size ≤ 100 from fun y hy h i h1 h2 => by
        rcases Nat.eq_or_lt_of_le h1 with e | e
        · rw [← e, hy]; exact h
        · exact HS.out i (by omega) h2)
      have HKK := Lib.hid (HKM.out k (by have := HDc.out; omega))
      generalize hy : known.getD k ByteArray.empty = y at hc HJ HKK
      have HY2 := Lib.hid (HY.out y hy)
      have hki : (k : Int) < (lk : Int) := by omega
      have hk0 : (0 : Int) ≤ (k : Int) := by omega
      clear hsz HY hy HS
      rcases Nat.lt_or_ge 100 y.size with hy1 | hy1
      · have hy2 : (100 : Int) < (y.size : Int) := by omega
        have HW := Lib.hid hW
        clear hM hX hW
        go_wp2_with fail
        go_ret
        exact ⟨rfl, HB1.out.trans (HW.out.mono HB1.out.size)⟩
      · have hy2 : (y.size : Int) ≤ 100 := by omega
        have hcm := hX.cell
        have HM := Lib.hid hM
        have HX := Lib.hid hX
        have HW := Lib.hid hW
        clear hM hX hW
        have HN := Lib.hid (refName_any y wr.drew (by omega))
        have hcy : wr.cell? ⟨b, off + k, none⟩ = some (.string y) := hc
        have HNS := Lib.hid (nameOf_size y.data.toList)
        go_wp2_with fail
        have HP := Lib.hid (fun w2 (hw2 : Below wr.heap.size wr w2) => fills_step HM.out HX.out HW.out hcy hl2 (by omega) HJ.out hw2)
        go_region_held3 (fun W' => W'.cell? ⟨w1.heap.size + 1, 0, none⟩ = some (.map (some w1.heap.size)) ∧ W'.cell? ⟨b, off + k, none⟩ = some (.string y))
          (first | exact ⟨hcm, hcy⟩ | exact hs2 | exact hs3)
          (first
            | (go_at_call 22; (with_reducible refine HN.out.mono ?_); rintro e w2 ⟨rfl, hw2⟩; obtain ⟨w3, hst, hs2, hs3, hM3, hX3, hW3⟩ := HP.out w2 ((Below.refl wr.heap.size wr).drew.trans hw2); have HM3 := Lib.hid hM3; have HX3 := Lib.hid hX3; have HW3 := Lib.hid hW3; clear hM3 hX3 hW3 hw2; dsimp only))
        go_wp2_with fail
        go_roundw
        case rel => exact ⟨k, by omega, rfl, HM3.out, HX3.out, HW3.out, HY2.out hy1⟩
        case measure => simp [intOf]
end Go.Proofs.YtnapjloapgfcfaaDoor
