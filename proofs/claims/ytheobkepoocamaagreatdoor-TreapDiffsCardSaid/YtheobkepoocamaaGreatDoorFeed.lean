/- A text fed. -/
import Derived.Test.YtheobkepoocamaaGreatDoorPress
import Derived.ScopeJumps
namespace Go.Proofs.YtheobkepoocamaaGreatDoor
set_option maxRecDepth 100000
open Go.RowKit Sha

def strLen : Value → Nat | .string s => s.size | _ => 0
theorem pc_over (ws : Nat → BitVec 32) (m : Nat → UInt8) (h n : Nat) (hl t : Int) (r : List UInt8) (hn : h + n ≤ 64) (hr : n ≤ r.length) :
    ((pc ws m hl t).toList.take (8 + h + 0) ++ (r.take n).map (fun b => bv b) ++ (pc ws m hl t).toList.drop (8 + h + 0 + ((r.take n).map (fun b => bv b)).length)).toArray = pc ws (over m h n r) hl t := by
  have hlen : ((r.take n).map (fun b => bv b)).length = n := by simp; omega
  have hz := pc_size ws m hl t
  have key : ∀ i : Nat, ((pc ws m hl t).toList.take (8 + h + 0) ++ (r.take n).map (fun b => bv b) ++ (pc ws m hl t).toList.drop (8 + h + 0 + ((r.take n).map (fun b => bv b)).length))[i]? = (pc ws (over m h n r) hl t)[i]? := by
    intro i
    rw [hlen, Nat.add_zero]
    have hT : ((pc ws m hl t).toList.take (8 + h)).length = 8 + h := by rw [List.length_take, Array.length_toList, hz]; omega
    by_cases h1 : i < 8
    · rw [List.append_assoc, List.getElem?_append_left (by omega), List.getElem?_take, if_pos (by omega), Array.getElem?_toList, pc_word _ _ _ _ i h1, pc_word _ _ _ _ i h1]
    · by_cases h2 : i < 72
      · obtain ⟨j, rfl⟩ : ∃ j, i = 8 + j := ⟨i - 8, by omega⟩
        rw [pc_byte _ _ _ _ j (by omega)]
        unfold over
        by_cases h3 : j < h
        · rw [List.append_assoc, List.getElem?_append_left (by omega), List.getElem?_take, if_pos (by omega), Array.getElem?_toList, pc_byte _ _ _ _ j (by omega), if_neg (by omega)]
        · by_cases h4 : j < h + n
          · rw [List.getElem?_append_left (by rw [List.length_append, hT, hlen]; omega), List.getElem?_append_right (by omega), hT, if_pos ⟨by omega, h4⟩, show 8 + j - (8 + h) = j - h by omega]
            rw [List.getElem?_map, List.getElem?_take, if_pos (by omega), List.getElem?_eq_getElem (by omega)]
            simp [List.getD, List.getElem?_eq_getElem (show j - h < r.length by omega)]
          · rw [List.getElem?_append_right (by rw [List.length_append, hT, hlen]; omega), List.length_append, hT, hlen, List.getElem?_drop, Array.getElem?_toList, show 8 + h + n + (8 + j - (8 + h + n)) = 8 + j by omega, pc_byte _ _ _ _ j (by omega), if_neg (by omega)]
      · rw [List.getElem?_append_right (by rw [List.length_append, hT, hlen]; omega), List.length_append, hT, hlen, List.getElem?_drop, Array.getElem?_toList, show 8 + h + n + (i - (8 + h + n)) = i by omega]
        by_cases h5 : i < 74
        · obtain rfl | rfl : i = 72 ∨ i = 73 := by omega
          · rfl
          · rfl
        · rw [Array.getElem?_eq_none (by rw [pc_size]; omega), Array.getElem?_eq_none (by rw [pc_size]; omega)]
  apply Array.ext'
  apply List.ext_getElem?
  intro i
  rw [List.toList_toArray, key i, Array.getElem?_toList]

theorem run_copy_gen {P : Program} (w : World) (dT sT ty elem : TypeId) (hu : P.underlying dT = some (.slice elem)) (hz : (sizeOf elem).run P w = .ok 1 w) (base : Option Addr) (dLen dCap : Nat) (r : ByteArray) (n : Nat) (hn : Nat.min r.size dLen = n) (a : Addr) (w2 : World) (hb : base = some a)
    (hst : (storeCells a ((r.data.toList.map fun b => (Value.int .u8 (b.toNat : Int))).take n)).run P w = .ok () w2) :
    (Builtin.copy_ #[dT, sT] ty #[.slice base dLen dCap, .string r]).run P w = .ok (goInt n) w2 := by
  subst hb
  simp [Builtin.copy_, run_underlying hu, Builtin.lenOf, Builtin.firstCells, hz, hn, hst]

theorem run_copy_str (w : World) (b h n : Nat) (r : ByteArray) (ws : Nat → BitVec 32) (m : Nat → UInt8) (hl t : Int) (ty : TypeId) (hh : h < 64) (hn : n = min r.size (64 - h)) (hp : w.heap[b]? = some (.cells (pc ws m hl t) 123 (0, 0))) :
    (Builtin.copy_ #[86, 9] ty #[.slice (some ⟨b, 8 + h, none⟩) (64 - h) (64 - h), .string r]).run Tryz.prog w =
      .ok (goInt n) (w.setRow b (pc ws (over m h n r.data.toList) hl t)) := by
  have hrs : r.data.toList.length = r.size := by rw [Array.length_toList]; rfl
  have hst := run_storeCells_at Tryz.prog b (8 + h) 123 ((r.data.toList.take n).map (fun b => bv b)) 0 _ w hp (by rw [pc_size, List.length_map, List.length_take]; omega) (by intro v hv; obtain ⟨x, _, rfl⟩ := List.mem_map.1 hv; rfl)
  rw [pc_over ws m h n hl t r.data.toList (by omega) (by omega)] at hst
  have hz : (sizeOf 5).run Tryz.prog w = .ok 1 w := by kernel_rfl
  have hmin : Nat.min r.size (64 - h) = n := hn.symm
  exact run_copy_gen w 86 9 ty 5 Tryz.underlying86 hz (some ⟨b, 8 + h, none⟩) (64 - h) (64 - h) r n hmin _ _ rfl (by rw [← List.map_take]; exact hst)

theorem scope_jumps2 {P : Program} {a : Act} {w : World} {Q : Exit → Act → World → Prop} {c rest : Code} (l : Nat) (J : Act → World → Prop) (μ : Act → World → Nat) (hf : findLabel c l = some (Code.skip.seq rest))
    (pass : ∀ a w, J a w → rest.wp P (Exit.jump l (fun a' w' => J a' w' ∧ μ a' w' < μ a w) Q) a w)
    (first : (∀ a w, J a w → rest.wp P (Exit.jump l J Q) a w) → c.wp P (Exit.jump l J Q) a w) : (Code.scope c).wp P Q a w :=
  wp_scope_jumps l J μ hf (first fun a w hj => Code.wp_mono (fun e a w h => by cases e <;> first | exact h | exact ⟨h.1, h.2.1⟩) (pass a w hj))
    (fun a w hj => wp_seq (wp_skip (pass a w hj)))

structure FeedW (b : Nat) (Z : List UInt8) (T : Int) (w : World) (r : ByteArray) (wr : World) : Prop where
  ex : ∃ (F : List UInt8) (s : St) (m : Nat → UInt8) (h : Nat), F ++ r.data.toList = Z ∧ Holds F s m h ∧ wr.heap[b]? = some (.cells (pc s.get m h T) 123 (0, 0))
  only : OnlyB b w wr

/-- A press that has been fed S. -/
def Fed (b : Nat) (S : List UInt8) (w : World) : Prop := ∃ (s : St) (m : Nat → UInt8) (h : Nat), Holds S s m h ∧ w.heap[b]? = some (.cells (pc s.get m h S.length) 123 (0, 0))

theorem FeedW.start {b : Nat} {S : List UInt8} {x : ByteArray} {s : St} {m : Nat → UInt8} {h : Nat} {w : World} (hh : Holds S s m h) (hp : w.heap[b]? = some (.cells (pc s.get m h S.length) 123 (0, 0))) :
    FeedW b (S ++ x.data.toList) ((S.length + x.size : Nat) : Int) w x (w.setCell ⟨b, 73, none⟩ (.int .u64 ((S.length : Int) + (x.size : Int)))) := by
  refine ⟨⟨S, s, m, h, rfl, hh, ?_⟩, (OnlyB.refl b w).setCell (p := ⟨b, 73, none⟩) (.inl rfl) _⟩
  rw [heap_setCell_same w b 73 _ _ _ hp, pc_setTotal, Int.natCast_add]

theorem cut_tail (r : ByteArray) (n : Nat) : (r.extract n r.size).data.toList = r.data.toList.drop n := by
  rw [ByteArray.data_extract, Array.toList_extract, List.extract_eq_take_drop, List.take_of_length_le]
  rw [List.length_drop, Array.length_toList]; exact Nat.le_refl _
theorem fed_over (wr : World) (b : Nat) (ws : Nat → BitVec 32) (m m' : Nat → UInt8) (h t : Int) (w : World) (hp : wr.heap[b]? = some (.cells (pc ws m h t) 123 (0, 0))) (ho : OnlyB b w wr) :
    (wr.drew.setRow b (pc ws m' h t)).heap[b]? = some (.cells (pc ws m' h t) 123 (0, 0)) ∧ OnlyB b w (wr.drew.setRow b (pc ws m' h t)) :=
  ⟨setRow_heap wr.drew b _ _ _ _ hp, (ho.drewN 1).setRow (.inl rfl) _⟩

set_option maxRecDepth 100000 in
set_option maxHeartbeats 2000000 in
theorem feed_any (b : Nat) (S : List UInt8) (x : ByteArray) (w : World) (hb1 : b ≠ 2) (hp : Fed b S w) (hsz : S.length + x.size ≤ 1099511627776)
    (hK : ∀ j, j < 64 → w.cell? ⟨2, j, none⟩ = some (wv (kAt j))) :
    Calls Tryz.prog 81 #[.pointer (some ⟨b, 0, none⟩), .string x] w fun e w' => e = .returned (.tuple #[]) ∧ OnlyB b w w' ∧ Fed b (S ++ x.data.toList) w' := by
  obtain ⟨s, m, h, hh, hp⟩ := hp
  have ht := (cell_of_row w b 73 _ _ _ hp).trans (pc_total _ _ _ _)
  have hf := frozen_of_row w b 73 _ _ hp
  have HK := Lib.hid hK
  clear hK
  have hs0 : 0 ≤ (x.size : Int) := by omega
  have hs1 : (S.length : Int) + (x.size : Int) ≤ 1099511627776 := by omega
  go_enter Tryz.func81, Tryz.ntmps81
  go_wp2
  refine scope_jumps2 0 (fun a' wr => ∃ (r : ByteArray) (v4 v5 v6 v7 v8 v9 v10 v11 v12 v13 v14 v15 v16 v17 v18 v19 v20 v21 v22 v23 v24 v25 v26 v27 v28 v29 v30 v31 v32 v33 v34 v35 v36 v37 v38 v39 v40 v41 v42 v43 v44 v45 : Value), a' = { tmps := #[.pointer (some ⟨b, 0, none⟩), .string r, undef, undef, v4, v5, v6, v7, v8, v9, v10, v11, v12, v13, v14, v15, v16, v17, v18, v19, v20, v21, v22, v23, v24, v25, v26, v27, v28, v29, v30, v31, v32, v33, v34, v35, v36, v37, v38, v39, v40, v41, v42, v43, v44, v45], defers := [] } ∧ FeedW b (S ++ x.data.toList) ((S.length + x.size : Nat) : Int) w r wr) (fun a' _ => strLen (a'.tmps.getD 1 undef)) rfl ?_ ?_
  · rintro a' wr ⟨r, v4, v5, v6, v7, v8, v9, v10, v11, v12, v13, v14, v15, v16, v17, v18, v19, v20, v21, v22, v23, v24, v25, v26, v27, v28, v29, v30, v31, v32, v33, v34, v35, v36, v37, v38, v39, v40, v41, v42, v43, v44, v45, rfl, hr⟩
    obtain ⟨⟨F, s1, m1, h1, hF, hH, hp1⟩, ho⟩ := hr
    have hh1 : h1 < 64 := by have := hH.place; omega
    have c2 := (cell_of_row wr b 72 _ _ _ hp1).trans (pc_held _ _ _ _)
    have f2 := frozen_of_row wr b 72 _ _ hp1
    have hs := fun W : World => run_blockSlice W b 8 (h1 : Int) h1 rfl hh1
    by_cases hc : 64 - h1 ≤ r.size
    · have hcp := run_copy_str wr.drew b h1 (64 - h1) r s1.get m1 h1 ((S.length + x.size : Nat) : Int) 3 hh1 (by omega) hp1
      have hw2 := fed_over wr b s1.get m1 (over m1 h1 (64 - h1) r.data.toList) h1 ((S.length + x.size : Nat) : Int) w hp1 ho
      generalize World.setRow _ _ _ = w2 at hcp hw2
      obtain ⟨hp2, ho2⟩ := hw2
      have c2' := (cell_of_row w2 b 72 _ _ _ hp2).trans (pc_held _ _ _ _)
      have f2' := frozen_of_row w2 b 72 _ _ hp2
      have hfull := fun m' => hH.full r.data.toList m' (by rw [Array.length_toList]; exact hc)
      have hdone : ∀ n, (F ++ r.data.toList.take n) ++ (r.extract n r.size).data.toList = S ++ x.data.toList := by
        intro n
        rw [← hF, List.append_assoc, cut_tail, List.take_append_drop]
      have hmeas : 0 < 64 - h1 := by omega
      have HF := Lib.hid hfull
      have HD := Lib.hid hdone
      have hq : ((h1 : Int) + ((64 - h1 : Nat) : Int) == 64) = true := by rw [beq_iff_eq]; omega
      have hge : ((64 - h1 : Nat) : Int) ≤ (r.size : Int) := by omega
      have h1le : (h1 : Int) + ((64 - h1 : Nat) : Int) ≤ 64 := by omega
      have hrange : 0 < r.size := by omega
      clear hfull hdone hF hH ho hc
      generalize 64 - h1 = n at *
      have hg1 : (0 : Int) ≤ (h1 : Int) := by omega
      have hg2 : (h1 : Int) < 64 := by omega
      have hp3 : (w2.setCell ⟨b, 72, none⟩ (.int .i64 ((h1 : Int) + (n : Int)))).heap[b]? = some (.cells (pc s1.get (over m1 h1 n r.data.toList) ((h1 : Int) + (n : Int)) ((S.length + x.size : Nat) : Int)) 123 (0, 0)) := by
        rw [heap_setCell_same w2 b 72 _ _ _ hp2, pc_setHeld]
      have ho3 : OnlyB b w (w2.setCell ⟨b, 72, none⟩ (.int .i64 ((h1 : Int) + (n : Int)))) := ho2.setCell (p := ⟨b, 72, none⟩) (.inl rfl) _
      have HP := Lib.hid (pressBlock_any b s1 (over m1 h1 n r.data.toList) _ _ _ hb1 hp3 (fun j hj => (ho3.cell ⟨2, j, none⟩ (lt_of_K HK.out) hb1.symm).trans (HK.out j hj)))
      have HO := Lib.hid ho3
      clear hp3 ho3 ho2 hp2
      go_wp2
      go_still_tail 9, (by kernel_rfl)
      change wpList _ _ _ _ _ wr.drew
      go_wp2_with (go_at_call 88; refine HP.out.mono ?_; rintro e w4 ⟨rfl, ho4, hp4⟩; have c4 := (cell_of_row w4 b 72 _ _ _ hp4).trans (pc_held _ _ _ _); have f4 := frozen_of_row w4 b 72 _ _ hp4)
      go_step3
      refine ⟨rfl, ⟨r.extract n r.size, _, _, _, _, _, _, _, _, _, _, _, _, _, _, _, _, _, _, _, _, _, _, _, _, _, _, _, _, _, _, _, _, _, _, _, _, _, _, _, _, _, _, rfl, ⟨⟨F ++ r.data.toList.take n, _, over m1 h1 n r.data.toList, 0, HD.out n, HF.out _, ?_⟩, (HO.out.trans ho4).setCell (p := ⟨b, 72, none⟩) (.inl rfl) _⟩⟩, ?_⟩
      · rw [heap_setCell_same w4 b 72 _ _ _ hp4, pc_setHeld]; rfl
      · simp [strLen]; omega
    · have hcp := run_copy_str wr.drew b h1 r.size r s1.get m1 h1 ((S.length + x.size : Nat) : Int) 3 hh1 (by omega) hp1
      have hw2 := fed_over wr b s1.get m1 (over m1 h1 r.size r.data.toList) h1 ((S.length + x.size : Nat) : Int) w hp1 ho
      generalize World.setRow _ _ _ = w2 at hcp hw2
      obtain ⟨hp2, ho2⟩ := hw2
      have c2' := (cell_of_row w2 b 72 _ _ _ hp2).trans (pc_held _ _ _ _)
      have f2' := frozen_of_row w2 b 72 _ _ hp2
      have hless := Lib.hid (hH.less r.data.toList (by rw [Array.length_toList]; show h1 + r.size < 64; omega))
      have HF := Lib.hid hF
      have HP2 := Lib.hid hp2
      have hq : (h1 : Int) + (r.size : Int) < 64 := by omega
      have hg1 : (0 : Int) ≤ (h1 : Int) := by omega
      have hg2 : (h1 : Int) < 64 := by omega
      clear hF hH ho hc hp2
      go_wp2
      go_still_tail 9, (by kernel_rfl)
      change wpList _ _ _ _ _ wr.drew
      go_wp2
      simp only [Exit.jump]
      go_end0
      refine ⟨rfl, ho2.setCell (p := ⟨b, 72, none⟩) (.inl rfl) _, s1, over m1 h1 r.size r.data.toList, h1 + r.size, ?_, ?_⟩
      · rw [← HF.out]; exact hless.out
      · rw [heap_setCell_same w2 b 72 _ _ _ HP2.out, pc_setHeld, List.length_append, Array.length_toList, Int.natCast_add]; rfl
  · intro hpass
    go_wp2
    go_step3
    rename_i Kf hKf
    exact hKf _ _ (hpass _ _ ⟨x, _, _, _, _, _, _, _, _, _, _, _, _, _, _, _, _, _, _, _, _, _, _, _, _, _, _, _, _, _, _, _, _, _, _, _, _, _, _, _, _, _, _, rfl, FeedW.start hh hp⟩)
end Go.Proofs.YtheobkepoocamaaGreatDoor
