/- ChunkTells, walked. -/
import Derived.Test.YtnapjloapgfcfaaDoorAwake
import Derived.Test.YtnapjloapgfcfaaDoorTexts
import Derived.Test.YtnapjloapgfcfaaDoorRefNames
namespace Go.Proofs.YtnapjloapgfcfaaDoor
set_option maxRecDepth 100000
open Go.RowKit Sha

theorem rowsAlike_refl (l : List ByteArray) : rowsAlike l l = true := by unfold rowsAlike; simp
def Yes (w : World) (e : Ending) (w' : World) : Prop := e = .returned (.bool true) ∧ Below w.heap.size w w'
set_option maxHeartbeats 4000000 in
theorem tells_any (s : ByteArray) (off : Int) (d : ByteArray) (f n : Int) (w : World) (hK : KOk w) (hI : IOk w) (hs0 : s.size ≤ 140737488355328) (hd0 : d.size ≤ 140737488355328) (ho : -9223372036854775808 ≤ off ∧ off ≤ 9223372036854775807) (hf : -9223372036854775808 ≤ f ∧ f ≤ 9223372036854775807) (hn : -9223372036854775808 ≤ n ∧ n ≤ 9223372036854775807) :
    Calls Tryd.prog 3 #[.string s, .int .i64 off, .string d, .int .i64 f, .int .i64 n] w (Yes w) := by
  have hsi : (s.size : Int) ≤ 140737488355328 := by omega
  have hdi : (d.size : Int) ≤ 140737488355328 := by omega
  rcases Nat.lt_or_ge 4096 s.size with hs | hs
  · have g1 : (4096 : Int) < (s.size : Int) := by omega
    go_enter Tryd.func3, Tryd.ntmps3
    go_wp2_with fail
    refine (awake_any _ hK hI).mono ?_
    rintro e w1 ⟨rfl, hB1⟩
    dsimp only
    go_wp2_with fail
    go_ret
    exact ⟨rfl, hB1⟩
  rcases Nat.lt_or_ge 5000 d.size with hd | hd
  · have g1 : (s.size : Int) ≤ 4096 := by omega
    have g2 : (5000 : Int) < (d.size : Int) := by omega
    go_enter Tryd.func3, Tryd.ntmps3
    go_wp2_with fail
    refine (awake_any _ hK hI).mono ?_
    rintro e w1 ⟨rfl, hB1⟩
    dsimp only
    go_wp2_with fail
    go_ret
    exact ⟨rfl, hB1⟩
  have g1 : (s.size : Int) ≤ 4096 := by omega
  have g2 : (d.size : Int) ≤ 5000 := by omega
  go_enter Tryd.func3, Tryd.ntmps3
  go_wp2_with fail
  refine (awake_any _ hK hI).mono ?_
  rintro e w1 ⟨rfl, hB1⟩
  dsimp only
  go_wp2_with fail
  refine (put_any s off d _ (by omega) (by omega) ho.2).mono ?_
  rintro e w2 ⟨rfl, hB2⟩
  have hB2 := hB1.trans (hB2.mono hB1.size)
  clear hB1
  dsimp only
  go_wp2_with fail
  refine (refPut_any s off d _ (by omega) (by omega) ho.2).mono ?_
  rintro e w3 ⟨rfl, hB3⟩
  have hB3 := hB2.trans (hB3.mono hB2.size)
  clear hB2
  generalize putR s.data.toList off d.data.toList = r0
  dsimp only
  go_wp2_with fail
  refine (trunc_any s off _).mono ?_
  rintro e w4 ⟨rfl, hB4⟩
  have hB4 := hB3.trans (hB4.mono hB3.size)
  clear hB3
  dsimp only
  go_wp2_with fail
  refine (refTrunc_any s off _ (by omega)).mono ?_
  rintro e w5 ⟨rfl, hB5⟩
  have hB5 := hB4.trans (hB5.mono hB4.size)
  clear hB4
  generalize truncR s.data.toList off = r1
  dsimp only
  go_wp2_with fail
  refine (get_any s off n _ (by omega) ho.2 hn.2).mono ?_
  rintro e w6 ⟨rfl, hB6⟩
  have hB6 := hB5.trans (hB6.mono hB5.size)
  clear hB5
  dsimp only
  go_wp2_with fail
  refine (refGet_any s off n _ (by omega) ho.2 hn.2).mono ?_
  rintro e w7 ⟨rfl, hB7⟩
  have hB7 := hB6.trans (hB7.mono hB6.size)
  clear hB6
  generalize getR s.data.toList off n = r2
  dsimp only
  go_wp2_with fail
  refine (copy_any s off d f n _ (by omega) (by omega) ho.2 hf.2 hn.2).mono ?_
  rintro e w8 ⟨rfl, hB8⟩
  have hB8 := hB7.trans (hB8.mono hB7.size)
  clear hB7
  dsimp only
  go_wp2_with fail
  refine (refCopy_any s off d f n _ (by omega) (by omega) ho.2 hf.2 hn.2).mono ?_
  rintro e w9 ⟨rfl, hB9⟩
  have hB9 := hB8.trans (hB9.mono hB8.size)
  clear hB8
  generalize copyR s.data.toList off d.data.toList f n = r3
  dsimp only
  go_wp2_with fail
  obtain ⟨ls1, hls1⟩ : ∃ ls, ls = Chk.cut s.data.toList := ⟨_, rfl⟩
  obtain ⟨ls2, hls2⟩ : ∃ ls, ls = (Chk.cut s.data.toList).map nameOf := ⟨_, rfl⟩
  have HLE1 := Lib.hid (show ls1.length ≤ 140737488355328 from by rw [hls1]; (rw [Chk.cut_length]; have : s.data.toList.length = s.size := Array.length_toList; omega))
  have HLE2 := Lib.hid (show ls2.length ≤ 140737488355328 from by rw [hls2]; ( rw [List.length_map, Chk.cut_length]; have : s.data.toList.length = s.size := Array.length_toList; omega))
  have HLS1 := Lib.hid hls1
  have HLS2 := Lib.hid hls2
  clear hls1 hls2
  refine (cut_in s _ (by omega)).mono ?_
  rintro e w10 ⟨ax1, cx1, rfl, hTx1, hX⟩
  rw [← HLS1.out] at hTx1 ⊢
  have hB10 := hB9.trans (hX.mono hB9.size)
  have HSx1 := Lib.hid (trow_strs hTx1 rfl)
  have HXx1 := Lib.hid hX
  clear hTx1 hX hB9
  dsimp only
  go_wp2_with fail
  refine (refCut_any s _ (by omega)).mono ?_
  rintro e w11 ⟨ay1, cy1, rfl, hTy1, hX⟩
  rw [← HLS1.out] at hTy1 ⊢
  have hB11 := hB10.trans (hX.mono hB10.size)
  have HSy1 := Lib.hid (trow_strs hTy1 rfl)
  have HXy1 := Lib.hid hX
  clear hTy1 hX hB10
  dsimp only
  go_wp2_with fail
  refine (texts_any ax1 ay1 _ _ _ _ _ _ _ (HSx1.out.below HXy1.out) HSy1.out HLE1.out HLE1.out).mono ?_
  rintro e w12 ⟨rfl, nq1, rfl⟩
  have hB12 := hB11.trans (show Below w.heap.size w11 (w11.drewN nq1) from ⟨rfl, rfl, rfl, Nat.le_refl _, fun _ _ => rfl⟩)
  generalize w11.drewN nq1 = w12 at hB12 ⊢
  clear hB11 HXx1 HXy1 HSx1 HSy1
  rw [rowsAlike_refl]
  dsimp only
  go_wp2_with fail
  refine (names_in s _ (hK.below hB12) (hI.below hB12) (by omega)).mono ?_
  rintro e w13 ⟨ax2, cx2, rfl, hTx2, hX⟩
  rw [← HLS2.out] at hTx2 ⊢
  have hB13 := hB12.trans (hX.mono hB12.size)
  have HSx2 := Lib.hid (trow_strs hTx2 rfl)
  have HXx2 := Lib.hid hX
  clear hTx2 hX hB12
  dsimp only
  go_wp2_with fail
  refine (refNames_any s _ (by omega)).mono ?_
  rintro e w14 ⟨ay2, cy2, rfl, hTy2, hX⟩
  rw [← HLS2.out] at hTy2 ⊢
  have hB14 := hB13.trans (hX.mono hB13.size)
  have HSy2 := Lib.hid (trow_strs hTy2 rfl)
  have HXy2 := Lib.hid hX
  clear hTy2 hX hB13
  dsimp only
  go_wp2_with fail
  refine (texts_any ax2 ay2 _ _ _ _ _ _ _ (HSx2.out.below HXy2.out) HSy2.out HLE2.out HLE2.out).mono ?_
  rintro e w15 ⟨rfl, nq2, rfl⟩
  have hB15 := hB14.trans (show Below w.heap.size w14 (w14.drewN nq2) from ⟨rfl, rfl, rfl, Nat.le_refl _, fun _ _ => rfl⟩)
  generalize w14.drewN nq2 = w15 at hB15 ⊢
  clear hB14 HXx2 HXy2 HSx2 HSy2
  rw [rowsAlike_refl]
  dsimp only
  go_wp2_with fail
  go_ret
  exact ⟨rfl, hB15⟩
end Go.Proofs.YtnapjloapgfcfaaDoor
