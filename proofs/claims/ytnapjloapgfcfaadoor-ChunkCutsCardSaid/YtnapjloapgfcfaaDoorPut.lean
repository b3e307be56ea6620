/- chunk.Put, Trunc, Get, Copy. -/
import Derived.Test.YtnapjloapgfcfaaDoorPutA
namespace Go.Proofs.YtnapjloapgfcfaaDoor
set_option maxRecDepth 100000
open Go.RowKit Sha
set_option maxHeartbeats 1000000 in
theorem trunc_any (s : ByteArray) (n : Int) (w : World) :
    Calls Tryd.prog 11 #[.string s, .int .i64 n] w (Both (truncR s.data.toList n) w) := by
  by_cases h1 : n < 0
  · have HR := Lib.hid (show truncR s.data.toList n = ([], 1) from by unfold truncR; rw [if_pos h1])
    go_enter Tryd.func11, Tryd.ntmps11
    go_wp2_with fail
    go_ret2
    show Both (truncR s.data.toList n) w _ _
    rw [HR.out]
    exact ⟨rfl, Below.refl _ _⟩
  · have h1' : 0 ≤ n := by omega
    by_cases h2 : 4096 < n
    · have HR := Lib.hid (show truncR s.data.toList n = ([], 3) from by unfold truncR; rw [if_neg h1, if_pos h2])
      go_enter Tryd.func11, Tryd.ntmps11
      go_wp2_with fail
      go_ret2
      show Both (truncR s.data.toList n) w _ _
      rw [HR.out]
      exact ⟨rfl, Below.refl _ _⟩
    · obtain ⟨m, rfl⟩ : ∃ m : Nat, n = (m : Int) := ⟨n.toNat, by omega⟩
      have h2' : (m : Int) ≤ 4096 := by omega
      have HR := Lib.hid (show truncR s.data.toList (m : Int) = (Chk.trunc s.data.toList m, 0) from by unfold truncR; rw [if_neg h1, if_neg h2]; rfl)
      have HX := Lib.hid (sized_any s m w (by omega))
      clear h1 h2
      go_enter Tryd.func11, Tryd.ntmps11
      go_wp2_with fail
      refine HX.out.mono ?_
      rintro e w1 ⟨g, hg, rfl, hf, hw⟩
      have hcv := hf.text m (by rw [Chk.trunc_length]) m
      have HW := Lib.hid hw
      clear hf hw
      generalize Chk.trunc s.data.toList m = l at hcv HR
      dsimp only
      go_wp2_with fail
      go_ret2
      show Both (truncR s.data.toList (m : Int)) w _ _
      rw [HR.out]
      exact ⟨rfl, HW.out⟩
set_option maxHeartbeats 2000000 in
theorem put_any (s : ByteArray) (off : Int) (d : ByteArray) (w : World) (hs : s.size ≤ 1000000) (hd : d.size ≤ 140737488355328) (ho : off ≤ 9223372036854775807) :
    Calls Tryd.prog 9 #[.string s, .int .i64 off, .string d] w (Both (putR s.data.toList off d.data.toList) w) := by
  have hdl : d.data.toList.length = d.size := Array.length_toList
  have hsl : s.data.toList.length = s.size := Array.length_toList
  have hdi : (d.size : Int) ≤ 140737488355328 := by omega
  by_cases h1 : off < 0
  · have HR := Lib.hid (show putR s.data.toList off d.data.toList = ([], 1) from by unfold putR; rw [if_pos h1])
    clear hdl hsl
    go_enter Tryd.func9, Tryd.ntmps9
    go_wp2_with fail
    go_ret2
    show Both (putR s.data.toList off d.data.toList) w _ _
    rw [HR.out]
    exact ⟨rfl, Below.refl _ _⟩
  · have h1' : 0 ≤ off := by omega
    by_cases h2 : 4096 < off + (d.size : Int)
    · have HR := Lib.hid (show putR s.data.toList off d.data.toList = ([], 3) from by unfold putR; rw [if_neg h1, if_pos (by rw [hdl]; exact h2)])
      have h2' : 4096 - (d.size : Int) < off := by omega
      clear hdl hsl h2
      go_enter Tryd.func9, Tryd.ntmps9
      go_wp2_with fail
      go_ret2
      show Both (putR s.data.toList off d.data.toList) w _ _
      rw [HR.out]
      exact ⟨rfl, Below.refl _ _⟩
    · have h2' : off ≤ 4096 - (d.size : Int) := by omega
      have HR := Lib.hid (show putR s.data.toList off d.data.toList = (Chk.put s.data.toList off.toNat d.data.toList, 0) from by unfold putR; rw [if_neg h1, if_neg (by rw [hdl]; exact h2)])
      by_cases h3 : d.size = 0
      · have hde : d.toList.isEmpty = true := str_isEmpty0 h3
        have HX := Lib.hid (clone_any s w (by omega))
        have HP := Lib.hid (show lstr (Chk.put s.data.toList off.toNat d.data.toList) = s from by rw [show d.data.toList = [] from by rw [str_empty h3], Chk.put_nil]; rfl)
        clear hdl hsl h2 h3
        go_enter Tryd.func9, Tryd.ntmps9
        go_wp2_with fail
        refine HX.out.mono ?_
        rintro e w1 ⟨rfl, hw⟩
        dsimp only
        go_wp2_with fail
        go_ret2
        show Both (putR s.data.toList off d.data.toList) w _ _
        rw [HR.out]
        refine ⟨?_, hw⟩
        show _ = Ending.returned (.tuple #[.string (lstr (Chk.put s.data.toList off.toNat d.data.toList)), .int .i64 0])
        rw [HP.out]
        rfl
      · obtain ⟨o, rfl⟩ : ∃ o : Nat, off = (o : Int) := ⟨off.toNat, by omega⟩
        rw [Int.toNat_natCast] at HR
        exact put_some s o d w hs (by omega) (by omega) HR
theorem get_text (s : ByteArray) (o n : Nat) (ho : o ≤ s.size) : (s.extract o s.size).extract 0 (min n (s.size - o)) = lstr (Chk.get s.data.toList o n) := by
  have hl : s.data.toList.length = s.size := Array.length_toList
  have h1 : s.extract o s.size = lstr (s.data.toList.drop o) := by
    have h := cut_text s o (s.size - o) (by omega)
    rw [show o + (s.size - o) = s.size from by omega] at h
    rw [h, List.take_of_length_le (by rw [List.length_drop, hl]; omega)]
  have h2 := cut_text (lstr (s.data.toList.drop o)) 0 (min n (s.size - o)) (by rw [lstr_size, List.length_drop, hl]; omega)
  rw [Nat.zero_add, lstr_data, List.drop_zero] at h2
  rw [h1, h2, Chk.get_take]
  congr 1
  by_cases hn : n ≤ s.size - o
  · rw [Nat.min_eq_left hn]
  · rw [Nat.min_eq_right (by omega), List.take_of_length_le (by rw [List.length_drop, hl]; omega), List.take_of_length_le (by rw [List.length_drop, hl]; omega)]
theorem get_over (s : List UInt8) (o n : Nat) (ho : s.length ≤ o) : Chk.get s o n = Chk.get s s.length n := by
  rw [Chk.get_take, Chk.get_take, List.drop_eq_nil_of_le ho, List.drop_eq_nil_of_le (Nat.le_refl _)]
set_option maxHeartbeats 2000000 in
theorem get_any (s : ByteArray) (off n : Int) (w : World) (hs : s.size ≤ 1000000) (ho : off ≤ 9223372036854775807) (hn : n ≤ 9223372036854775807) :
    Calls Tryd.prog 13 #[.string s, .int .i64 off, .int .i64 n] w (Both (getR s.data.toList off n) w) := by
  have hsi : (s.size : Int) ≤ 1000000 := by omega
  have hsl : s.data.toList.length = s.size := Array.length_toList
  by_cases h1 : off < 0 ∨ n < 0
  · have HR := Lib.hid (show getR s.data.toList off n = ([], 1) from by unfold getR; rw [if_pos h1])
    have key : ∀ e w', e = Ending.returned (.tuple #[.string ⟨#[]⟩, .int .i64 1]) ∧ w = w' → Both (getR s.data.toList off n) w e w' := by
      rintro e w' ⟨rfl, rfl⟩
      rw [HR.out]
      exact ⟨rfl, Below.refl _ _⟩
    refine Calls.mono ?_ key
    clear key hsl
    by_cases a1 : off < 0
    · go_enter Tryd.func13, Tryd.ntmps13
      go_wp2_with fail
      go_ret2
      exact ⟨rfl, rfl⟩
    · have a1' : 0 ≤ off := by omega
      have a2 : n < 0 := by omega
      clear h1
      go_enter Tryd.func13, Tryd.ntmps13
      go_wp2_with fail
      go_ret2
      exact ⟨rfl, rfl⟩
  · have h2 : 0 ≤ off := by omega
    have h3 : 0 ≤ n := by omega
    obtain ⟨o, rfl⟩ : ∃ o : Nat, off = (o : Int) := ⟨off.toNat, by omega⟩
    obtain ⟨m, rfl⟩ : ∃ m : Nat, n = (m : Int) := ⟨n.toNat, by omega⟩
    have HR := Lib.hid (show getR s.data.toList (o : Int) (m : Int) = (Chk.get s.data.toList o m, 0) from by unfold getR; rw [if_neg h1]; rfl)
    obtain ⟨p, hp⟩ : ∃ p, min o s.size = p := ⟨_, rfl⟩
    have hp1 : min (o : Int) (s.size : Int) = (p : Int) := by omega
    have hps : p ≤ s.size := by omega
    have hpsi : (p : Int) ≤ (s.size : Int) := by omega
    have hEq : Chk.get s.data.toList o m = Chk.get s.data.toList p m := by
      by_cases hos : o ≤ s.size
      · rw [show p = o from by omega]
      · rw [get_over _ o m (by rw [hsl]; omega), hsl, show s.size = p from by omega]
    have hT := get_text s p m hps
    rw [← hEq] at hT
    have hxs : (s.extract p s.size).size = s.size - p := by rw [ByteArray.size_extract]; omega
    obtain ⟨q, hq⟩ : ∃ q, min m (s.size - p) = q := ⟨_, rfl⟩
    have hq1 : min (m : Int) ((s.size - p : Nat) : Int) = (q : Int) := by omega
    have hq2 : (q : Int) ≤ ((s.size - p : Nat) : Int) := by omega
    rw [hq] at hT
    have HX := Lib.hid (clone_any (lstr (Chk.get s.data.toList o m)) w (by rw [lstr_size, Chk.get_length]; omega))
    have HT := Lib.hid hT
    clear h1 hsl hEq hp hq hT
    generalize Chk.get s.data.toList o m = l at HR HT HX
    go_enter Tryd.func13, Tryd.ntmps13
    go_wp2_with fail
    rw [HT.out]
    refine HX.out.mono ?_
    rintro e w1 ⟨rfl, hw⟩
    have HW := Lib.hid hw
    clear hw
    dsimp only
    go_wp2_with fail
    go_ret2
    show Both (getR s.data.toList (o : Int) (m : Int)) w _ _
    rw [HR.out]
    exact ⟨rfl, HW.out⟩
set_option maxHeartbeats 4000000 in
theorem copy_any (s : ByteArray) (off : Int) (src : ByteArray) (f n : Int) (w : World) (hs : s.size ≤ 1000000) (hd : src.size ≤ 140737488355328) (ho : off ≤ 9223372036854775807) (hf : f ≤ 9223372036854775807) (hn : n ≤ 9223372036854775807) :
    Calls Tryd.prog 15 #[.string s, .int .i64 off, .string src, .int .i64 f, .int .i64 n] w (Both (copyR s.data.toList off src.data.toList f n) w) := by
  have hdi : (src.size : Int) ≤ 140737488355328 := by omega
  have hdl : src.data.toList.length = src.size := Array.length_toList
  by_cases h1 : f < 0 ∨ n < 0 ∨ (src.size : Int) < f + n
  · have HR := Lib.hid (show copyR s.data.toList off src.data.toList f n = ([], 1) from by unfold copyR; rw [if_pos (by rw [hdl]; exact h1)])
    clear hdl
    have key : ∀ e w', e = Ending.returned (.tuple #[.string ⟨#[]⟩, .int .i64 1]) ∧ w = w' → Both (copyR s.data.toList off src.data.toList f n) w e w' := by
      rintro e w' ⟨rfl, rfl⟩
      rw [HR.out]
      exact ⟨rfl, Below.refl _ _⟩
    refine Calls.mono ?_ key
    clear key
    by_cases a1 : f < 0
    · go_enter Tryd.func15, Tryd.ntmps15
      go_wp2_with fail
      go_ret2
      exact ⟨rfl, rfl⟩
    · have a1' : 0 ≤ f := by omega
      by_cases a2 : n < 0
      · go_enter Tryd.func15, Tryd.ntmps15
        go_wp2_with fail
        go_ret2
        exact ⟨rfl, rfl⟩
      · have a2' : 0 ≤ n := by omega
        by_cases a3 : (src.size : Int) < f
        · clear h1
          go_enter Tryd.func15, Tryd.ntmps15
          go_wp2_with fail
          go_ret2
          exact ⟨rfl, rfl⟩
        · have a3' : f ≤ (src.size : Int) := by omega
          have a4 : (src.size : Int) - f < n := by omega
          clear h1
          go_enter Tryd.func15, Tryd.ntmps15
          go_wp2_with fail
          go_ret2
          exact ⟨rfl, rfl⟩
  · have hf0 : 0 ≤ f := by omega
    have hn0 : 0 ≤ n := by omega
    have hfn : f + n ≤ (src.size : Int) := by omega
    obtain ⟨a, rfl⟩ : ∃ a : Nat, f = (a : Int) := ⟨f.toNat, by omega⟩
    obtain ⟨m, rfl⟩ : ∃ m : Nat, n = (m : Int) := ⟨n.toNat, by omega⟩
    have HR := Lib.hid (show copyR s.data.toList off src.data.toList (a : Int) (m : Int) = putR s.data.toList off ((src.data.toList.drop a).take m) from by unfold copyR; rw [if_neg (by rw [hdl]; exact h1)]; rfl)
    have hcut := cut_text src a m (by omega)
    have HX := Lib.hid (put_any s off (lstr ((src.data.toList.drop a).take m)) w hs (by rw [lstr_size, List.length_take, List.length_drop, hdl]; omega) ho)
    rw [lstr_data] at HX
    have HC := Lib.hid hcut
    have h3 : (a : Int) ≤ (src.size : Int) := by omega
    have h4 : (m : Int) ≤ (src.size : Int) - (a : Int) := by omega
    have ht : ((a : Int) + (m : Int)).toNat = a + m := by omega
    clear h1 hdl hcut
    go_enter Tryd.func15, Tryd.ntmps15
    go_wp2_with fail
    rw [HC.out]
    refine HX.out.mono ?_
    rintro e w1 ⟨rfl, hw1⟩
    have HW := Lib.hid hw1
    clear hw1
    dsimp only
    go_wp2_with fail
    go_ret2
    show Both (copyR s.data.toList off src.data.toList (a : Int) (m : Int)) w _ _
    rw [HR.out]
    exact ⟨rfl, HW.out⟩
end Go.Proofs.YtnapjloapgfcfaaDoor
