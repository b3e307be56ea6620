/- ChunkCuts, walked. -/
import Derived.Test.YtnapjloapgfcfaaDoorPuts
namespace Go.Proofs.YtnapjloapgfcfaaDoor
set_option maxRecDepth 100000
open Go.RowKit Sha
/-- What was cut off, as a text. -/
structure Cutted (s : ByteArray) (m : Nat) (z : ByteArray) : Prop where
  size : z.size = m
  same : ∀ k (hz : k < z.size) (hs : k < s.size), z[k].toNat = s[k].toNat
  zero : ∀ k (hz : k < z.size), s.size ≤ k → z[k].toNat = 0
theorem cutted (s : ByteArray) (m : Nat) : Cutted s m (lstr (Chk.trunc s.data.toList m)) := by
  have hsl : s.data.toList.length = s.size := Array.length_toList
  refine ⟨by rw [lstr_size, Chk.trunc_length], fun k hz hs => ?_, fun k hz hs => ?_⟩
  · have hk := hz
    rw [lstr_size, Chk.trunc_length] at hk
    rw [text_at hz, Chk.trunc_b hk, b_at s hs]
  · have hk := hz
    rw [lstr_size, Chk.trunc_length] at hk
    rw [text_at hz, Chk.trunc_b hk, Chk.b_over (by rw [hsl]; exact hs)]; rfl
theorem copied (s : ByteArray) (w : World) (hs : s.size ≤ 4096) : Calls Tryd.prog 15 #[.string ⟨#[]⟩, .int .i64 0, .string s, .int .i64 0, .int .i64 (s.size : Int)] w fun e w2 => e = .returned (.tuple #[.string s, .int .i64 0]) ∧ Below w.heap.size w w2 := by
  have hsl : s.data.toList.length = s.size := Array.length_toList
  refine (copy_any ⟨#[]⟩ 0 s 0 (s.size : Int) w (by decide) (by omega) (by decide) (by decide) (by omega)).mono fun e w2 h => both_is (r' := (s.data.toList, 0)) h ?_
  unfold copyR
  rw [if_neg (by rw [hsl]; omega), Int.toNat_natCast, show (0 : Int).toNat = 0 from rfl, List.drop_zero, List.take_of_length_le (by rw [hsl]; omega)]
  unfold putR
  rw [if_neg (by decide), if_neg (by rw [hsl]; omega)]
  have h0 : Chk.put (⟨#[]⟩ : ByteArray).data.toList (0 : Int).toNat s.data.toList = s.data.toList := by
    by_cases he : s.data.toList = []
    · rw [he, Chk.put_nil]
    · rw [Chk.put_is he]
      refine (Chk.rule_is (by show _ = max 0 (0 + s.data.toList.length); omega) fun i hi => ?_).symm
      have hi2 : i < max 0 (0 + s.data.toList.length) := hi
      rw [if_pos ⟨Nat.zero_le _, by show i < 0 + _; omega⟩]; rfl
  rw [h0]
/-- What was got, as a text. -/
structure Got (s : ByteArray) (o n : Nat) (g : ByteArray) : Prop where
  over : s.size ≤ o → g.size = 0
  size : o < s.size → (g.size : Int) = min (n : Int) ((s.size : Int) - (o : Int))
  text : o < s.size → s.extract o (o + g.size) = g
theorem got (s : ByteArray) (o n : Nat) : Got s o n (lstr (Chk.get s.data.toList o n)) := by
  have hsl : s.data.toList.length = s.size := Array.length_toList
  have hl : (lstr (Chk.get s.data.toList o n)).size = min n (s.size - o) := by rw [lstr_size, Chk.get_length, hsl]
  refine ⟨fun h => by rw [hl]; omega, fun h => by rw [hl]; omega, fun h => ?_⟩
  rw [hl, cut_text s o _ (by omega), Chk.get_take]
  congr 1
  by_cases hn : n ≤ s.size - o
  · rw [Nat.min_eq_left hn]
  · rw [Nat.min_eq_right (by omega), List.take_of_length_le (by rw [List.length_drop, hsl]; omega), List.take_of_length_le (by rw [List.length_drop, hsl]; omega)]
set_option maxHeartbeats 4000000 in
theorem cuts_ok (s : ByteArray) (m o n : Nat) (w : World) (hK : KOk w) (hI : IOk w) (hs : s.size ≤ 4096) (hm : m ≤ 4096) (ho : (o : Int) ≤ 9223372036854775807) (hn : (n : Int) ≤ 9223372036854775807) : Calls Tryd.prog 7 #[.string s, .int .i64 (m : Int), .int .i64 (o : Int), .int .i64 (n : Int)] w (Yes w) := by
  have g1 : (s.size : Int) ≤ 4096 := by omega
  have g2 : (m : Int) ≤ 4096 := by omega
  have g3 : (0 : Int) ≤ (m : Int) := by omega
  have g4 : (0 : Int) ≤ (o : Int) := by omega
  have g5 : (0 : Int) ≤ (n : Int) := by omega
  have HZ := Lib.hid (cutted s m)
  have HG := Lib.hid (got s o n)
  have HT := Lib.hid (fun w' => (trunc_any s (m : Int) w').mono fun e w2 h => both_is (r' := (Chk.trunc s.data.toList m, 0)) h (by
    unfold truncR
    rw [if_neg (by omega), if_neg (by omega), Int.toNat_natCast]))
  have HP := Lib.hid (fun w' => (get_any s (o : Int) (n : Int) w' (by omega) ho hn).mono fun e w2 h => both_is (r' := (Chk.get s.data.toList o n, 0)) h (by
    unfold getR
    rw [if_neg (by omega), Int.toNat_natCast, Int.toNat_natCast]))
  have HC := Lib.hid (fun w' => copied s w' hs)
  unfold Both at HT HP
  dsimp only at HT HP
  generalize lstr (Chk.trunc s.data.toList m) = z at HZ HT
  generalize lstr (Chk.get s.data.toList o n) = g at HG HP
  have hzs : (z.size : Int) = (m : Int) := by rw [HZ.out.size]
  have hzb : ((z.size : Int) != (m : Int)) = false := by rw [hzs]; simp
  have hss : (s.toList == s.toList) = true := by simp
  clear hs hm
  go_enter Tryd.func7, Tryd.ntmps7
  go_wp2_with fail
  refine (awake_any _ hK hI).mono ?_
  rintro e w1 ⟨rfl, hB1⟩
  dsimp only
  go_wp2_with fail
  refine (HT.out _).mono ?_
  rintro e w2 ⟨rfl, hB2⟩
  have hB2 := hB1.trans (hB2.mono hB1.size)
  clear hB1
  dsimp only
  go_wp2_with fail
  refine (HP.out _).mono ?_
  rintro e w3 ⟨rfl, hB3⟩
  have hB3 := hB2.trans (hB3.mono hB2.size)
  clear hB2
  dsimp only
  go_wp2_with fail
  refine (HC.out _).mono ?_
  rintro e w4 ⟨rfl, hB4⟩
  have hB4 := hB3.trans (hB4.mono hB3.size)
  clear hB3
  dsimp only
  go_wp2_with fail
  go_loopw [15] (fun i wr => ∃ k : Nat, k ≤ m ∧ i = .int .i64 (k : Int) ∧ Below w.heap.size w wr) (fun i _ => m - (intOf i).toNat)
  case atStart => exact ⟨0, Nat.zero_le _, rfl, hB4⟩
  case round =>
    obtain ⟨k, hk, rfl, hW⟩ := hrel
    clear hB4
    have HW := Lib.hid hW
    clear hW
    by_cases hlt : k < m
    · have k0 : (k : Int) < (m : Int) := by omega
      have hkz : k < z.size := by rw [HZ.out.size]; exact hlt
      have kz0 : (k : Int) < (z.size : Int) := by omega
      have hk0 : (0 : Int) ≤ (k : Int) := by omega
      have hkz2 : k < z.data.size := hkz
      rcases Nat.lt_or_ge k s.size with hks | hks
      · have ks0 : decide ((k : Int) < (s.size : Int)) = true := by simp; exact hks
        have ks1 : decide ((s.size : Int) ≤ (k : Int)) = false := by simp; exact hks
        have ks3 : decide (s.size ≤ k) = false := by simp; exact hks
        have ks4 : decide (k < s.size) = true := by simp; exact hks
        have ks2 : (k : Int) < (s.size : Int) := by omega
        have hks2 : k < s.data.size := hks
        have hbb : ((z[k].toNat : Int) != (s[k].toNat : Int)) = false := by rw [HZ.out.same k hkz hks]; simp
        go_wp2_with fail
        go_quiet (fail)
        go_wp2_with fail
        go_roundw
        case rel => exact ⟨k + 1, by omega, by go_num, below_draws HW.out⟩
        case measure => simp [intOf] <;> omega
      · have ks0 : decide ((k : Int) < (s.size : Int)) = false := by simp; exact hks
        have ks1 : decide ((s.size : Int) ≤ (k : Int)) = true := by simp; exact hks
        have ks3 : decide (s.size ≤ k) = true := by simp; exact hks
        have ks4 : decide (k < s.size) = false := by simp; exact hks
        have hbb : ((z[k].toNat : Int) != 0) = false := by rw [HZ.out.zero k hkz hks]; rfl
        go_wp2_with fail
        go_quiet (fail)
        go_wp2_with fail
        go_roundw
        case rel => exact ⟨k + 1, by omega, by go_num, below_draws HW.out⟩
        case measure => simp [intOf] <;> omega
    · obtain rfl : k = m := by omega
      rcases Nat.lt_or_ge o s.size with hos | hos
      · have os0 : (o : Int) < (s.size : Int) := by omega
        have hgs := HG.out.size hos
        have hgt := HG.out.text hos
        have hgl : (o : Int) + (g.size : Int) ≤ (s.size : Int) := by omega
        have hfin : (g.toList == (s.extract o ((o : Int) + min (n : Int) ((s.size : Int) - (o : Int))).toNat).toList) = true := by
          rw [show ((o : Int) + min (n : Int) ((s.size : Int) - (o : Int))).toNat = o + g.size from by rw [← hgs]; omega, hgt]; simp
        go_wp2_with fail
        go_ret
        exact ⟨rfl, HW.out⟩
      · have os0 : (s.size : Int) ≤ (o : Int) := by omega
        have hge : g.toList.isEmpty = true := str_isEmpty0 (HG.out.over hos)
        go_wp2_with fail
        go_ret
        exact ⟨rfl, HW.out⟩
theorem cuts_any (s : ByteArray) (m off n : Int) (w : World) (hK : KOk w) (hI : IOk w) (hs0 : s.size ≤ 140737488355328) (hm : -9223372036854775808 ≤ m ∧ m ≤ 9223372036854775807) (ho : -9223372036854775808 ≤ off ∧ off ≤ 9223372036854775807) (hn : -9223372036854775808 ≤ n ∧ n ≤ 9223372036854775807) : Calls Tryd.prog 7 #[.string s, .int .i64 m, .int .i64 off, .int .i64 n] w (Yes w) := by
  have hsi : (s.size : Int) ≤ 140737488355328 := by omega
  rcases Nat.lt_or_ge 4096 s.size with hs | hs
  · have g1 : (4096 : Int) < (s.size : Int) := by omega
    go_enter Tryd.func7, Tryd.ntmps7
    go_wp2_with fail
    refine (awake_any _ hK hI).mono ?_
    rintro e w1 ⟨rfl, hB1⟩
    dsimp only
    go_wp2_with fail
    go_ret
    exact ⟨rfl, hB1⟩
  have g1 : (s.size : Int) ≤ 4096 := by omega
  rcases Int.lt_or_le m 0 with h1 | h1
  · skip
    go_enter Tryd.func7, Tryd.ntmps7
    go_wp2_with fail
    refine (awake_any _ hK hI).mono ?_
    rintro e w1 ⟨rfl, hB1⟩
    dsimp only
    go_wp2_with fail
    go_ret
    exact ⟨rfl, hB1⟩
  rcases Int.lt_or_le 4096 m with h2 | h2
  · skip
    go_enter Tryd.func7, Tryd.ntmps7
    go_wp2_with fail
    refine (awake_any _ hK hI).mono ?_
    rintro e w1 ⟨rfl, hB1⟩
    dsimp only
    go_wp2_with fail
    go_ret
    exact ⟨rfl, hB1⟩
  rcases Int.lt_or_le off 0 with h3 | h3
  · skip
    go_enter Tryd.func7, Tryd.ntmps7
    go_wp2_with fail
    refine (awake_any _ hK hI).mono ?_
    rintro e w1 ⟨rfl, hB1⟩
    dsimp only
    go_wp2_with fail
    go_ret
    exact ⟨rfl, hB1⟩
  rcases Int.lt_or_le n 0 with h4 | h4
  · skip
    go_enter Tryd.func7, Tryd.ntmps7
    go_wp2_with fail
    refine (awake_any _ hK hI).mono ?_
    rintro e w1 ⟨rfl, hB1⟩
    dsimp only
    go_wp2_with fail
    go_ret
    exact ⟨rfl, hB1⟩
  obtain ⟨m, rfl⟩ : ∃ k : Nat, m = (k : Int) := ⟨m.toNat, by omega⟩
  obtain ⟨off, rfl⟩ : ∃ k : Nat, off = (k : Int) := ⟨off.toNat, by omega⟩
  obtain ⟨n, rfl⟩ : ∃ k : Nat, n = (k : Int) := ⟨n.toNat, by omega⟩
  exact cuts_ok s m off n w hK hI (by omega) (by omega) ho.2 hn.2
end Go.Proofs.YtnapjloapgfcfaaDoor
