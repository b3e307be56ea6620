/- ChunkPuts, walked. -/
import Derived.Test.YtnapjloapgfcfaaDoorTells
namespace Go.Proofs.YtnapjloapgfcfaaDoor
set_option maxRecDepth 100000
open Go.RowKit Sha
theorem below_draws {B n : Nat} {w wr : World} (h : Below B w wr) : Below B w (wr.drewN n) := h.trans ⟨rfl, rfl, rfl, Nat.le_refl _, fun _ _ => rfl⟩
theorem text_at {l : List UInt8} {k : Nat} (h : k < (lstr l).size) : (lstr l)[k] = Chk.b l k := by rw [b_at (lstr l) h, lstr_data]
/-- What was put, as a text. -/
structure Putted (s : ByteArray) (o : Nat) (d z : ByteArray) : Prop where
  size : z.size ≤ 4096
  empty : d.size = 0 → z = s
  some : 0 < d.size → (z.size : Int) = max (s.size : Int) ((o : Int) + (d.size : Int))
  same : ∀ k (hz : k < z.size) (hs : k < s.size), ¬ (o ≤ k ∧ k < o + d.size) → z[k].toNat = s[k].toNat
  zero : ∀ k (hz : k < z.size), s.size ≤ k → ¬ (o ≤ k ∧ k < o + d.size) → z[k].toNat = 0
  get : ∀ w', Calls Tryd.prog 13 #[.string z, .int .i64 (o : Int), .int .i64 (d.size : Int)] w' fun e w2 => e = .returned (.tuple #[.string d, .int .i64 0]) ∧ Below w'.heap.size w' w2
  trunc : ∀ w', Calls Tryd.prog 11 #[.string z, .int .i64 (z.size : Int)] w' fun e w2 => e = .returned (.tuple #[.string z, .int .i64 0]) ∧ Below w'.heap.size w' w2
theorem putted (s : ByteArray) (o : Nat) (d : ByteArray) (hs : s.size ≤ 4096) (hd : o + d.size ≤ 4096) : Putted s o d (lstr (Chk.put s.data.toList o d.data.toList)) := by
  have hdl : d.data.toList.length = d.size := Array.length_toList
  have hsl : s.data.toList.length = s.size := Array.length_toList
  have hlen : (lstr (Chk.put s.data.toList o d.data.toList)).size ≤ 4096 := by
    rw [lstr_size]
    by_cases h : d.data.toList = []
    · rw [h, Chk.put_nil, hsl]; exact hs
    · rw [Chk.put_length h, hsl, hdl]; omega
  have hb : ∀ k, k < (lstr (Chk.put s.data.toList o d.data.toList)).size → ¬ (o ≤ k ∧ k < o + d.size) → Chk.b (Chk.put s.data.toList o d.data.toList) k = Chk.b s.data.toList k := fun k hk hn => by
    rw [lstr_size] at hk
    by_cases h : d.data.toList = []
    · rw [h, Chk.put_nil]
    · rw [Chk.put_length h] at hk
      rw [Chk.put_b h hk, hdl, if_neg hn]
  refine ⟨hlen, fun h => ?_, fun h => ?_, fun k hz hks hn => ?_, fun k hz hks hn => ?_, fun w' => ?_, fun w' => ?_⟩
  · rw [show d.data.toList = [] from by rw [str_empty h], Chk.put_nil]; rfl
  · have hne : d.data.toList ≠ [] := fun e => by
      have h2 := congrArg List.length e
      rw [hdl] at h2
      exact absurd h2 (by show ¬ d.size = 0; omega)
    rw [lstr_size, Chk.put_length hne, hsl, hdl]; omega
  · rw [text_at hz, hb k hz hn, b_at s hks]
  · rw [text_at hz, hb k hz hn, Chk.b_over (by rw [hsl]; exact hks)]; rfl
  · refine (get_any _ (o : Int) (d.size : Int) w' (by omega) (by omega) (by omega)).mono fun e w2 h => both_is (r' := (d.data.toList, 0)) h ?_
    unfold getR
    rw [if_neg (by omega), lstr_data, Int.toNat_natCast, Int.toNat_natCast, ← hdl, Chk.get_put _ _ _ (fun _ => trivial)]
  · refine (trunc_any _ _ w').mono fun e w2 h => both_is (r' := (Chk.put s.data.toList o d.data.toList, 0)) h ?_
    unfold truncR
    rw [if_neg (by omega), if_neg (by omega), Int.toNat_natCast, lstr_size, lstr_data, Chk.trunc_same]
set_option maxHeartbeats 4000000 in
theorem puts_ok (s : ByteArray) (o : Nat) (d : ByteArray) (w : World) (hK : KOk w) (hI : IOk w) (hs : s.size ≤ 4096) (hd : d.size ≤ 4096) (hod : o + d.size ≤ 4096) : Calls Tryd.prog 6 #[.string s, .int .i64 (o : Int), .string d] w (Yes w) := by
  have g1 : (s.size : Int) ≤ 4096 := by omega
  have g2 : (d.size : Int) ≤ 4096 := by omega
  have g3 : (o : Int) + (d.size : Int) ≤ 4096 := by omega
  have HZ := Lib.hid (putted s o d hs hod)
  have HP := Lib.hid (fun w' => (put_any s (o : Int) d w' (by omega) (by omega) (by omega)).mono fun e w2 h => both_is (r' := (Chk.put s.data.toList o d.data.toList, 0)) h (by
    unfold putR
    rw [if_neg (by omega), if_neg (by rw [show d.data.toList.length = d.size from Array.length_toList]; omega), Int.toNat_natCast]))
  unfold Both at HP
  dsimp only at HP
  generalize lstr (Chk.put s.data.toList o d.data.toList) = z at HZ HP
  have hz4 : (z.size : Int) ≤ 4096 := by have := HZ.out.size; omega
  have hzz : (z.toList == z.toList) = true := by simp
  have hdd : (d.toList == d.toList) = true := by simp
  go_enter Tryd.func6, Tryd.ntmps6
  go_wp2_with fail
  refine (awake_any _ hK hI).mono ?_
  rintro e w1 ⟨rfl, hB1⟩
  dsimp only
  go_wp2_with fail
  refine (HP.out _).mono ?_
  rintro e w2 ⟨rfl, hB2⟩
  have hB2 := hB1.trans (hB2.mono hB1.size)
  clear hB1
  dsimp only
  go_wp2_with fail
  refine (HZ.out.get _).mono ?_
  rintro e w3 ⟨rfl, hB3⟩
  have hB3 := hB2.trans (hB3.mono hB2.size)
  clear hB2
  dsimp only
  go_wp2_with fail
  refine (HZ.out.trunc _).mono ?_
  rintro e w4 ⟨rfl, hB4⟩
  have hB4 := hB3.trans (hB4.mono hB3.size)
  clear hB3
  dsimp only
  have tail : True := trivial
  rcases Nat.eq_zero_or_pos d.size with hd0 | hd0
  · have hde : d.toList.isEmpty = true := str_isEmpty0 hd0
    have hzs : (z.toList == s.toList) = true := by rw [HZ.out.empty hd0]; simp
    have hzn : (z.toList != s.toList) = false := by rw [HZ.out.empty hd0]; simp
    clear hd0
    go_wp2_with fail
    go_loopw [13] (fun i wr => ∃ k : Nat, k ≤ z.size ∧ i = .int .i64 (k : Int) ∧ Below w.heap.size w wr) (fun i _ => z.size - (intOf i).toNat)
    case atStart => exact ⟨0, Nat.zero_le _, rfl, hB4⟩
    case round =>
      obtain ⟨k, hk, rfl, hW⟩ := hrel
      clear hB4
      have HW := Lib.hid hW
      clear hW
      by_cases hkz : k < z.size
      · have k0 : (k : Int) < (z.size : Int) := by omega
        have hk0 : (0 : Int) ≤ (k : Int) := by omega
        have hkz2 : k < z.data.size := hkz
        by_cases hin : o ≤ k ∧ k < o + d.size
        · have i1 : (o : Int) ≤ (k : Int) := by omega
          have i2 : (k : Int) < (o : Int) + (d.size : Int) := by omega
          go_wp2_with fail
          go_roundw
          case rel => exact ⟨k + 1, by omega, by go_num, HW.out⟩
          case measure => simp [intOf] <;> omega
        · have i3 : ¬ ((o : Int) ≤ (k : Int) ∧ (k : Int) < (o : Int) + (d.size : Int)) := by omega
          have i4 : (decide ((o : Int) ≤ (k : Int)) && decide ((k : Int) < (o : Int) + (d.size : Int))) = false := by
            rw [Bool.and_eq_false_iff]
            by_cases h : (o : Int) ≤ (k : Int)
            · right; simp; omega
            · left; simp; omega
          have HIN := Lib.hid hin
          clear hin
          rcases Nat.lt_or_ge k s.size with hks | hks
          · have ks0 : decide ((k : Int) < (s.size : Int)) = true := by simp; exact hks
            have ks1 : decide ((s.size : Int) ≤ (k : Int)) = false := by simp; exact hks
            have ks3 : decide (s.size ≤ k) = false := by simp; exact hks
            have ks4 : decide (k < s.size) = true := by simp; exact hks
            have ks2 : (k : Int) < (s.size : Int) := by omega
            have hks2 : k < s.data.size := hks
            have hbb : ((z[k].toNat : Int) != (s[k].toNat : Int)) = false := by rw [HZ.out.same k hkz hks HIN.out]; simp
            rcases Int.lt_or_le (k : Int) (o : Int) with hko | hko
            · clear i3 i4
              go_wp2_with fail
              go_quiet (fail)
              go_wp2_with fail
              go_roundw
              case rel => exact ⟨k + 1, by omega, by go_num, below_draws HW.out⟩
              case measure => simp [intOf] <;> omega
            · have hko2 : (o : Int) + (d.size : Int) ≤ (k : Int) := by omega
              clear i3 i4
              go_wp2_with fail
              go_quiet (fail)
              go_wp2_with fail
              go_roundw
              case rel => exact ⟨k + 1, by omega, by go_num, below_draws HW.out⟩
              case measure => simp [intOf] <;> omega
          · have ks0 : decide ((k : Int) < (s.size : Int)) = false := by simp; exact hks
            have ks1 : decide ((s.size : Int) ≤ (k : Int)) = true := by simp; exact hks
            have ks3 : decide (s.size ≤ k) = true := by simp; exact hks
            have ks4 : decide (k < s.size) = false := by simp; exact hks
            have hbb : ((z[k].toNat : Int) != 0) = false := by rw [HZ.out.zero k hkz hks HIN.out]; rfl
            rcases Int.lt_or_le (k : Int) (o : Int) with hko | hko
            · clear i3 i4
              go_wp2_with fail
              go_quiet (fail)
              go_wp2_with fail
              go_roundw
              case rel => exact ⟨k + 1, by omega, by go_num, below_draws HW.out⟩
              case measure => simp [intOf] <;> omega
            · have hko2 : (o : Int) + (d.size : Int) ≤ (k : Int) := by omega
              clear i3 i4
              go_wp2_with fail
              go_quiet (fail)
              go_wp2_with fail
              go_roundw
              case rel => exact ⟨k + 1, by omega, by go_num, below_draws HW.out⟩
              case measure => simp [intOf] <;> omega
      · obtain rfl : k = z.size := by omega
        go_wp2_with fail
        go_ret
        exact ⟨rfl, HW.out⟩
  · have hde : d.toList.isEmpty = false := str_isEmpty hd0
    have hzm := HZ.out.some hd0
    have hzb : ((z.size : Int) != max (s.size : Int) ((o : Int) + (d.size : Int))) = false := by rw [hzm]; simp
    clear hzm
    go_wp2_with fail
    go_loopw [13] (fun i wr => ∃ k : Nat, k ≤ z.size ∧ i = .int .i64 (k : Int) ∧ Below w.heap.size w wr) (fun i _ => z.size - (intOf i).toNat)
    case atStart => exact ⟨0, Nat.zero_le _, rfl, hB4⟩
    case round =>
      obtain ⟨k, hk, rfl, hW⟩ := hrel
      clear hB4
      have HW := Lib.hid hW
      clear hW
      by_cases hkz : k < z.size
      · have k0 : (k : Int) < (z.size : Int) := by omega
        have hk0 : (0 : Int) ≤ (k : Int) := by omega
        have hkz2 : k < z.data.size := hkz
        by_cases hin : o ≤ k ∧ k < o + d.size
        · have i1 : (o : Int) ≤ (k : Int) := by omega
          have i2 : (k : Int) < (o : Int) + (d.size : Int) := by omega
          go_wp2_with fail
          go_roundw
          case rel => exact ⟨k + 1, by omega, by go_num, HW.out⟩
          case measure => simp [intOf] <;> omega
        · have i3 : ¬ ((o : Int) ≤ (k : Int) ∧ (k : Int) < (o : Int) + (d.size : Int)) := by omega
          have i4 : (decide ((o : Int) ≤ (k : Int)) && decide ((k : Int) < (o : Int) + (d.size : Int))) = false := by
            rw [Bool.and_eq_false_iff]
            by_cases h : (o : Int) ≤ (k : Int)
            · right; simp; omega
            · left; simp; omega
          have HIN := Lib.hid hin
          clear hin
          rcases Nat.lt_or_ge k s.size with hks | hks
          · have ks0 : decide ((k : Int) < (s.size : Int)) = true := by simp; exact hks
            have ks1 : decide ((s.size : Int) ≤ (k : Int)) = false := by simp; exact hks
            have ks3 : decide (s.size ≤ k) = false := by simp; exact hks
            have ks4 : decide (k < s.size) = true := by simp; exact hks
            have ks2 : (k : Int) < (s.size : Int) := by omega
            have hks2 : k < s.data.size := hks
            have hbb : ((z[k].toNat : Int) != (s[k].toNat : Int)) = false := by rw [HZ.out.same k hkz hks HIN.out]; simp
            rcases Int.lt_or_le (k : Int) (o : Int) with hko | hko
            · clear i3 i4
              go_wp2_with fail
              go_quiet (fail)
              go_wp2_with fail
              go_roundw
              case rel => exact ⟨k + 1, by omega, by go_num, below_draws HW.out⟩
              case measure => simp [intOf] <;> omega
            · have hko2 : (o : Int) + (d.size : Int) ≤ (k : Int) := by omega
              clear i3 i4
              go_wp2_with fail
              go_quiet (fail)
              go_wp2_with fail
              go_roundw
              case rel => exact ⟨k + 1, by omega, by go_num, below_draws HW.out⟩
              case measure => simp [intOf] <;> omega
          · have ks0 : decide ((k : Int) < (s.size : Int)) = false := by simp; exact hks
            have ks1 : decide ((s.size : Int) ≤ (k : Int)) = true := by simp; exact hks
            have ks3 : decide (s.size ≤ k) = true := by simp; exact hks
            have ks4 : decide (k < s.size) = false := by simp; exact hks
            have hbb : ((z[k].toNat : Int) != 0) = false := by rw [HZ.out.zero k hkz hks HIN.out]; rfl
            rcases Int.lt_or_le (k : Int) (o : Int) with hko | hko
            · clear i3 i4
              go_wp2_with fail
              go_quiet (fail)
              go_wp2_with fail
              go_roundw
              case rel => exact ⟨k + 1, by omega, by go_num, below_draws HW.out⟩
              case measure => simp [intOf] <;> omega
            · have hko2 : (o : Int) + (d.size : Int) ≤ (k : Int) := by omega
              clear i3 i4
              go_wp2_with fail
              go_quiet (fail)
              go_wp2_with fail
              go_roundw
              case rel => exact ⟨k + 1, by omega, by go_num, below_draws HW.out⟩
              case measure => simp [intOf] <;> omega
      · obtain rfl : k = z.size := by omega
        go_wp2_with fail
        go_ret
        exact ⟨rfl, HW.out⟩
theorem puts_any (s : ByteArray) (off : Int) (d : ByteArray) (w : World) (hK : KOk w) (hI : IOk w) (hs0 : s.size ≤ 140737488355328) (hd0 : d.size ≤ 140737488355328) (ho : -9223372036854775808 ≤ off ∧ off ≤ 9223372036854775807) : Calls Tryd.prog 6 #[.string s, .int .i64 off, .string d] w (Yes w) := by
  have hsi : (s.size : Int) ≤ 140737488355328 := by omega
  have hdi : (d.size : Int) ≤ 140737488355328 := by omega
  rcases Nat.lt_or_ge 4096 s.size with hs | hs
  · have g1 : (4096 : Int) < (s.size : Int) := by omega
    go_enter Tryd.func6, Tryd.ntmps6
    go_wp2_with fail
    refine (awake_any _ hK hI).mono ?_
    rintro e w1 ⟨rfl, hB1⟩
    dsimp only
    go_wp2_with fail
    go_ret
    exact ⟨rfl, hB1⟩
  have g1 : (s.size : Int) ≤ 4096 := by omega
  rcases Nat.lt_or_ge 4096 d.size with hd | hd
  · have g2 : (4096 : Int) < (d.size : Int) := by omega
    go_enter Tryd.func6, Tryd.ntmps6
    go_wp2_with fail
    refine (awake_any _ hK hI).mono ?_
    rintro e w1 ⟨rfl, hB1⟩
    dsimp only
    go_wp2_with fail
    go_ret
    exact ⟨rfl, hB1⟩
  have g2 : (d.size : Int) ≤ 4096 := by omega
  have hno : ∀ (k : Int), putR s.data.toList off d.data.toList = ([], k) → ∀ w', Calls Tryd.prog 9 #[.string s, .int .i64 off, .string d] w' fun e w2 => e = .returned (.tuple #[.string ⟨#[]⟩, .int .i64 k]) ∧ Below w'.heap.size w' w2 := fun k hk w' => (put_any s off d w' (by omega) (by omega) ho.2).mono fun e w2 h => both_is (r' := ([], k)) h hk
  rcases Int.lt_or_le off 0 with h1 | h1
  · have HP := Lib.hid (hno 1 (by unfold putR; rw [if_pos h1]))
    clear hno hs hd
    go_enter Tryd.func6, Tryd.ntmps6
    go_wp2_with fail
    refine (awake_any _ hK hI).mono ?_
    rintro e w1 ⟨rfl, hB1⟩
    dsimp only
    go_wp2_with fail
    refine (HP.out _).mono ?_
    rintro e w2 ⟨rfl, hB2⟩
    have hB2 := hB1.trans (hB2.mono hB1.size)
    dsimp only
    go_wp2_with fail
    go_ret
    exact ⟨rfl, hB2⟩
  rcases Int.lt_or_le 4096 (off + (d.size : Int)) with h2 | h2
  · have HP := Lib.hid (hno 3 (by unfold putR; rw [if_neg (by omega), if_pos (by rw [show d.data.toList.length = d.size from Array.length_toList]; exact h2)]))
    have h3 : 4096 - (d.size : Int) < off := by omega
    clear hno hs hd h2
    go_enter Tryd.func6, Tryd.ntmps6
    go_wp2_with fail
    refine (awake_any _ hK hI).mono ?_
    rintro e w1 ⟨rfl, hB1⟩
    dsimp only
    go_wp2_with fail
    refine (HP.out _).mono ?_
    rintro e w2 ⟨rfl, hB2⟩
    have hB2 := hB1.trans (hB2.mono hB1.size)
    dsimp only
    go_wp2_with fail
    go_ret
    exact ⟨rfl, hB2⟩
  obtain ⟨o, rfl⟩ : ∃ k : Nat, off = (k : Int) := ⟨off.toNat, by omega⟩
  exact puts_ok s o d w hK hI hs hd (by omega)
