/- CrcBurst walked. -/
import Derived.Test.YtmelcndcgaoegaaBytes
namespace Go.Proofs.Ytmelcndcgaoegaa
open Go.RowKit Crc
theorem sem_streq (t : TypeId) (x : ByteArray) : binOp .eql t (.string x) (.string x) = pure (.bool true) := by rw [binOp_string_eql, str_eq rfl]
attribute [local go_sem 9000] sem_shr32 sem_rem2 sem_eq1 sem_shl8 sem_xor8 sem_streq

set_option maxRecDepth 100000 in
set_option maxHeartbeats 4000000 in
theorem burst_any (x : ByteArray) (c : Int) (T : BitVec 32) (w : World) (hx : x.size ≤ 140737488355328) :
    Calls Try.prog 5 #[.string x, .int .i64 c, wv T] w fun e w' => e = .returned (.bool true) ∧ Below w.heap.size w w' := by
  go_enter Try.func5, Try.ntmps5
  go_wp2_with fail
  refine (awake_any _).mono ?_
  rintro e w1 ⟨rfl, hw1⟩
  dsimp only
  by_cases h1 : x.size ≤ 2000 ∧ 0 ≤ c
  · obtain ⟨h1, h2⟩ := h1
    have h1' : (x.size : Int) ≤ 2000 := by omega
    go_wp2_with fail
    refine (seal_any x _ (by omega)).mono ?_
    rintro e w2 ⟨rfl, hw2⟩
    have hB2 := hw1.trans (hw2.mono hw1.size)
    have HO := Lib.hid (opened_turn x.data.toList)
    have hsz : (lstr (sealed x.data.toList)).size = x.size + 4 := by rw [lstr_size, sealed_length, Array.length_toList]; rfl
    have hlen : (sealed x.data.toList).length = x.size + 4 := by rw [sealed_length, Array.length_toList]; rfl
    obtain ⟨cap, w3, hconv, hby, hw3⟩ := bytes_of (lstr (sealed x.data.toList)) w2
    rw [lstr_data] at hby
    have hB3 := hB2.trans (hw3.mono hB2.size)
    have hg := hB2.size
    generalize w2.heap.size = g at hconv hby hg
    generalize sealed x.data.toList = S at hsz hlen hconv hby HO ⊢
    have HL := Lib.hid hlen
    generalize hN : lstr S = y at hsz hconv ⊢
    rw [hsz] at hconv
    have HN := Lib.hid hN
    obtain ⟨a, ha⟩ : ∃ a : Nat, c % (8 * ((x.size : Int) + 4)) = (a : Int) := ⟨(c % (8 * ((x.size : Int) + 4))).toNat, by have := Int.emod_nonneg c (show 8 * ((x.size : Int) + 4) ≠ 0 by omega); omega⟩
    have ha0 : c % (8 * ((x.size : Int) + 4)) < 8 * ((x.size : Int) + 4) := Int.emod_lt_of_pos _ (by omega)
    rw [ha] at ha0
    have HB3 := Lib.hid hB3
    have HBY := Lib.hid hby
    clear hw1 hw2 hw3 hB2 hlen hN hB3 hby
    dsimp only
    go_wp2_with fail
    rw [ha]
    clear ha h2 hconv hsz
    go_loopw [8, 9] (fun tu i wr => ∃ n : Nat, n ≤ 32 ∧ i = .int .i64 n ∧ tu = .bool (some_ S a T n) ∧ Bytes g (turn S a T n) wr ∧ Below w.heap.size w wr) (fun _ i _ => 32 - (intOf i).toNat)
    case atStart => exact ⟨0, by omega, rfl, rfl, HBY.out, HB3.out⟩
    case round =>
      clear HBY HB3
      obtain ⟨n, hn, rfl, rfl, hby, hB⟩ := hrel
      by_cases hlt : n < 32
      · have hn0 : (n : Int) < 32 := by omega
        have HS := Lib.hid (show some_ S a T (n + 1) = ((T.getLsbD n && decide (a + n < 8 * S.length)) || some_ S a T n) from rfl)
        have HT := Lib.hid (show turn S a T (n + 1) = if T.getLsbD n && decide (a + n < 8 * S.length) then flip (turn S a T n) (a + n) else turn S a T n from rfl)
        have HB := Lib.hid hB
        have HBY := Lib.hid hby
        have htl : (turn S a T n).length = x.size + 4 := by rw [turn_length]; exact HL.out
        have hpar := par_shr T n
        cases hbit : T.getLsbD n with
        | false =>
          rw [hbit] at hpar
          have HT1 := Lib.hid (show turn S a T (n + 1) = turn S a T n by rw [HT.out, hbit]; rfl)
          have HS1 := Lib.hid (show some_ S a T (n + 1) = some_ S a T n by rw [HS.out, hbit]; rfl)
          clear hB hby htl hbit HS HT
          go_wp2
          go_roundw
          case rel => exact ⟨n + 1, by omega, by go_num, by rw [HS1.out], by rw [HT1.out]; exact HBY.out, HB.out⟩
          case measure => simp [intOf]; omega
        | true =>
          rw [hbit] at hpar
          by_cases hin : a + n < 8 * S.length
          · have HT1 := Lib.hid (show turn S a T (n + 1) = flip (turn S a T n) (a + n) by rw [HT.out, hbit, decide_eq_true hin]; rfl)
            have HS1 := Lib.hid (show some_ S a T (n + 1) = true by rw [HS.out, hbit, decide_eq_true hin]; rfl)
            have HF := Lib.hid (hby.flip (a + n) (by rw [turn_length]; exact hin))
            have hk : (a : Int) + (n : Int) < 8 * ((x.size : Int) + 4) := by rw [HL.out] at hin; omega
            have hc := hby.cell ((a + n) / 8) (by rw [htl]; omega)
            have hz := hby.free ((a + n) / 8) (by rw [htl]; omega)
            have hd : ((a : Int) + (n : Int)) / 8 = (((a + n) / 8 : Nat) : Int) := by omega
            have hm : ((a : Int) + (n : Int)) % 8 = (((a + n) % 8 : Nat) : Int) := by omega
            have hq : (((a + n) / 8 : Nat) : Int) < (x.size : Int) + 4 := by omega
            have hr : (((a + n) % 8 : Nat) : Int) < 8 := by omega
            generalize (a + n) / 8 = q at hc hz hd hq HF
            generalize (a + n) % 8 = r at hm hr HF
            generalize (turn S a T n).getD q 0 = v at hc HF
            clear hB hby htl hbit HS HT hin HBY
            go_wp2
            go_roundw
            case rel => exact ⟨n + 1, by omega, by go_num, by rw [HS1.out], by rw [HT1.out]; exact HF.out, HB.out.setCell (p := ⟨g, q, none⟩) hg _⟩
            case measure => simp [intOf]; omega
          · have HT1 := Lib.hid (show turn S a T (n + 1) = turn S a T n by rw [HT.out, hbit, decide_eq_false hin]; rfl)
            have HS1 := Lib.hid (show some_ S a T (n + 1) = some_ S a T n by rw [HS.out, hbit, decide_eq_false hin]; rfl)
            have hk : 8 * ((x.size : Int) + 4) ≤ (a : Int) + (n : Int) := by rw [HL.out] at hin; omega
            clear hB hby htl hbit HS HT hin
            go_wp2
            go_roundw
            case rel => exact ⟨n + 1, by omega, by go_num, by rw [HS1.out], by rw [HT1.out]; exact HBY.out, HB.out⟩
            case measure => simp [intOf]; omega
      · obtain rfl : n = 32 := by omega
        have hback := bytes_back hby (x.size + 4) cap (by rw [turn_length]; exact HL.out.symm)
        have HOa := Lib.hid (HO.out a T)
        have hls : (lstr (turn S a T 32)).size ≤ 140737488355328 := by rw [lstr_size, turn_length, HL.out]; omega
        have HLS := Lib.hid hls
        have HB := Lib.hid hB
        generalize turn S a T 32 = l at hback HOa HLS
        generalize some_ S a T 32 = tu at HOa ⊢
        clear hls hby hB
        go_wp2_with fail
        refine (open_any (lstr l) _ HLS.out).mono ?_
        rintro e w4 ⟨rfl, hw4⟩
        have hB4 := HB.out.trans (hw4.mono HB.out.size)
        rw [lstr_data, HOa.out]
        clear hback
        cases tu with
        | false =>
          rw [if_neg (by simp), show lstr x.data.toList = x from rfl]
          dsimp only
          go_wp2_with fail
          go_ret
          exact ⟨rfl, hB4⟩
        | true =>
          rw [if_pos rfl, show lstr [] = ⟨#[]⟩ from rfl]
          dsimp only
          go_wp2_with fail
          go_ret
          exact ⟨rfl, hB4⟩
  · rcases Nat.lt_or_ge 2000 x.size with h2 | h2
    · have h2' : (2000 : Int) < (x.size : Int) := by omega
      go_wp2
      go_ret
      exact ⟨rfl, hw1⟩
    · have h2' : (x.size : Int) ≤ 2000 := by omega
      have h3 : c < 0 := by omega
      go_wp2
      go_ret
      exact ⟨rfl, hw1⟩
end Go.Proofs.Ytmelcndcgaoegaa
