/- CrcTwice walked. -/
import Derived.Test.YtmelcndcgaoegaaBytes
import Derived.Deep.RegionHeld3
namespace Go.Proofs.Ytmelcndcgaoegaa
open Go.RowKit Crc
theorem sem_strneq (t : TypeId) (x : ByteArray) : binOp .neq t (.string x) (.string x) = pure (.bool false) := by rw [binOp_string_neq, str_eq rfl]; rfl
theorem sem_intneq (t : TypeId) (k : IntKind) (x : Int) : binOp .neq t (.int k x) (.int k x) = pure (.bool false) := by rw [binOp_neq, bne, beq_self_eq_true]; rfl
/-- Two texts alike? Closed to the walk's simp. -/
def alike (x y : ByteArray) : Bool := x.toList == y.toList
theorem sem_stralike (t : TypeId) (x y : ByteArray) : binOp .eql t (.string x) (.string y) = pure (.bool (alike x y)) := binOp_string_eql t x y
def same32 (x y : BitVec 32) : Bool := decide (x = y)
theorem sem_same32 (t : TypeId) (x y : BitVec 32) : binOp .eql t (.int .u32 (u32 x)) (.int .u32 (u32 y)) = pure (.bool (same32 x y)) := sem_eql32 t x y
theorem alike_same (l : List UInt8) (x : ByteArray) (h : crc l = crc x.data.toList ↔ l = x.data.toList) : same32 (crc l) (crc x.data.toList) = alike (lstr l) x := by
  unfold same32
  by_cases hl : l = x.data.toList
  · rw [decide_eq_true (h.2 hl), hl]; exact (str_eq rfl).symm
  · rw [decide_eq_false (fun e => hl (h.1 e))]; exact (str_ne (fun e => hl (lstr_inj (e.trans (lstr_own x).symm)))).symm

/-- Bytes of the call's own, that are a text again. -/
def backAt (g n cap : Nat) (l : List UInt8) (W : World) : Prop := (convert 35 9 (.slice (some ⟨g, 0, none⟩) n cap)).run Try.prog W = .ok (.string (lstr l)) W
theorem back_below {g n cap : Nat} {l : List UInt8} {W W' : World} (h : backAt g n cap l W ∧ Bytes g l W ∧ g < W.heap.size ∧ l.length = n) (hb : Below W.heap.size W W') : backAt g n cap l W' ∧ Bytes g l W' ∧ g < W'.heap.size ∧ l.length = n :=
  have hy := h.2.1.below h.2.2.1 hb
  ⟨bytes_back hy n cap h.2.2.2.symm, hy, Nat.lt_of_lt_of_le h.2.2.1 hb.size, h.2.2.2⟩
theorem sum_cell_l (l : List UInt8) (b : Nat) (w : World) (hx : (lstr l).size ≤ 140737488355328) (hc : w.cell? ⟨b, 0, none⟩ = some (.string (lstr l))) :
    Calls Try.prog 10 #[.slice (some ⟨b, 0, none⟩) 1 1] w fun e w' => e = .returned (wv (crc l)) ∧ w = w' := sum_cell (lstr l) b w hx hc
attribute [local go_sem 9000] sem_shr32 sem_rem2 sem_eq1 sem_shl8 sem_xor8 sem_stralike sem_strneq sem_intneq sem_same32

set_option maxRecDepth 100000 in
set_option maxHeartbeats 4000000 in
theorem twice_any (x y : ByteArray) (c : Int) (T : BitVec 32) (w : World) (hx : x.size ≤ 140737488355328) (hy : y.size ≤ 140737488355328) :
    Calls Try.prog 6 #[.string x, .string y, .int .i64 c, wv T] w fun e w' => e = .returned (.bool true) ∧ Below w.heap.size w w' := by
  go_enter Try.func6, Try.ntmps6
  go_wp2_with fail
  refine (awake_any _).mono ?_
  rintro e w1 ⟨rfl, hw1⟩
  dsimp only
  by_cases h1 : x.size ≤ 2000 ∧ y.size ≤ 2000 ∧ 0 ≤ c
  · obtain ⟨h1, h2, h3⟩ := h1
    have h1' : (x.size : Int) ≤ 2000 := by omega
    have h2' : (y.size : Int) ≤ 2000 := by omega
    have hs1 : (lstr (sealed x.data.toList)).size = x.size + 4 := by rw [lstr_size, sealed_length, Array.length_toList]; rfl
    have hs2 : (lstr (sealed (sealed x.data.toList))).size = x.size + 8 := by rw [lstr_size, sealed_length, sealed_length, Array.length_toList]; rfl
    have hs3 : (lstr (sealed y.data.toList)).size = y.size + 4 := by rw [lstr_size, sealed_length, Array.length_toList]; rfl
    have HS1 := Lib.hid hs1
    have HS2 := Lib.hid hs2
    have HS3 := Lib.hid hs3
    clear hs1 hs2 hs3
    go_wp2_with fail
    refine (seal_any x _ (by omega)).mono ?_
    rintro e w2 ⟨rfl, hw2⟩
    have hB2 := hw1.trans (hw2.mono hw1.size)
    clear hw1 hw2
    dsimp only
    go_wp2_with fail
    refine (seal_any (lstr (sealed x.data.toList)) _ (by rw [HS1.out]; omega)).mono ?_
    rintro e w3 ⟨rfl, hw3⟩
    have hB3 := hB2.trans (hw3.mono hB2.size)
    clear hB2 hw3
    rw [lstr_data]
    dsimp only
    go_wp2_with fail
    refine (open_any (lstr (sealed (sealed x.data.toList))) _ (by rw [HS2.out]; omega)).mono ?_
    rintro e w4 ⟨rfl, hw4⟩
    have hB4 := hB3.trans (hw4.mono hB3.size)
    clear hB3 hw4
    rw [lstr_data, opened_sealed]
    dsimp only
    go_wp2_with fail
    refine (open_any (lstr (sealed x.data.toList)) _ (by rw [HS1.out]; omega)).mono ?_
    rintro e w5 ⟨rfl, hw5⟩
    have hB5 := hB4.trans (hw5.mono hB4.size)
    clear hB4 hw5
    rw [lstr_data, opened_sealed, show lstr x.data.toList = x from rfl]
    dsimp only
    go_wp2_with fail
    refine (seal_any x _ (by omega)).mono ?_
    rintro e w6 ⟨rfl, hw6⟩
    have hB6 := hB5.trans (hw6.mono hB5.size)
    clear hB5 hw6
    dsimp only
    go_wp2_with fail
    refine (seal_any x _ (by omega)).mono ?_
    rintro e w7 ⟨rfl, hw7⟩
    have hB7 := hB6.trans (hw7.mono hB6.size)
    clear hB6 hw7
    dsimp only
    go_wp2_with fail
    refine (sum_one (lstr (sealed x.data.toList)) _ (by rw [HS1.out]; omega)).mono ?_
    rintro e w8 ⟨rfl, rfl⟩
    have hB8 := hB7.alloc hB7.size (.cells #[.string (lstr (sealed x.data.toList))] 9)
    clear hB7
    rw [lstr_data, crc_sealed]
    dsimp only
    go_wp2_with fail
    refine (seal_any y _ (by omega)).mono ?_
    rintro e w9 ⟨rfl, hw9⟩
    have hB9 := hB8.trans (hw9.mono hB8.size)
    clear hB8 hw9
    dsimp only
    go_wp2_with fail
    refine (sum_one (lstr (sealed y.data.toList)) _ (by rw [HS3.out]; omega)).mono ?_
    rintro e w10 ⟨rfl, rfl⟩
    have hB10 := hB9.alloc hB9.size (.cells #[.string (lstr (sealed y.data.toList))] 9)
    clear hB9
    rw [lstr_data, crc_sealed]
    generalize World.alloc _ _ = wa at hB10 ⊢
    dsimp only
    cases hemp : alike x ⟨#[]⟩ with
    | true =>
      go_wp2_with fail
      go_ret
      exact ⟨rfl, hB10⟩
    | false =>
      have hpos : 0 < x.size := by
        rcases Nat.eq_zero_or_pos x.size with h | h
        · have hx0 : x = ⟨#[]⟩ := Go.WideShapes.bytes_inj (List.eq_nil_of_length_eq_zero (Array.length_toList.trans h))
          rw [hx0] at hemp
          exact absurd ((str_eq (x := ⟨#[]⟩) rfl).symm.trans hemp) (by simp)
        · exact h
      obtain ⟨cap, w3, hconv, hby, hw3⟩ := bytes_of x wa
      have hB3 := hB10.trans (hw3.mono hB10.size)
      have hg := hB10.size
      have hgl : wa.heap.size < w3.heap.size := by
        have := block_lt_of_cell (hby.cell 0 (by rw [Array.length_toList]; exact hpos))
        exact this
      clear hB10 hw3
      generalize wa.heap.size = g at hconv hby hg hgl
      have hlen : x.data.toList.length = x.size := Array.length_toList
      have HL := Lib.hid hlen
      have hpos' : (0 : Int) < (x.size : Int) := by omega
      obtain ⟨a, ha⟩ : ∃ a : Nat, c % (8 * (x.size : Int)) = (a : Int) := ⟨(c % (8 * (x.size : Int))).toNat, by have := Int.emod_nonneg c (show 8 * (x.size : Int) ≠ 0 by omega); omega⟩
      have ha0 : c % (8 * (x.size : Int)) < 8 * (x.size : Int) := Int.emod_lt_of_pos _ (by omega)
      rw [ha] at ha0
      have HA := Lib.hid ha
      have HB3 := Lib.hid hB3
      have HBY := Lib.hid hby
      have HG := Lib.hid hgl
      have HX := Lib.hid hx
      clear hlen hB3 hby ha hgl
      go_wp2_with fail
      rw [HA.out]
      clear hconv h3
      have HI := Lib.hid (fun l => alike_same l x)
      have HCT := Lib.hid (crc_turn_iff x.data.toList a T)
      have HE := Lib.hid (fun n => @turn_end x.data.toList a T n)
      generalize hS : x.data.toList = S at HL HBY HCT HE HI ⊢
      have HXS := Lib.hid hS
      clear hS
      go_loopw [14] (fun i wr => ∃ n : Nat, n ≤ 32 ∧ i = .int .i64 n ∧ Bytes g (turn S a T n) wr ∧ Below w.heap.size w wr ∧ g < wr.heap.size) (fun i _ => 32 - (intOf i).toNat)
      case atStart => exact ⟨0, by omega, rfl, HBY.out, HB3.out, HG.out⟩
      case round =>
        clear HBY HB3 HG
        obtain ⟨n, hn, rfl, hby, hB, hgw⟩ := hrel
        by_cases hlt : n < 32 ∧ a + n < 8 * x.size
        · obtain ⟨hlt, hin⟩ := hlt
          have hn0 : (n : Int) < 32 := by omega
          have hk : (a : Int) + (n : Int) < 8 * (x.size : Int) := by omega
          have hin' : a + n < 8 * S.length := by rw [HL.out]; exact hin
          have HT := Lib.hid (show turn S a T (n + 1) = if T.getLsbD n && decide (a + n < 8 * S.length) then flip (turn S a T n) (a + n) else turn S a T n from rfl)
          have HB := Lib.hid hB
          have HBY := Lib.hid hby
          have HGW := Lib.hid hgw
          have htl : (turn S a T n).length = x.size := by rw [turn_length]; exact HL.out
          have hpar := par_shr T n
          clear hgw
          cases hbit : T.getLsbD n with
          | false =>
            rw [hbit] at hpar
            have HT1 := Lib.hid (show turn S a T (n + 1) = turn S a T n by rw [HT.out, hbit]; rfl)
            clear hB hby htl hbit HT hin hin'
            go_wp2
            go_roundw
            case rel => exact ⟨n + 1, by omega, by go_num, by rw [HT1.out]; exact HBY.out, HB.out, HGW.out⟩
            case measure => simp [intOf]; omega
          | true =>
            rw [hbit] at hpar
            have HT1 := Lib.hid (show turn S a T (n + 1) = flip (turn S a T n) (a + n) by rw [HT.out, hbit, decide_eq_true hin']; rfl)
            have HF := Lib.hid (hby.flip (a + n) (by rw [turn_length]; exact hin'))
            have hc := hby.cell ((a + n) / 8) (by rw [htl]; omega)
            have hz := hby.free ((a + n) / 8) (by rw [htl]; omega)
            have hd : ((a : Int) + (n : Int)) / 8 = (((a + n) / 8 : Nat) : Int) := by omega
            have hm : ((a : Int) + (n : Int)) % 8 = (((a + n) % 8 : Nat) : Int) := by omega
            have hq : (((a + n) / 8 : Nat) : Int) < (x.size : Int) := by omega
            have hr : (((a + n) % 8 : Nat) : Int) < 8 := by omega
            generalize (a + n) / 8 = q at hc hz hd hq HF
            generalize (a + n) % 8 = r at hm hr HF
            generalize (turn S a T n).getD q 0 = v at hc HF
            clear hB hby htl hbit HT hin hin' HBY
            go_wp2
            go_roundw
            case rel => exact ⟨n + 1, by omega, by go_num, by rw [HT1.out]; exact HF.out, HB.out.setCell (p := ⟨g, q, none⟩) hg _, by simpa using HGW.out⟩
            case measure => simp [intOf]; omega
        · have hend : turn S a T n = turn S a T 32 := by
            rcases Nat.lt_or_ge n 32 with h | h
            · have := HE.out n (by rw [HL.out]; omega) (32 - n)
              rw [← this, show n + (32 - n) = 32 by omega]
            · rw [show n = 32 by omega]
          rw [hend] at hby
          have hQ := HI.out (turn S a T 32) HCT.out
          have hlt' : ¬ (n : Int) < 32 ∨ ((n : Int) < 32 ∧ ¬ (a : Int) + (n : Int) < 8 * (x.size : Int)) := by omega
          have hls : (turn S a T 32).length = x.size := by rw [turn_length]; exact HL.out
          generalize turn S a T 32 = l at hby hQ hls
          have hback : backAt g x.size cap l wr := bytes_back hby x.size cap hls.symm
          have HH := Lib.hid (show backAt g x.size cap l wr ∧ Bytes g l wr ∧ g < wr.heap.size ∧ l.length = x.size from ⟨hback, hby, hgw, hls⟩)
          have HLS := Lib.hid (show (lstr l).size ≤ 140737488355328 by rw [lstr_size, hls]; omega)
          have HB := Lib.hid hB
          clear hls hby hB hgw hback hend hlt hn
          rw [← HXS.out] at hQ
          have HQ := Lib.hid hQ
          clear hQ
          rcases hlt' with hlt' | ⟨hlt', hlt2⟩
          all_goals
            go_wp2_with fail
            go_region_held3 (fun W => (convert 35 9 (.slice (some ⟨g, 0, none⟩) x.size cap)).run Try.prog W = .ok (.string (lstr l)) W ∧ Bytes g l W ∧ g < W.heap.size ∧ l.length = x.size)
              (first
                | exact back_below HH.out (Below.refl _ _).drew
                | exact back_below HH.out ((Below.refl _ _).alloc (Nat.le_refl _) _).drew
                | exact back_below HH.out (((Below.refl _ _).alloc (Nat.le_refl _) _).alloc (by simp) _).drew)
              (first
                | (go_at_call 10; (with_reducible refine (sum_cell_l l _ _ HLS.out ?_).mono ?_); (simp); rintro e w4 ⟨rfl, rfl⟩)
                | (go_at_call 10; (with_reducible refine (sum_cell x _ _ HX.out ?_).mono ?_); (simp); rintro e w5 ⟨rfl, rfl⟩))
            all_goals
              go_wp2_with fail
              rw [HQ.out]
              go_ret
              exact ⟨by simp, HB.out.trans (((((Below.refl _ _).alloc (Nat.le_refl _) _).alloc (by simp) _).drew).mono HB.out.size)⟩
  · rcases Nat.lt_or_ge 2000 x.size with h2 | h2
    · have h2' : (2000 : Int) < (x.size : Int) := by omega
      go_wp2
      go_ret
      exact ⟨rfl, hw1⟩
    · have h2' : (x.size : Int) ≤ 2000 := by omega
      rcases Nat.lt_or_ge 2000 y.size with h3 | h3
      · have h3' : (2000 : Int) < (y.size : Int) := by omega
        go_wp2
        go_ret
        exact ⟨rfl, hw1⟩
      · have h3' : (y.size : Int) ≤ 2000 := by omega
        have h4 : c < 0 := by omega
        go_wp2
        go_ret
        exact ⟨rfl, hw1⟩
end Go.Proofs.Ytmelcndcgaoegaa
