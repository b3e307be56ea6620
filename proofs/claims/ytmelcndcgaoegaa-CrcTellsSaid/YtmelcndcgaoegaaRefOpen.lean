/- The document's Seal and Open. -/
import Derived.Test.YtmelcndcgaoegaaOpen
import Derived.Test.YtmelcndcgaoegaaRefSum
namespace Go.Proofs.Ytmelcndcgaoegaa
open Go.RowKit Crc
attribute [local go_sem 9000] sem_shr32 run_b8

theorem refSum_cell (x : ByteArray) (b : Nat) (w : World) (hx : x.size ≤ 140737488355328) (hc : w.cell? ⟨b, 0, none⟩ = some (.string x)) :
    Calls Try.prog 11 #[.slice (some ⟨b, 0, none⟩) 1 1] w fun e w' => e = .returned (wv (crc x.data.toList)) ∧ w = w' := by
  have := refSum_any (some ⟨b, 0, none⟩) 1 1 [x] w ⟨rfl, fun i hi => ⟨b, 0, rfl, by
    match i, hi with
    | 0, _ => exact hc⟩⟩ (each_one hx) (by omega)
  rw [cat_one] at this
  exact this
theorem run_bytes4_at (w : World) (k : Nat) (hk : w.heap.size = k) (a b c d : UInt8) : (convert 35 9 (.slice (some ⟨k, 0, none⟩) 4 4)).run Try.prog (w.alloc (.cells #[bv a, bv b, bv c, bv d] 5)) = .ok (.string ⟨#[a, b, c, d]⟩) (w.alloc (.cells #[bv a, bv b, bv c, bv d] 5)) := by
  subst hk; exact run_bytes4 w a b c d
theorem low_str (x : BitVec 32) : (⟨#[b8 x, b8 (x >>> 8), b8 (x >>> 16), b8 (x >>> 24)]⟩ : ByteArray) = lstr (low x) := rfl
set_option maxRecDepth 100000 in
set_option maxHeartbeats 1000000 in
theorem refSeal_any (x : ByteArray) (w : World) (hx : x.size ≤ 140737488355320) :
    Calls Try.prog 13 #[.string x] w fun e w' => e = .returned (.string (lstr (sealed x.data.toList))) ∧ Below w.heap.size w w' := by
  have hx1 : (x.size : Int) ≤ 140737488355320 := by omega
  go_enter Try.func13, Try.ntmps13
  go_wp2_with fail
  refine (refSum_cell x _ _ (by omega) (by simp)).mono ?_
  rintro e w1 ⟨rfl, rfl⟩
  have HA := Lib.hid (show x ++ lstr (low (crc x.data.toList)) = lstr (sealed x.data.toList) from lstr_append x _)
  have hL : (lstr (low (crc x.data.toList))).size = 4 := by rw [lstr_size, low_length]
  have hb := run_bytes4_at (w.alloc (.cells #[.string x] 9)) (w.heap.size + 1) (by simp) (b8 (crc x.data.toList)) (b8 (crc x.data.toList >>> 8)) (b8 (crc x.data.toList >>> 16)) (b8 (crc x.data.toList >>> 24))
  rw [low_str] at hb
  dsimp only
  go_wp2_with fail
  rw [HA.out]
  go_ret
  exact ⟨rfl, ((Below.refl _ _).alloc (Nat.le_refl _) _).alloc (by simp) _⟩
theorem opened_iff (x : List UInt8) : sealed (x.take (x.length - 4)) = x ↔ low (crc (x.take (x.length - 4))) = x.drop (x.length - 4) := by
  unfold sealed
  constructor
  · intro e; exact List.append_cancel_left (e.trans (List.take_append_drop _ _).symm)
  · intro e; rw [e, List.take_append_drop]
set_option maxRecDepth 100000 in
set_option maxHeartbeats 1000000 in
theorem refOpen_any (x : ByteArray) (w : World) (hx : x.size ≤ 140737488355320) :
    Calls Try.prog 9 #[.string x] w fun e w' => e = .returned (.tuple #[.string (lstr (opened x.data.toList).1), .int .i64 (opened x.data.toList).2]) ∧ Below w.heap.size w w' := by
  have hl : x.data.toList.length = x.size := Array.length_toList
  have hx1 : (x.size : Int) ≤ 140737488355320 := by omega
  unfold opened
  rw [hl]
  by_cases h4 : x.size < 4
  · rw [if_pos h4]
    have h4' : (x.size : Int) < 4 := by omega
    clear hl
    go_enter Try.func9, Try.ntmps9
    go_wp2
    go_ret2
    exact ⟨rfl, Below.refl _ _⟩
  · rw [if_neg h4]
    have h4' : (4 : Int) ≤ (x.size : Int) := by omega
    have ht : ((x.size : Int) - 4).toNat = x.size - 4 := by omega
    have HE := Lib.hid (head_eq x (x.size - 4))
    have hi := opened_iff x.data.toList
    rw [hl] at hi
    have HL := Lib.hid (show (lstr (x.data.toList.take (x.size - 4))).size ≤ 140737488355320 by rw [lstr_size, List.length_take]; omega)
    by_cases hs : low (crc (x.data.toList.take (x.size - 4))) = x.data.toList.drop (x.size - 4)
    · rw [if_pos hs]
      have hq : ((lstr (sealed (x.data.toList.take (x.size - 4)))).toList == x.toList) = true := str_eq (by rw [hi.2 hs]; rfl)
      clear hs hi hl h4
      go_enter Try.func9, Try.ntmps9
      go_wp2_with fail
      rw [HE.out]
      refine (refSeal_any _ _ HL.out).mono ?_
      rintro e w1 ⟨rfl, hw1⟩
      rw [lstr_data]
      dsimp only
      go_wp2_with fail
      go_ret2
      exact ⟨rfl, hw1⟩
    · rw [if_neg hs]
      have hq : ((lstr (sealed (x.data.toList.take (x.size - 4)))).toList == x.toList) = false := str_ne (fun e => hs (hi.1 (lstr_inj (e.trans (lstr_own x).symm))))
      clear hs hi hl h4
      go_enter Try.func9, Try.ntmps9
      go_wp2_with fail
      rw [HE.out]
      refine (refSeal_any _ _ HL.out).mono ?_
      rintro e w1 ⟨rfl, hw1⟩
      rw [lstr_data]
      dsimp only
      go_wp2_with fail
      go_ret2
      exact ⟨rfl, hw1⟩
end Go.Proofs.Ytmelcndcgaoegaa
