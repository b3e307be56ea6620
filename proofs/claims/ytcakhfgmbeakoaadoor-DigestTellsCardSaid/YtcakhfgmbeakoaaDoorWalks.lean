/- The law walked. -/
import Derived.Test.YtcakhfgmbeakoaaDoorLaw
import Derived.Test.YtcakhfgmbeakoaaDoorRefJoin
namespace Go.Proofs.YtcakhfgmbeakoaaDoor
open Go.RowKit Sha

theorem joined_length (ss : List ByteArray) : (joined ss).length = 4 * ss.length + (cat ss).length := by
  induction ss with
  | nil => rfl
  | cons x ss ih =>
    have e1 : joined (x :: ss) = (num x.size 4 ++ x.data.toList) ++ joined ss := rfl
    have e2 : cat (x :: ss) = x.data.toList ++ cat ss := rfl
    rw [e1, e2, List.length_append, List.length_append, List.length_append, num_length, ih, List.length_cons]; omega
theorem info9 : (Tryd.prog.info? 9).map (fun i => (i.zero, i.size, i.bytes)) = some (some (.string ⟨#[]⟩), 1, 16) := by kernel_rfl
theorem owns_none (w : World) : (w.alloc (.cells #[] 9)).ownsRow w.heap.size 9 1 (.slice (some ⟨w.heap.size, 0, none⟩) 0 0) 0 [] :=
  ⟨rfl, .inr ⟨w.heap.size, 0, #[], rfl, Nat.le_refl _, heap_alloc_new w _, Nat.le_refl _, Nat.zero_le _, rfl, rfl⟩⟩
theorem strs_news {ad : Addr} {len : Nat} {ss : List ByteArray} {w : World} (h : Strs (some ad) len ss w) : ∀ (j : Nat) u, (ss.map Value.string)[j]? = some u → w.cell? (ad.add j) = some u := by
  intro j u hj
  have hl : j < ss.length := by
    rcases Nat.lt_or_ge j ss.length with h1 | h1
    · exact h1
    · rw [List.getElem?_eq_none (by simpa using h1)] at hj; cases hj
  obtain ⟨b, off, e, hc⟩ := h.cell j (by rw [h.count]; exact hl)
  injection e with e
  subst e
  rw [Go.WideShapes.add_plain, hc]
  rw [List.getElem?_map, List.getElem?_eq_getElem hl] at hj
  simpa [List.getD, List.getElem?_eq_getElem hl] using hj
set_option maxRecDepth 100000 in
set_option maxHeartbeats 2000000 in
theorem law_any (a : Option Addr) (len cap : Nat) (ss : List ByteArray) (t : UInt8) (w : World) (hK : KOk w) (hI : IOk w) (hS : Strs a len ss w) (hr : ∀ i, i < len → (ss.getD i ByteArray.empty).size ≤ 140737488355328) (hnil : a = none → len = 0 ∧ cap = 0) :
    Calls Tryd.prog 3 #[.slice a len cap, bv t] w fun e w' => e = .returned (.bool true) ∧ Below w.heap.size w w' := by
  go_enter Tryd.func3, Tryd.ntmps3
  go_wp2_with fail
  refine (awake_any _ hK hI).mono ?_
  rintro e w1 ⟨rfl, hw1⟩
  have hK1 := hK.below hw1
  have hI1 := hI.below hw1
  have hS1 := hS.below hw1
  clear hK hI hS
  dsimp only
  go_wp2_with fail
  refine (few_any _ _ _ _ _ hS1 hr).mono ?_
  rintro e w2 ⟨b, rfl, hb, rfl⟩
  cases b with
  | false =>
    dsimp only
    go_wp2_with fail
    go_ret
    exact ⟨rfl, hw1⟩
  | true =>
    obtain ⟨hl, hc⟩ := hb rfl
    clear hb hr
    obtain ⟨i0, hi, hz0, hz1, hz2⟩ := info_parts info9
    have hO := owns_none w1
    have hsz := hw1.size
    have hW1 := (Below.refl w1.heap.size w1).alloc (Nat.le_refl _) (.cells #[] 9)
    dsimp only
    cases a with
    | none =>
      obtain ⟨rfl, rfl⟩ := hnil rfl
      have hss : ss = [] := List.eq_nil_of_length_eq_zero hS1.count.symm
      have hS3 : Strs (some ⟨w1.heap.size, 0, none⟩) 0 ss (w1.alloc (.cells #[] 9)) := ⟨hS1.count, fun i hi => by omega⟩
      go_wp2_with (refine wpList_append_own_none rfl (.tmp 12) (.tmp 13) 22 rfl w1.heap.size 9 i0 1 Tryd.underlying22 hi _ _ _ rfl hO rfl ?_)
      have hB2 := hW1
      have hK2 := hK1.below hB2
      have hI2 := hI1.below hB2
      have hS2 := hS1.below hB2
      have hA := hw1.trans (hB2.mono hsz)
      clear hK1 hI1 hS1 hw1 hO hW1 hnil
      refine (sum_any _ _ _ ss _ hK2 hI2 hS3 (by omega) (by omega)).mono ?_
      rintro e w3 ⟨rfl, hw3⟩
      rw [show (⟨(sha (cat ss)).toArray⟩ : ByteArray) = lstr (sha (cat ss)) from rfl]
      have hK3 := hK2.below hw3
      have hI3 := hI2.below hw3
      have hT3 := hS3.below hw3
      have hS4 := hS2.below hw3
      have hA3 := hA.trans (hw3.mono hA.size)
      clear hK2 hI2 hS3 hS2 hA hw3
      dsimp only
      go_wp2_with fail
      refine (refSum_any _ _ _ ss _ hS4 (by omega) (by omega)).mono ?_
      rintro e w4 ⟨rfl, hw4⟩
      have hsv : (lstr (sha (cat ss))).size = 32 := by rw [lstr_size, sha_length]
      generalize lstr (sha (cat ss)) = sv at hsv ⊢
      have hK4 := hK3.below hw4
      have hI4 := hI3.below hw4
      have hT4 := hT3.below hw4
      have hS5 := hS4.below hw4
      have hA4 := hA3.trans (hw4.mono hA3.size)
      clear hK3 hI3 hT3 hS4 hA3 hw4
      have hlen := Lib.hid hsv
      clear hsv
      dsimp only
      go_wp2_with fail
      refine (join_any t _ _ _ ss _ hK4 hI4 hT4 (by rw [joined_length, ← hT4.count]; omega) (by omega)).mono ?_
      rintro e w5 ⟨rfl, hw5⟩
      rw [show (⟨(sha (t :: joined ss)).toArray⟩ : ByteArray) = lstr (sha (t :: joined ss)) from rfl]
      have hS6 := hS5.below hw5
      have hA5 := hA4.trans (hw5.mono hA4.size)
      clear hK4 hI4 hT4 hS5 hA4 hw5
      dsimp only
      go_wp2_with fail
      refine (refJoin_any t _ _ _ ss _ hS6 (by rw [joined_length, ← hS6.count]; omega) (by omega)).mono ?_
      rintro e w6 ⟨rfl, hw6⟩
      generalize lstr (sha (t :: joined ss)) = jv
      have hA6 := hA5.trans (hw6.mono hA5.size)
      clear hS6 hA5 hw6
      dsimp only
      go_wp2_with fail
      refine (digits_any sv _ (by rw [hlen.out]; omega)).mono ?_
      rintro e w7 ⟨rfl, hw7⟩
      rw [show (⟨(digits sv.data.toList).toArray⟩ : ByteArray) = lstr (digits sv.data.toList) from rfl]
      have hA7 := hA6.trans (hw7.mono hA6.size)
      clear hA6 hw7
      dsimp only
      go_wp2_with fail
      refine (refDigits_any sv _ (by rw [hlen.out]; omega)).mono ?_
      rintro e w8 ⟨rfl, hw8⟩
      generalize lstr (digits sv.data.toList) = dv
      have hA8 := hA7.trans (hw8.mono hA7.size)
      clear hA7 hw8
      have hq : ((sv.size : Int) == 32) = true := by rw [beq_iff_eq, hlen.out]; rfl
      dsimp only
      go_wp2_with fail
      go_ret
      exact ⟨rfl, hA8⟩
    | some ad =>
      have hL1 := Lib.hid hS1.count
      go_wp2_with (refine wpList_append_own _ rfl (.tmp 12) (.tmp 13) 22 rfl w1.heap.size 9 i0 (.string ⟨#[]⟩) 1 16 Tryd.underlying22 hi hz0 hz1 hz2 rfl (by decide) _ _ _ rfl hO ad len cap (ss.map .string) rfl (by rw [List.length_map, ← hL1.out]; omega) (strs_news (hS1.below hW1)) (by intro u hu; obtain ⟨x, _, rfl⟩ := List.mem_map.1 hu; rfl) (by unfold maxLen; omega) (by omega) (by simp) ?_; intro v' w2 hown hgrow _)
      obtain ⟨a3, c3, rfl, hS3⟩ := strs_owned (ss := ss) (n := len) (by simpa using hown) hL1.out
      have hB2 := hW1.grown hgrow (by simp) (fun k hk => by cases hk; exact Nat.le_refl _)
      have hK2 := hK1.below hB2
      have hI2 := hI1.below hB2
      have hS2 := hS1.below hB2
      have hA := hw1.trans (hB2.mono hsz)
      clear hK1 hI1 hS1 hw1 hO hW1 hnil hown hgrow hL1
      refine (sum_any _ _ _ ss _ hK2 hI2 hS3 (by omega) (by omega)).mono ?_
      rintro e w3 ⟨rfl, hw3⟩
      rw [show (⟨(sha (cat ss)).toArray⟩ : ByteArray) = lstr (sha (cat ss)) from rfl]
      have hK3 := hK2.below hw3
      have hI3 := hI2.below hw3
      have hT3 := hS3.below hw3
      have hS4 := hS2.below hw3
      have hA3 := hA.trans (hw3.mono hA.size)
      clear hK2 hI2 hS3 hS2 hA hw3
      dsimp only
      go_wp2_with fail
      refine (refSum_any _ _ _ ss _ hS4 (by omega) (by omega)).mono ?_
      rintro e w4 ⟨rfl, hw4⟩
      have hsv : (lstr (sha (cat ss))).size = 32 := by rw [lstr_size, sha_length]
      generalize lstr (sha (cat ss)) = sv at hsv ⊢
      have hK4 := hK3.below hw4
      have hI4 := hI3.below hw4
      have hT4 := hT3.below hw4
      have hS5 := hS4.below hw4
      have hA4 := hA3.trans (hw4.mono hA3.size)
      clear hK3 hI3 hT3 hS4 hA3 hw4
      have hlen := Lib.hid hsv
      clear hsv
      dsimp only
      go_wp2_with fail
      refine (join_any t _ _ _ ss _ hK4 hI4 hT4 (by rw [joined_length, ← hT4.count]; omega) (by omega)).mono ?_
      rintro e w5 ⟨rfl, hw5⟩
      rw [show (⟨(sha (t :: joined ss)).toArray⟩ : ByteArray) = lstr (sha (t :: joined ss)) from rfl]
      have hS6 := hS5.below hw5
      have hA5 := hA4.trans (hw5.mono hA4.size)
      clear hK4 hI4 hT4 hS5 hA4 hw5
      dsimp only
      go_wp2_with fail
      refine (refJoin_any t _ _ _ ss _ hS6 (by rw [joined_length, ← hS6.count]; omega) (by omega)).mono ?_
      rintro e w6 ⟨rfl, hw6⟩
      generalize lstr (sha (t :: joined ss)) = jv
      have hA6 := hA5.trans (hw6.mono hA5.size)
      clear hS6 hA5 hw6
      dsimp only
      go_wp2_with fail
      refine (digits_any sv _ (by rw [hlen.out]; omega)).mono ?_
      rintro e w7 ⟨rfl, hw7⟩
      rw [show (⟨(digits sv.data.toList).toArray⟩ : ByteArray) = lstr (digits sv.data.toList) from rfl]
      have hA7 := hA6.trans (hw7.mono hA6.size)
      clear hA6 hw7
      dsimp only
      go_wp2_with fail
      refine (refDigits_any sv _ (by rw [hlen.out]; omega)).mono ?_
      rintro e w8 ⟨rfl, hw8⟩
      generalize lstr (digits sv.data.toList) = dv
      have hA8 := hA7.trans (hw8.mono hA7.size)
      clear hA7 hw8
      have hq : ((sv.size : Int) == 32) = true := by rw [beq_iff_eq, hlen.out]; rfl
      dsimp only
      go_wp2_with fail
      go_ret
      exact ⟨rfl, hA8⟩
end Go.Proofs.YtcakhfgmbeakoaaDoor
