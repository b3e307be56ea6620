/- CrcTells walked. -/
import Derived.Test.YtmelcndcgaoegaaAwake
import Derived.Test.YtmelcndcgaoegaaRefOpen
import Derived.Deep.AppendLies
namespace Go.Proofs.Ytmelcndcgaoegaa
open Go.RowKit Crc

theorem sem_streq (t : TypeId) (x : ByteArray) : binOp .eql t (.string x) (.string x) = pure (.bool true) := by rw [binOp_string_eql, str_eq rfl]
theorem sem_inteq (t : TypeId) (k : IntKind) (x : Int) : binOp .eql t (.int k x) (.int k x) = pure (.bool true) := by rw [binOp_eql, beq_self_eq_true]
attribute [local go_sem 9000] sem_streq sem_inteq

theorem info9 : (Try.prog.info? 9).map (fun i => (i.zero, i.size, i.bytes)) = some (some (.string ⟨#[]⟩), 1, 16) := by kernel_rfl
theorem owns_none (w : World) : (w.alloc (.cells #[] 9)).ownsRow w.heap.size 9 1 (.slice (some ⟨w.heap.size, 0, none⟩) 0 0) 0 [] :=
  ⟨rfl, .inr ⟨w.heap.size, 0, #[], rfl, Nat.le_refl _, heap_alloc_new w _, Nat.le_refl _, Nat.zero_le _, rfl, rfl⟩⟩
theorem strs_news {ad : Addr} {len : Nat} {ss : List ByteArray} {w : World} (h : Strs (some ad) len ss w) : ∀ (j : Nat) u, (ss.map Value.string)[j]? = some u → w.cell? (ad.add j) = some u := by
  intro j u hj
  have hl : j < ss.length := by
    rcases Nat.lt_or_ge j ss.length with h1 | h1
    · exact h1
    · rw [List.getElem?_eq_none (by simpa using h1)] at hj; cases hj
  obtain ⟨b, off, e, hc⟩ := h.cell j (by rw [h.count]; exact hl)
  injection e with e
  subst e
  rw [Go.WideShapes.add_plain, hc]
  rw [List.getElem?_map, List.getElem?_eq_getElem hl] at hj
  simpa [List.getD, List.getElem?_eq_getElem hl] using hj
theorem ownsRow_shape' {w : World} {base : Nat} {e : TypeId} {size : Nat} {v : Value} {n : Nat} {xs : List Value} (h : w.ownsRow base e size v n xs) : ∃ a c, v = .slice a n c := by
  obtain ⟨_, ⟨rfl, rfl, _⟩ | ⟨g, cap, _, rfl, _⟩⟩ := h
  · exact ⟨_, _, rfl⟩
  · exact ⟨_, _, rfl⟩
theorem strs_owned {base : Nat} {v : Value} {n : Nat} {ss : List ByteArray} {w : World} (h : w.ownsRow base 9 1 v n (ss.map Value.string)) (hn : n = ss.length) : ∃ a c, v = .slice a n c ∧ Strs a n ss w := by
  obtain ⟨a, c, rfl⟩ := ownsRow_shape' h
  refine ⟨a, c, rfl, hn, fun i hi => ?_⟩
  have h2 := h
  obtain ⟨_, ⟨e, h0⟩ | ⟨g, cap, cur, e, _⟩⟩ := h
  · omega
  · injection e with e1 e2 e3
    subst e1
    refine ⟨g, 0, rfl, ?_⟩
    rw [Nat.zero_add, World.ownsRow.cellAt h2 i (by omega), List.getElem?_map, List.getElem?_eq_getElem (by omega)]
    simp [List.getD, List.getElem?_eq_getElem (show i < ss.length by omega)]

set_option maxRecDepth 100000 in
set_option maxHeartbeats 2000000 in
theorem tells_any (a : Option Addr) (len cap : Nat) (ss : List ByteArray) (x : ByteArray) (w : World) (hS : Strs a len ss w) (hr : ∀ i, i < len → (ss.getD i ByteArray.empty).size ≤ 140737488355328) (hnil : a = none → len = 0 ∧ cap = 0) :
    Calls Try.prog 3 #[.slice a len cap, .string x] w fun e w' => e = .returned (.bool true) ∧ Below w.heap.size w w' := by
  go_enter Try.func3, Try.ntmps3
  go_wp2_with fail
  refine (awake_any _).mono ?_
  rintro e w1 ⟨rfl, hw1⟩
  have hS1 := hS.below hw1
  clear hS
  dsimp only
  by_cases h1 : len ≤ 30 ∧ x.size ≤ 2000
  · obtain ⟨h1, h2⟩ := h1
    have h1' : (len : Int) ≤ 30 := by omega
    have h2' : (x.size : Int) ≤ 2000 := by omega
    go_wp2_with fail
    go_loop [5] (fun i => ∃ k : Nat, k ≤ len ∧ i = .int .i64 k ∧ ∀ i, i < k → (ss.getD i ByteArray.empty).size ≤ 500) (fun i => len - (intOf i).toNat)
    case atStart => exact ⟨0, by omega, rfl, fun i hi => by omega⟩
    case round =>
      obtain ⟨k, hk, rfl, hall⟩ := hrel
      have HA := Lib.hid hall
      clear hall
      by_cases hlt : k < len
      · obtain ⟨b, off, rfl, hcell⟩ := hS1.cell k hlt
        have hk0 : (k : Int) < (len : Int) := by omega
        have hx := hr k hlt
        by_cases h5 : (ss.getD k ByteArray.empty).size ≤ 500
        · have HN := Lib.hid (show ∀ i, i < k + 1 → (ss.getD i ByteArray.empty).size ≤ 500 from fun i hi => by
            rcases Nat.lt_or_ge i k with h | h
            · exact HA.out i h
            · obtain rfl : i = k := by omega
              exact h5)
          generalize ss.getD k ByteArray.empty = y at hcell hx h5
          have h5' : (y.size : Int) ≤ 500 := by omega
          go_wp2
          go_round
          case rel => exact ⟨k + 1, by omega, by go_num, HN.out⟩
          case measure => simp [intOf]; omega
        · generalize ss.getD k ByteArray.empty = y at hcell hx h5
          have h5' : (500 : Int) < (y.size : Int) := by omega
          go_wp2
          go_ret
          exact ⟨rfl, hw1⟩
      · obtain rfl : k = len := by omega
        have HR := Lib.hid (show ∀ i, i < k → (ss.getD i ByteArray.empty).size ≤ 140737488355328 from hr)
        clear hr
        go_wp2_with fail
        refine (open_any x _ (by omega)).mono ?_
        rintro e w2 ⟨rfl, hw2⟩
        have hS2 := hS1.below hw2
        have hB2 := hw1.trans (hw2.mono hw1.size)
        clear hS1 hw1 hw2
        dsimp only
        go_wp2_with fail
        refine (refOpen_any x _ (by omega)).mono ?_
        rintro e w3 ⟨rfl, hw3⟩
        have hS3 := hS2.below hw3
        have hB3 := hB2.trans (hw3.mono hB2.size)
        clear hS2 hB2 hw3
        generalize opened x.data.toList = o
        obtain ⟨ot, oe⟩ := o
        obtain ⟨i0, hi, hz0, hz1, hz2⟩ := info_parts info9
        have hO := owns_none w3
        have hsz := hB3.size
        have hW3 := (Below.refl w3.heap.size w3).alloc (Nat.le_refl _) (.cells #[] 9)
        dsimp only
        cases a with
        | none =>
          obtain ⟨rfl, rfl⟩ := hnil rfl
          have hS4 : Strs (some ⟨w3.heap.size, 0, none⟩) 0 ss (w3.alloc (.cells #[] 9)) := ⟨hS3.count, fun i hi => by omega⟩
          go_wp2_with (refine wpList_append_own_none rfl (.tmp 42) (.tmp 43) 22 rfl w3.heap.size 9 i0 1 Try.underlying22 hi _ _ _ rfl hO rfl ?_)
          have hS5 := hS3.below hW3
          have hB5 := hB3.trans (hW3.mono hsz)
          clear hS3 hB3 hO hW3
          refine (sum_any _ _ _ ss _ hS4 HR.out (by omega)).mono ?_
          rintro e w5 ⟨rfl, rfl⟩
          dsimp only
          go_wp2_with fail
          refine (refSum_any _ _ _ ss _ hS5 HR.out (by omega)).mono ?_
          rintro e w6 ⟨rfl, rfl⟩
          dsimp only
          go_wp2_with fail
          refine (seal_any x _ (by omega)).mono ?_
          rintro e w7 ⟨rfl, hw7⟩
          dsimp only
          go_wp2_with fail
          refine (refSeal_any x _ (by omega)).mono ?_
          rintro e w8 ⟨rfl, hw8⟩
          have hB8 := (hB5.trans (hw7.mono hB5.size)).trans (hw8.mono (Nat.le_trans hB5.size hw7.size))
          clear hB5 hw7 hw8 hS4 hS5
          dsimp only
          go_wp2_with fail
          go_ret
          exact ⟨rfl, hB8⟩
        | some ad =>
          have hL1 := Lib.hid hS3.count
          go_wp2_with (refine wpList_append_own _ rfl (.tmp 42) (.tmp 43) 22 rfl w3.heap.size 9 i0 (.string ⟨#[]⟩) 1 16 Try.underlying22 hi hz0 hz1 hz2 rfl (by decide) _ _ _ rfl hO ad k cap (ss.map .string) rfl (by rw [List.length_map, ← hL1.out]; omega) (strs_news (hS3.below hW3)) (by intro u hu; obtain ⟨x, _, rfl⟩ := List.mem_map.1 hu; rfl) (by unfold maxLen; omega) (by omega) (by simp) ?_; intro v' w4 hown hgrow _)
          obtain ⟨a4, c4, rfl, hS4⟩ := strs_owned (ss := ss) (n := k) (by simpa using hown) hL1.out
          have hW4 := hW3.grown hgrow (by simp) (fun k hk => by cases hk; exact Nat.le_refl _)
          have hS5 := hS3.below hW4
          have hB5 := hB3.trans (hW4.mono hsz)
          clear hS3 hB3 hO hW3 hW4 hown hgrow hL1
          refine (sum_any _ _ _ ss _ hS4 HR.out (by omega)).mono ?_
          rintro e w5 ⟨rfl, rfl⟩
          dsimp only
          go_wp2_with fail
          refine (refSum_any _ _ _ ss _ hS5 HR.out (by omega)).mono ?_
          rintro e w6 ⟨rfl, rfl⟩
          dsimp only
          go_wp2_with fail
          refine (seal_any x _ (by omega)).mono ?_
          rintro e w7 ⟨rfl, hw7⟩
          dsimp only
          go_wp2_with fail
          refine (refSeal_any x _ (by omega)).mono ?_
          rintro e w8 ⟨rfl, hw8⟩
          have hB8 := (hB5.trans (hw7.mono hB5.size)).trans (hw8.mono (Nat.le_trans hB5.size hw7.size))
          clear hB5 hw7 hw8 hS4 hS5
          dsimp only
          go_wp2_with fail
          go_ret
          exact ⟨rfl, hB8⟩
  · rcases Nat.lt_or_ge 30 len with h2 | h2
    · have h2' : (30 : Int) < (len : Int) := by omega
      go_wp2
      go_ret
      exact ⟨rfl, hw1⟩
    · have h2' : (len : Int) ≤ 30 := by omega
      have h3 : (2000 : Int) < (x.size : Int) := by omega
      go_wp2
      go_ret
      exact ⟨rfl, hw1⟩
end Go.Proofs.Ytmelcndcgaoegaa
