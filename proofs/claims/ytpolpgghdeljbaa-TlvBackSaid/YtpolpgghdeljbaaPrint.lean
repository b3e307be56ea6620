/- tlv.Print. -/
import Derived.Test.YtpolpgghdeljbaaHead
namespace Go.Proofs.Ytpolpgghdeljbaa
open Go.RowKit Crc

theorem lstr_cat (a b : List UInt8) : lstr a ++ lstr b = lstr (a ++ b) := lstr_append (lstr a) b
theorem head_length (k s n : Int) : (Tlv.head k s n).length = 7 := rfl
theorem bytes_length (x : Tlv.R) : (Tlv.bytes x).length = x.2.2.length + 11 := by
  unfold Tlv.bytes; rw [sealed_length, List.length_append, head_length]; omega
/-- Seal, of what two texts make. -/
theorem seal_two (a b : List UInt8) (w : World) (h : a.length + b.length ≤ 140737488355320) :
    Calls Try.prog 21 #[.string (lstr a ++ lstr b)] w fun e w' => e = .returned (.string (lstr (sealed (a ++ b)))) ∧ Below w.heap.size w w' := by
  rw [lstr_cat]
  have := seal_any (lstr (a ++ b)) w (by rw [lstr_size, List.length_append]; exact h)
  rw [lstr_data] at this
  exact this

set_option maxRecDepth 100000 in
set_option maxHeartbeats 2000000 in
theorem print_any (x : Tlv.R) (w : World) (hx : x.2.2.length ≤ 140737488355328) :
    Calls Try.prog 14 #[rv x] w fun e w' => e = .returned (.tuple #[.string (lstr (Tlv.printed x).1), .int .i64 (Tlv.printed x).2]) ∧ Below w.heap.size w w' := by
  unfold Tlv.printed
  by_cases hr : 1 ≤ x.1 ∧ x.1 ≤ 255 ∧ 0 ≤ x.2.1 ∧ x.2.1 ≤ 2147483647
  · rw [if_pos hr]
    obtain ⟨h1, h2, h3, h4⟩ := hr
    by_cases hl : x.2.2.length ≤ 8192
    · rw [if_pos hl]
      have H22 := Lib.hid (headText_any x)
      have H21 := Lib.hid (seal_two (Tlv.head x.1 x.2.1 x.2.2.length) x.2.2)
      have HP := Lib.hid (show x.2.2.length ≤ 140737488355328 by omega)
      have HQ := Lib.hid (show (Tlv.head x.1 x.2.1 x.2.2.length).length + x.2.2.length ≤ 140737488355320 by rw [head_length]; omega)
      have HB := Lib.hid (show sealed (Tlv.head x.1 x.2.1 x.2.2.length ++ x.2.2) = Tlv.bytes x from rfl)
      have hsz : (lstr x.2.2).size ≤ 8192 := by rw [lstr_size]; exact hl
      have hh : (lstr (Tlv.head x.1 x.2.1 x.2.2.length)).size = 7 := rfl
      generalize Tlv.head x.1 x.2.1 x.2.2.length = hd at H22 H21 HQ HB hh
      generalize sealed (hd ++ x.2.2) = sl at H21 HB
      rw [← HB.out]
      clear HB hl hx
      obtain ⟨k, s, p⟩ := x
      change 1 ≤ k at h1
      change k ≤ 255 at h2
      change 0 ≤ s at h3
      change s ≤ 2147483647 at h4
      change (lstr p).size ≤ 8192 at hsz
      change Hid (∀ w, p.length ≤ 140737488355328 → Calls Try.prog 22 #[.agg #[.int .i64 k, .int .i64 s, .string (lstr p)]] w _) at H22
      change Hid (∀ w, hd.length + p.length ≤ 140737488355320 → Calls Try.prog 21 #[.string (lstr hd ++ lstr p)] w _) at H21
      change Hid (p.length ≤ 140737488355328) at HP
      change Hid (hd.length + p.length ≤ 140737488355320) at HQ
      show Calls Try.prog 14 #[.agg #[.int .i64 k, .int .i64 s, .string (lstr p)]] w fun e w' => e = .returned (.tuple #[.string (lstr sl), .int .i64 0]) ∧ Below w.heap.size w w'
      generalize lstr p = y at hsz H22 H21 ⊢
      have hsz' : (y.size : Int) ≤ 8192 := by omega
      have hlim : 7 + y.size ≤ 9223372036854775807 := by omega
      have hlim2 : ¬ (9223372036854775807 < 7 + y.size) := by omega
      have c0 : (w.alloc (.cells #[.int .i64 k, .int .i64 s, .string y] 38)).cell? ⟨w.heap.size, 0, none⟩ = some (.int .i64 k) := by simp
      have c1 : (w.alloc (.cells #[.int .i64 k, .int .i64 s, .string y] 38)).cell? ⟨w.heap.size, 1, none⟩ = some (.int .i64 s) := by simp
      have c2 : (w.alloc (.cells #[.int .i64 k, .int .i64 s, .string y] 38)).cell? ⟨w.heap.size, 2, none⟩ = some (.string y) := by simp
      have hg : w.heap.size < (w.alloc (.cells #[.int .i64 k, .int .i64 s, .string y] 38)).heap.size := by simp
      have HB0 := Lib.hid ((Below.refl w.heap.size w).alloc (Nat.le_refl _) (.cells #[.int .i64 k, .int .i64 s, .string y] 38))
      go_enter Try.func14, Try.ntmps14
      go_wp2_with fail
      generalize w.alloc (.cells #[.int .i64 k, .int .i64 s, .string y] 38) = w0 at c0 c1 c2 hg HB0 ⊢
      go_region_held3 (fun w' => w'.cell? ⟨w.heap.size, 0, none⟩ = some (.int .i64 k) ∧ w'.cell? ⟨w.heap.size, 1, none⟩ = some (.int .i64 s) ∧ w'.cell? ⟨w.heap.size, 2, none⟩ = some (.string y))
        (first | exact ⟨c0, c1, c2⟩ | exact ⟨(hw1.cell hg).trans c0, (hw1.cell hg).trans c1, (hw1.cell hg).trans c2⟩ | exact ⟨(hw2.cell (Nat.lt_of_lt_of_le hg hw1.size)).trans ((hw1.cell hg).trans c0), (hw2.cell (Nat.lt_of_lt_of_le hg hw1.size)).trans ((hw1.cell hg).trans c1), (hw2.cell (Nat.lt_of_lt_of_le hg hw1.size)).trans ((hw1.cell hg).trans c2)⟩)
        (first
        | (go_at_call 22; (with_reducible refine (H22.out _ HP.out).mono ?_); rintro e w1 ⟨rfl, hw1⟩)
        | (go_at_call 21; (with_reducible refine (H21.out _ HQ.out).mono ?_); rintro e w2 ⟨rfl, hw2⟩))
      all_goals
        go_wp2
        go_ret2
        exact ⟨rfl, HB0.out.trans (((Below.refl w0.heap.size w0).drew.trans (hw1.trans (hw2.mono hw1.size))).mono (Nat.le_of_lt hg))⟩
    · rw [if_neg hl]
      have hsz : 8192 < (lstr x.2.2).size := by rw [lstr_size]; omega
      obtain ⟨k, s, p⟩ := x
      change 1 ≤ k at h1
      change k ≤ 255 at h2
      change 0 ≤ s at h3
      change s ≤ 2147483647 at h4
      change 8192 < (lstr p).size at hsz
      have hsz' : (8192 : Int) < ((lstr p).size : Int) := by omega
      clear hl hx
      show Calls Try.prog 14 #[.agg #[.int .i64 k, .int .i64 s, .string (lstr p)]] w fun e w' => e = .returned (.tuple #[.string ⟨#[]⟩, .int .i64 3]) ∧ Below w.heap.size w w'
      go_enter Try.func14, Try.ntmps14
      go_wp2
      go_ret2
      exact ⟨rfl, (Below.refl _ _).alloc (Nat.le_refl _) _⟩
  · rw [if_neg hr]
    obtain ⟨k, s, p⟩ := x
    change ¬ (1 ≤ k ∧ k ≤ 255 ∧ 0 ≤ s ∧ s ≤ 2147483647) at hr
    clear hx
    show Calls Try.prog 14 #[.agg #[.int .i64 k, .int .i64 s, .string (lstr p)]] w fun e w' => e = .returned (.tuple #[.string ⟨#[]⟩, .int .i64 1]) ∧ Below w.heap.size w w'
    by_cases h1 : k < 1
    · clear hr
      go_enter Try.func14, Try.ntmps14
      go_wp2
      go_ret2
      exact ⟨rfl, (Below.refl _ _).alloc (Nat.le_refl _) _⟩
    · have h1' : 1 ≤ k := by omega
      by_cases h2 : 255 < k
      · clear hr h1
        go_enter Try.func14, Try.ntmps14
        go_wp2
        go_ret2
        exact ⟨rfl, (Below.refl _ _).alloc (Nat.le_refl _) _⟩
      · have h2' : k ≤ 255 := by omega
        by_cases h3 : s < 0
        · clear hr h1 h2
          go_enter Try.func14, Try.ntmps14
          go_wp2
          go_ret2
          exact ⟨rfl, (Below.refl _ _).alloc (Nat.le_refl _) _⟩
        · have h3' : 0 ≤ s := by omega
          have h4 : 2147483647 < s := by omega
          clear hr h1 h2 h3
          go_enter Try.func14, Try.ntmps14
          go_wp2
          go_ret2
          exact ⟨rfl, (Below.refl _ _).alloc (Nat.le_refl _) _⟩
end Go.Proofs.Ytpolpgghdeljbaa
