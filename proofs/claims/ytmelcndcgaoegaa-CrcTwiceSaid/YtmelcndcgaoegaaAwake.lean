/- The law's own first question. -/
import Derived.Test.YtmelcndcgaoegaaOpen
namespace Go.Proofs.Ytmelcndcgaoegaa
open Go.RowKit Crc

theorem opened_sealed (l : List UInt8) : opened (sealed l) = (l, 0) := by
  unfold opened
  rw [if_neg (by rw [sealed_length]; omega), if_pos (by rw [sealed_take, sealed_drop]), sealed_take]
theorem opened_three : opened [97, 98, 99] = ([], 2) := rfl
theorem opened_five : opened [97, 98, 99, 100, 101] = ([], 8) := by decide +kernel
theorem crc_nine : crc [49, 50, 51, 52, 53, 54, 55, 56, 57] = 0xe3069283#32 := by decide +kernel

set_option maxRecDepth 100000 in
set_option maxHeartbeats 1000000 in
theorem awake_any (w : World) :
    Calls Try.prog 7 #[] w fun e w' => e = .returned (.bool true) ∧ Below w.heap.size w w' := by
  go_enter Try.func7, Try.ntmps7
  go_wp2_with fail
  refine (seal_any ⟨#[97, 98]⟩ _ (by decide)).mono ?_
  rintro e w1 ⟨rfl, hw1⟩
  dsimp only
  go_wp2_with fail
  refine (open_any (lstr (sealed [97, 98])) _ (by rw [lstr_size, sealed_length]; decide)).mono ?_
  rintro e w2 ⟨rfl, hw2⟩
  rw [lstr_data, opened_sealed, show lstr [97, 98] = ⟨#[97, 98]⟩ from rfl]
  have hB2 := hw1.trans (hw2.mono hw1.size)
  clear hw1 hw2
  dsimp only
  go_wp2_with fail
  refine (open_any ⟨#[97, 98, 99]⟩ _ (by decide)).mono ?_
  rintro e w3 ⟨rfl, hw3⟩
  rw [show (⟨#[97, 98, 99]⟩ : ByteArray).data.toList = [97, 98, 99] from rfl, opened_three]
  have hB3 := hB2.trans (hw3.mono hB2.size)
  clear hB2 hw3
  dsimp only
  go_wp2_with fail
  refine (open_any ⟨#[97, 98, 99, 100, 101]⟩ _ (by decide)).mono ?_
  rintro e w4 ⟨rfl, hw4⟩
  rw [show (⟨#[97, 98, 99, 100, 101]⟩ : ByteArray).data.toList = [97, 98, 99, 100, 101] from rfl, opened_five]
  have hB4 := hB3.trans (hw4.mono hB3.size)
  clear hB3 hw4
  dsimp only
  go_wp2_with fail
  refine (sum_two ⟨#[49, 50, 51, 52]⟩ ⟨#[53, 54, 55, 56, 57]⟩ _ (by decide) (by decide)).mono ?_
  rintro e w5 ⟨rfl, rfl⟩
  rw [show (⟨#[49, 50, 51, 52]⟩ : ByteArray).data.toList ++ (⟨#[53, 54, 55, 56, 57]⟩ : ByteArray).data.toList = [49, 50, 51, 52, 53, 54, 55, 56, 57] from rfl, crc_nine,
    show wv 0xe3069283#32 = .int .u32 3808858755 from rfl]
  dsimp only
  go_wp2_with fail
  go_ret
  exact ⟨rfl, hB4.alloc hB4.size _⟩
end Go.Proofs.Ytmelcndcgaoegaa
