/- tlv.New, Next, Waiting, leave, takeNext. -/
import Derived.Test.YtpolpgghdeljbaaStr
namespace Go.Proofs.Ytpolpgghdeljbaa
open Go.RowKit Crc

set_option maxHeartbeats 1000000 in
set_option maxRecDepth 100000 in
theorem new_any (w : World) : Calls Try.prog 8 #[] w fun e w' => e = .returned (ptr w.heap.size) ∧ Rd w' w.heap.size (.slice none 0 0) ([], 0, 0) ∧ Below w.heap.size w w' ∧ w.heap.size < w'.heap.size := by
  go_enter Try.func8, Try.ntmps8
  go_wp2
  go_ret
  exact ⟨rfl, ⟨_, heap_alloc_new w _, World.ownsRowF_nil _ _ _ _, .inl rfl⟩, (Below.refl _ _).alloc (Nat.le_refl _) _, by simp⟩
variable {w : World} {r : Nat} {v : Value} {s : Tlv.S}
set_option maxHeartbeats 1000000 in
set_option maxRecDepth 100000 in
theorem next_any (D : Rd w r v s) : Calls Try.prog 12 #[ptr r] w fun e w' => e = .returned (.int .i64 s.2.1) ∧ w = w' := by
  have c2 := D.c2
  clear D
  go_enter Try.func12, Try.ntmps12
  go_wp2
  go_ret
  exact ⟨rfl, rfl⟩
set_option maxHeartbeats 1000000 in
set_option maxRecDepth 100000 in
theorem waiting_any (D : Rd w r v s) : Calls Try.prog 13 #[ptr r] w fun e w' => e = .returned (.int .i64 s.1.length) ∧ w = w' := by
  have HL := Lib.hid (len_any D)
  clear D
  go_enter Try.func13, Try.ntmps13
  go_wp2_with fail
  refine HL.out.mono ?_
  rintro e w1 ⟨rfl, rfl⟩
  dsimp only
  go_wp2
  go_ret
  exact ⟨rfl, rfl⟩
set_option maxHeartbeats 1000000 in
set_option maxRecDepth 100000 in
theorem leave_any (D : Rd w r v s) (l : List UInt8) (hs : l.length = s.1.length → l = s.1) (hl : l.length ≤ 140737488355328) :
    Calls Try.prog 19 #[ptr r, .string (lstr l)] w fun e w' => e = .returned (.tuple #[]) ∧ ∃ v', Rd w' r v' (l, s.2) ∧ Turn r w w' v v' := by
  have HL := Lib.hid (len_any D)
  have HR := Lib.hid (reset_any D)
  have HD := Lib.hid D
  have hsz : (lstr l).size = l.length := lstr_size l
  clear D
  go_enter Try.func19, Try.ntmps19
  go_wp2_with fail
  refine HL.out.mono ?_
  rintro e w1 ⟨rfl, rfl⟩
  dsimp only
  by_cases he : l.length = s.1.length
  · have he' : (l.length : Int) = (s.1.length : Int) := by omega
    have HS := Lib.hid (hs he)
    clear hs he
    go_wp2_with fail
    refine bodyPost_ret_by (results_none rfl _ _ _) rfl ⟨rfl, v, ?_, Turn.refl _ _ _⟩
    rw [HS.out]; exact HD.out
  · have he' : ¬ (l.length : Int) = (s.1.length : Int) := by omega
    clear hs he
    go_wp2_with fail
    refine HR.out.mono ?_
    rintro e w2 ⟨rfl, D2, T2⟩
    dsimp only
    go_wp2_with fail
    refine (writeString_any (lstr l) D2 (by rw [hsz]; show 0 + _ ≤ _; omega)).mono ?_
    rintro e w3 ⟨rfl, v', D3, T3⟩
    have HD3 := Lib.hid D3
    have HT3 := Lib.hid (T2.trans T3)
    clear D2 D3 T2 T3
    dsimp only
    go_wp2_with fail
    go_end0
    exact ⟨rfl, v', HD3.out, HT3.out⟩
end Go.Proofs.Ytpolpgghdeljbaa
