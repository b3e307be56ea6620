/- (*strings.Builder).String on a reader: the bytes, frozen where they lie. -/
import Derived.Test.YtpolpgghdeljbaaBuild
namespace Go.Proofs.Ytpolpgghdeljbaa
open Go.RowKit Crc
variable {w : World} {r : Nat} {p v : Value} {s : Tlv.S}

theorem heap_freeze_other (w : World) (g n : Nat) {k : Nat} (hk : k ≠ g) : (w.freeze ⟨g, 0, none⟩ n).heap[k]? = w.heap[k]? := by
  unfold World.freeze
  split
  · rfl
  · simp only [Array.getElem?_modify]
    rw [if_neg (fun e => hk e.symm)]
theorem Rw.froze {g cap : Nat} (D : Rw w r p (.slice (some ⟨g, 0, none⟩) s.1.length cap) s) : Rw (w.freeze ⟨g, 0, none⟩ s.1.length) r p (.slice (some ⟨g, 0, none⟩) s.1.length cap) s := by
  have hgr : r ≠ g := fun e => D.pv (by rw [e]; rfl)
  refine ⟨(heap_freeze_other w g _ hgr).trans D.cells, ?_, D.addr⟩
  have hown := D.row
  unfold World.freeze
  split
  · exact hown
  · refine ⟨hown.1, ?_⟩
    rcases hown.2 with ⟨hv, _⟩ | ⟨g', cap', cur, fz, hv, hbg, hg, hfz, rest⟩
    · cases hv
    · injection hv with ha _ hcap
      injection ha with ha
      injection ha with hgg _ _
      subst hgg
      subst hcap
      obtain ⟨lo, hi⟩ := fz
      refine .inr ⟨g, _, cur, (if lo == hi then (0, 0 + s.1.length) else (min lo 0, max hi (0 + s.1.length))), rfl, hbg, ?_, ?_, rest⟩
      · simp [Array.getElem?_modify, hg]
      · simp only at hfz
        split <;> simp <;> omega
theorem turn_freeze (w : World) (r g n cap m : Nat) : Turn r w (w.freeze ⟨g, 0, none⟩ m) (.slice (some ⟨g, 0, none⟩) n cap) (.slice (some ⟨g, 0, none⟩) n cap) := by
  have hs : (w.freeze ⟨g, 0, none⟩ m).heap.size = w.heap.size := by unfold World.freeze; split <;> simp
  refine ⟨?_, ?_, ?_, by rw [hs]; exact Nat.le_refl _, fun k _ ho => heap_freeze_other w g m (fun e => ho (.inr (by rw [e]; rfl))), fun _ h => .inl h⟩
  all_goals (unfold World.freeze; split <;> rfl)
theorem Rw.drew (D : Rw w r p v s) : Rw w.drew r p v s := ⟨D.cells, D.row, D.addr⟩
theorem turn_drew (w : World) (r : Nat) (v : Value) : Turn r w w.drew v v := ⟨rfl, rfl, rfl, Nat.le_refl _, fun _ _ _ => rfl, fun _ h => .inl h⟩
theorem unsafeString_none (W : World) (q : Option Addr) : (Builtin.unsafeString_ #[61, 3] 9 #[.pointer q, .int .i64 0]).run Try.prog W = .ok (.string ⟨#[]⟩) W := Lib.run_unsafeString_none W 61 3 9 q

set_option maxHeartbeats 2000000 in
set_option maxRecDepth 100000 in
theorem string_some (D : Rw w r p v s) (h0 : s.1 ≠ []) :
    Calls Try.prog 17 #[ptr r] w fun e w' => e = .returned (.string (lstr s.1)) ∧ Rd w' r v s ∧ Turn r w w' v v := by
  have hl0 : s.1.length ≠ 0 := by simpa using h0
  obtain ⟨g, cap, cur, fz, rfl, hbg, hg, hfz, hnc, hcm, hcs, htake⟩ : ∃ g cap cur fz, v = .slice (some ⟨g, 0, none⟩) s.1.length cap ∧ 0 ≤ g ∧ w.heap[g]? = some (.cells cur 5 fz) ∧ fz.2 ≤ s.1.length * 1 ∧ s.1.length ≤ cap ∧ cap ≤ maxLen ∧ cur.size = cap * 1 ∧ cur.toList.take (s.1.length * 1) = Lib.byteCells s.1 := by
    rcases D.row.2 with ⟨_, hz⟩ | ⟨g, cap, cur, fz, hv, r⟩
    · exact absurd hz hl0
    · exact ⟨g, cap, cur, fz, hv, r⟩
  have c1 : w.drew.cell? ⟨r, 1, none⟩ = some (.slice (some ⟨g, 0, none⟩) s.1.length cap) := D.drew.c1
  have hSD : (Builtin.unsafeSliceData_ #[35] 61 #[.slice (some ⟨g, 0, none⟩) s.1.length cap]).run Try.prog w.drew = .ok (.pointer (some ⟨g, 0, none⟩)) w.drew :=
    Lib.run_unsafeSliceData_row _ _ _ _ _ _ (by omega)
  have hUS : (Builtin.unsafeString_ #[61, 3] 9 #[.pointer (some ⟨g, 0, none⟩), .int .i64 s.1.length]).run Try.prog w.drew = .ok (.string ⟨s.1.toArray⟩) (w.drew.freeze ⟨g, 0, none⟩ s.1.length) := by
    refine Lib.run_unsafeString_row w.drew 61 3 9 5 Try.underlying61 cells5 g cur.size (by have hg' : w.drew.heap[g]? = some (.cells cur 5 fz) := hg; simp [World.shape?, hg']) s.1 h0 (by omega) (by unfold maxLen at hcm; omega) ?_
    intro j x hx
    exact D.row.cells (g := g) rfl j (.int .u8 x.toNat) (by simp [Lib.byteCells, hx])
  have HF := Lib.hid D.drew.froze
  have HT := Lib.hid ((turn_drew w r (.slice (some ⟨g, 0, none⟩) s.1.length cap)).trans (turn_freeze w.drew r g s.1.length cap s.1.length))
  clear D hg hfz hcm hcs htake hnc hl0 h0
  go_enter Try.func17, Try.ntmps17
  go_wp2
  go_region
  all_goals (go_wp2; go_ret; exact ⟨rfl, ⟨_, HF.out⟩, HT.out⟩)
set_option maxHeartbeats 2000000 in
set_option maxRecDepth 100000 in
theorem string_nil (D : Rw w r p (.slice none 0 0) s) :
    Calls Try.prog 17 #[ptr r] w fun e w' => e = .returned (.string ⟨#[]⟩) ∧ Rd w' r (.slice none 0 0) s ∧ Turn r w w' (.slice none 0 0) (.slice none 0 0) := by
  have hUS := unsafeString_none
  have c1 : w.drew.cell? ⟨r, 1, none⟩ = some (.slice none 0 0) := D.drew.c1
  have hSD : (Builtin.unsafeSliceData_ #[35] 61 #[.slice none 0 0]).run Try.prog w.drew = .ok (.pointer none) w.drew := rfl
  have HF := Lib.hid D.drew
  have HT := Lib.hid (turn_drew w r (.slice none 0 0))
  clear D
  go_enter Try.func17, Try.ntmps17
  go_wp2
  go_region
  all_goals (go_wp2; go_ret; exact ⟨rfl, ⟨_, HF.out⟩, HT.out⟩)
set_option maxHeartbeats 2000000 in
set_option maxRecDepth 100000 in
theorem string_room {g cap : Nat} (D : Rw w r p (.slice (some ⟨g, 0, none⟩) 0 cap) s) (hc0 : cap ≠ 0) :
    Calls Try.prog 17 #[ptr r] w fun e w' => e = .returned (.string ⟨#[]⟩) ∧ Rd w' r (.slice (some ⟨g, 0, none⟩) 0 cap) s ∧ Turn r w w' (.slice (some ⟨g, 0, none⟩) 0 cap) (.slice (some ⟨g, 0, none⟩) 0 cap) := by
  have hUS := unsafeString_none
  have c1 : w.drew.cell? ⟨r, 1, none⟩ = some (.slice (some ⟨g, 0, none⟩) 0 cap) := D.drew.c1
  have hSD : (Builtin.unsafeSliceData_ #[35] 61 #[.slice (some ⟨g, 0, none⟩) 0 cap]).run Try.prog w.drew = .ok (.pointer (some ⟨g, 0, none⟩)) w.drew := Lib.run_unsafeSliceData_row _ _ _ _ _ _ hc0
  have HF := Lib.hid D.drew
  have HT := Lib.hid (turn_drew w r (.slice (some ⟨g, 0, none⟩) 0 cap))
  clear D hc0
  go_enter Try.func17, Try.ntmps17
  go_wp2
  go_region
  all_goals (go_wp2; go_ret; exact ⟨rfl, ⟨_, HF.out⟩, HT.out⟩)
set_option maxHeartbeats 2000000 in
set_option maxRecDepth 100000 in
theorem string_noroom {g : Nat} {cur : Array Value} {fz : Nat × Nat} (D : Rw w r p (.slice (some ⟨g, 0, none⟩) 0 0) s) (hg : w.heap[g]? = some (.cells cur 5 fz)) :
    Calls Try.prog 17 #[ptr r] w fun e w' => e = .returned (.string ⟨#[]⟩) ∧ Rd w' r (.slice (some ⟨g, 0, none⟩) 0 0) s ∧ Turn r w w' (.slice (some ⟨g, 0, none⟩) 0 0) (.slice (some ⟨g, 0, none⟩) 0 0) := by
  have hUS := unsafeString_none
  have hlt : r < w.heap.size := D.lt (.inl rfl)
  have hSD : (Builtin.unsafeSliceData_ #[35] 61 #[.slice (some ⟨g, 0, none⟩) 0 0]).run Try.prog w.drew = .ok (.pointer (some ⟨w.drew.heap.size, 0, none⟩)) (w.drew.alloc (.view ⟨g, 0, none⟩ 5)) :=
    Lib.run_unsafeSliceData_zero w.drew _ _ 5 Try.underlying61 ⟨g, 0, none⟩ 0 (5, cur.size) (by have hg' : w.drew.heap[g]? = some (.cells cur 5 fz) := hg; simp [World.shape?, hg'])
  have hB : Below w.drew.heap.size w.drew (w.drew.alloc (.view ⟨g, 0, none⟩ 5)) := (Below.refl _ _).alloc (Nat.le_refl _) _
  have D2 := D.drew.below hB
  have c0 := D.c1
  have c1 := D.drew.c1
  have c2 := D2.c1
  have c3 : (w.alloc (.view ⟨g, 0, none⟩ 5)).drew.cell? ⟨r, 1, none⟩ = some (.slice (some ⟨g, 0, none⟩) 0 0) := c2
  have HF := Lib.hid D2
  have HT := Lib.hid ((turn_drew w r (.slice (some ⟨g, 0, none⟩) 0 0)).trans (Turn.of_below _ hB))
  clear D D2 hg hB
  go_enter Try.func17, Try.ntmps17
  go_wp2
  go_region
  all_goals (go_wp2; go_ret; exact ⟨rfl, ⟨_, HF.out⟩, HT.out⟩)
theorem string_any (D : Rd w r v s) : Calls Try.prog 17 #[ptr r] w fun e w' => e = .returned (.string (lstr s.1)) ∧ Rd w' r v s ∧ Turn r w w' v v := by
  obtain ⟨p, D⟩ := D
  by_cases h0 : s.1 = []
  · rw [h0, show lstr [] = ⟨#[]⟩ from rfl]
    have hn : s.1.length = 0 := by rw [h0]; rfl
    have hrow := D.row
    rw [hn] at hrow
    rcases hrow.2 with ⟨rfl, _⟩ | ⟨g, cap, cur, fz, rfl, _, hg, _⟩
    · exact string_nil D
    · by_cases hc : cap = 0
      · subst hc; exact string_noroom D hg
      · exact string_room D hc
  · exact string_some D h0
end Go.Proofs.Ytpolpgghdeljbaa
