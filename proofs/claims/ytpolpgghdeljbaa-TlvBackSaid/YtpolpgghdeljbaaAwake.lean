/- The laws' own first question. -/
import Derived.Test.YtpolpgghdeljbaaFew
import Derived.Test.YtpolpgghdeljbaaPrint
namespace Go.Proofs.Ytpolpgghdeljbaa
open Go.RowKit Crc

def xab : Tlv.R := (1, 0, [97, 98])
/-- The example's bytes. -/
def B13 : List UInt8 := Tlv.bytes xab
theorem ok1 : Tlv.printed xab = (B13, 0) := by decide +kernel
theorem ok2 : B13.length = 13 := by decide +kernel
theorem ok3 : parsed (B13 ++ [109, 111, 114, 101]) = (xab, [109, 111, 114, 101], 0) := by decide +kernel
theorem ok4 : Tlv.step ([], 0, 0) (B13.take 5) = ([], (B13.take 5, 0, 0)) := by decide +kernel
theorem ok5 : Tlv.step (B13.take 5, 0, 0) (B13.drop 5 ++ B13) = ([xab], ([], 1, 18)) := by decide +kernel
theorem ok6 : Tlv.step ([], 1, 18) [] = ([], ([], 1, 18)) := by decide +kernel
abbrev vab : Value := .agg #[.int .i64 1, .int .i64 0, .string ⟨#[97, 98]⟩]
theorem eql_ab (W : World) : (binOp .eql 38 vab vab).run Try.prog W = .ok (.bool true) W := eql_rec W 1 0 1 0 [97, 98] [97, 98]
theorem sem_streq (t : TypeId) (x : ByteArray) : binOp .eql t (.string x) (.string x) = pure (.bool true) := by rw [binOp_string_eql, str_eq rfl]
attribute [local go_sem 9000] eql_ab sem_streq

theorem turn_below {r : Nat} {w w' w0 : World} {v v' : Value} (t : Turn r w w' v v') (hb : Below w0.heap.size w0 w) (ho : ∀ k, owned r v k → w0.heap.size ≤ k) : Below w0.heap.size w0 w' ∧ ∀ k, owned r v' k → w0.heap.size ≤ k :=
  ⟨hb.trans (t.below hb.size ho), t.owns hb.size ho⟩
theorem new_own (w w' : World) (h : w.heap.size ≤ w'.heap.size) : ∀ k, owned w'.heap.size (.slice none 0 0) k → w.heap.size ≤ k := fun k hk => by
  rcases hk with rfl | hk
  · exact h
  · cases hk

/-- Feed, where its answer is known. -/
theorem feed_eq {w : World} {r : Nat} {v : Value} {s s' : Tlv.S} {rs : List Tlv.R} (l : List UInt8) (D : Rd w r v s) (h : Tlv.step s l = (rs, s')) (hlen : s.1.length + l.length ≤ 1000000000) :
    Calls Try.prog 9 #[ptr r, .string (lstr l)] w fun e w' => ∃ ao cap v', e = .returned (.tuple #[.slice ao rs.length cap, .int .i64 s'.2.2]) ∧ w'.ownsRow w.heap.size 38 3 (.slice ao rs.length cap) rs.length (rcells rs) ∧ Rd w' r v' s' ∧ Turn r w w' v v' := by
  refine (feed_any (lstr l) D (by rw [lstr_size]; exact hlen)).mono ?_
  rintro e w' ⟨ao, n, cap, v', he, hrow, hn, D', T'⟩
  rw [lstr_data, h] at he hrow hn D'
  dsimp only at he hrow hn D'
  subst hn
  exact ⟨ao, cap, v', he, hrow, D', T'⟩

theorem mine_nil {w : World} {r k : Nat} (h1 : k < w.heap.size) (h2 : k ≠ r) : Mine w r (.slice none 0 0) k := ⟨h1, fun e => e.elim h2 fun e => by cases e⟩

set_option maxRecDepth 100000 in
set_option maxHeartbeats 4000000 in
theorem awake_any (w : World) :
    Calls Try.prog 6 #[] w fun e w' => e = .returned (.bool true) ∧ Below w.heap.size w w' := by
  have H14 : Hid (∀ W, Calls Try.prog 14 #[vab] W fun e w' => e = .returned (.tuple #[.string (lstr B13), .int .i64 0]) ∧ Below W.heap.size W w') := fun W => by
    have := print_any xab W (by decide)
    rw [ok1] at this
    exact this
  have hs13 : (lstr B13).size = 13 := by rw [lstr_size, ok2]
  have H15 : Hid (∀ W, Calls Try.prog 15 #[.string (lstr (B13 ++ [109, 111, 114, 101]))] W fun e w' => e = .returned (.tuple #[vab, .string ⟨#[109, 111, 114, 101]⟩, .int .i64 0]) ∧ Below W.heap.size W w') := fun W => by
    have := parse_any (lstr (B13 ++ [109, 111, 114, 101])) W (by rw [lstr_size, List.length_append, ok2]; decide)
    rw [lstr_data, ok3] at this
    exact this
  have hcat : lstr B13 ++ ⟨#[109, 111, 114, 101]⟩ = lstr (B13 ++ [109, 111, 114, 101]) := lstr_append (lstr B13) [109, 111, 114, 101]
  have hcut : (lstr B13).extract 0 5 = lstr (B13.take 5) := head_eq (lstr B13) 5
  have hrest : (lstr B13).extract 5 13 = lstr (B13.drop 5) := by have := tail_eq (lstr B13) 5; rwa [hs13] at this
  have hcat2 : lstr (B13.drop 5) ++ lstr B13 = lstr (B13.drop 5 ++ B13) := lstr_append (lstr (B13.drop 5)) B13
  have hs8 : (lstr (B13.drop 5)).size = 8 := by rw [lstr_size, List.length_drop, ok2]
  go_enter Try.func6, Try.ntmps6
  go_wp2_with fail
  refine (H14.out _).mono ?_
  rintro e w1 ⟨rfl, hB1⟩
  dsimp only
  go_wp2_with fail
  refine (H15.out _).mono ?_
  rintro e w2 ⟨rfl, hB2⟩
  have hB2' := hB1.trans (hB2.mono hB1.size)
  clear hB1 hB2
  have cx := heap_alloc_new w2 (.cells #[.int .i64 1, .int .i64 0, .string ⟨#[97, 98]⟩] 38)
  have hW := hB2'.alloc hB2'.size (.cells #[.int .i64 1, .int .i64 0, .string ⟨#[97, 98]⟩] 38)
  have hwl : w.heap.size ≤ w2.heap.size := hB2'.size
  clear hB2'
  dsimp only
  go_wp2_with fail
  generalize w2.alloc (.cells #[.int .i64 1, .int .i64 0, .string ⟨#[97, 98]⟩] 38) = W at cx hW ⊢
  refine (new_any W).mono ?_
  rintro e w3 ⟨rfl, D3, hB3, hl3⟩
  have o3 := new_own w W hW.size
  have b3 := hW.trans (hB3.mono hW.size)
  have hxl : w2.heap.size < W.heap.size := lt_of_block cx
  have cx3 := (hB3.block _ hxl).trans cx
  have m3 := mine_nil (w := w3) (r := W.heap.size) (k := w2.heap.size) (by omega) (by omega)
  clear hB3 hW cx
  dsimp only
  go_wp2_with fail
  refine (feed_eq (B13.take 5) D3 ok4 (by rw [List.length_take, ok2]; decide)).mono ?_
  rintro e w4 ⟨a4, cap4, v4, rfl, hr4, D4, T4⟩
  obtain ⟨b4, o4⟩ := turn_below T4 b3 o3
  have cx4 := (T4.keep m3).trans cx3
  have m4 := T4.mine m3
  clear D3 b3 o3 cx3 m3 T4 hr4
  dsimp only [List.length_nil]
  go_wp2_with fail
  refine (feed_eq (B13.drop 5 ++ B13) D4 ok5 (by rw [List.length_take, List.length_append, List.length_drop, ok2]; decide)).mono ?_
  rintro e w5 ⟨a5, cap5, v5, rfl, hr5, D5, T5⟩
  obtain ⟨b5, o5⟩ := turn_below T5 b4 o4
  have cx5 := (T5.keep m4).trans cx4
  have m5 := T5.mine m4
  clear D4 b4 o4 cx4 m4 T5
  dsimp only [List.length_cons, List.length_nil]
  go_wp2_with fail
  refine (feed_eq [] D5 ok6 (by decide)).mono ?_
  rintro e w6 ⟨a6, cap6, v6, rfl, hr6, D6, T6⟩
  obtain ⟨b6, o6⟩ := turn_below T6 b5 o5
  have cx6 := (T6.keep m5).trans cx5
  obtain ⟨g, cap, hv, _, hgl⟩ := hr5.form (by decide)
  injection hv with hv _ hcap
  subst hv hcap
  have hr5' := owns_kept (w' := w6) hr5 fun k hk => T6.keep ⟨(hr5.lt k hk).2, fun ho => far D5 hr5 ho hk⟩
  obtain ⟨g', hg', d0, d1, d2⟩ := recs_of hr5' 0 (by decide)
  injection hg' with hg'
  injection hg' with hg'
  subst hg'
  have HN : Hid (∀ n, Calls Try.prog 12 #[ptr W.heap.size] (w6.drewN n) fun e w' => e = .returned (.int .i64 1) ∧ w' = w6.drewN n) := fun n => (next_any (w := w6.drewN n) (D6.kept fun _ _ => rfl)).mono fun _ _ h => ⟨h.1, h.2.symm⟩
  clear D5 b5 o5 cx5 m5 T6 hr5 hr6 hr5' D6 o6
  have x0 : w6.cell? ⟨w2.heap.size, 0, none⟩ = some (.int .i64 1) := cell_block cx6 0
  have x1 : w6.cell? ⟨w2.heap.size, 1, none⟩ = some (.int .i64 0) := cell_block cx6 1
  have x2 : w6.cell? ⟨w2.heap.size, 2, none⟩ = some (.string ⟨#[97, 98]⟩) := cell_block cx6 2
  change w6.cell? ⟨g, 0, none⟩ = some (.int .i64 1) at d0
  change w6.cell? ⟨g, 1, none⟩ = some (.int .i64 0) at d1
  change w6.cell? ⟨g, 2, none⟩ = some (.string ⟨#[97, 98]⟩) at d2
  clear cx6
  dsimp only [List.length_nil]
  go_wp2_with fail
  go_quiet (first | (go_at_call 12; refine Calls.quiet_of_same (HN.out _)))
  go_wp2_with fail
  go_ret
  exact ⟨rfl, below_drewN b6 nq⟩
end Go.Proofs.Ytpolpgghdeljbaa
