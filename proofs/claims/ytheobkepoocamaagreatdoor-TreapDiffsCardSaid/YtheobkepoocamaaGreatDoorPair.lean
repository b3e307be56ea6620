/- leaf, pair. -/
import Derived.Test.YtheobkepoocamaaGreatDoorGrow
import Derived.Test.YtheobkepoocamaaGreatDoorSLays
namespace Go.Proofs.YtheobkepoocamaaGreatDoor
set_option maxRecDepth 100000
open Go.RowKit Go.Less Sha
theorem rank_at (k : ByteArray) (w : World) (g : Nat) (hc : w.cell? ⟨g, 0, none⟩ = some (.string k)) (hD : Dg w) (hk : k.size ≤ 100) :
    Calls Tryz.prog 63 #[.int .u8 2, .slice (some ⟨g, 0, none⟩) 1 1] w fun e w' => e = .returned (.string (rk k)) ∧ Below w.heap.size w w' := by
  have hS : Strs (some ⟨g, 0, none⟩) 1 [k] w :=
    ⟨rfl, fun i hi => ⟨g, 0, rfl, by
      match i, hi with
      | 0, _ => rw [Nat.zero_add]; exact hc⟩⟩
  refine (join_any 2 (some ⟨g, 0, none⟩) 1 1 [k] _ hD.k hD.i hS ?_ (by omega)).mono ?_
  · simp only [joined, List.flatMap_cons, List.flatMap_nil, List.length_append, num_length, size_data, List.length_nil]; omega
  · rintro e w' ⟨rfl, h⟩
    exact ⟨rfl, h⟩
theorem above_leaf (k v : ByteArray) (w : World) (hD : Dg w) (hk : k.size ≤ 100) (hv : v.size ≤ 200) :
    Calls Tryz.prog 122 #[.agg #[.string v, .string ⟨#[]⟩, .int .i64 0], .string k, .agg #[.string ⟨#[]⟩, .string ⟨#[]⟩, .int .i64 0], .agg #[.string ⟨#[]⟩, .string ⟨#[]⟩, .int .i64 0]] w fun e w' => e = .returned (.agg #[.string v, .string (nm (.node .leaf k v .leaf)), .int .i64 1]) ∧ Below w.heap.size w w' := above_lit v ⟨#[]⟩ 0 k .leaf .leaf w hD hk hv (by decide) (by decide)
theorem getd {A B C D E F G : Prop} (h : A ∧ B ∧ C ∧ D ∧ E ∧ F ∧ G) : G := h.2.2.2.2.2.2
/-- What leaf's statement reads, and what the call has made. -/
def Lf (w : World) (g z : Nat) (v : ByteArray) (W : World) : Prop :=
  W.cell? ⟨g, 0, none⟩ = some (.string v) ∧ W.cell? ⟨g, 1, none⟩ = some (.string ⟨#[]⟩) ∧ W.cell? ⟨g, 2, none⟩ = some (.int .i64 0) ∧ W.cell? ⟨z, 0, none⟩ = some (.string ⟨#[]⟩) ∧ W.cell? ⟨z, 1, none⟩ = some (.string ⟨#[]⟩) ∧ W.cell? ⟨z, 2, none⟩ = some (.int .i64 0) ∧ Below w.heap.size w W
theorem Lf.kept {w w1 W : World} {g z : Nat} {v : ByteArray} (hb : Below w1.heap.size w1 W) (h : Lf w g z v w1) : Lf w g z v W :=
  have q {x : Nat} {o : Nat} {y : Value} (hc : w1.cell? ⟨x, o, none⟩ = some y) : W.cell? ⟨x, o, none⟩ = some y := (hb.cell (p := ⟨x, o, none⟩) (block_lt_of_cell hc)).trans hc
  ⟨q h.1, q h.2.1, q h.2.2.1, q h.2.2.2.1, q h.2.2.2.2.1, q h.2.2.2.2.2.1, btrans hb h.2.2.2.2.2.2⟩
set_option maxHeartbeats 2000000 in
theorem leaf_any (k v : ByteArray) (w : World) (hD : Dg w) (hk : k.size ≤ 100) (hv : v.size ≤ 200) :
    Calls Tryz.prog 46 #[.string k, .agg #[.string v, .string ⟨#[]⟩, .int .i64 0]] w (Grown (.node .leaf k v .leaf) w) := by
  have hz := zero51
  have hm := method_above
  have HC := Lib.hid (fun W => clone_any k W (by omega))
  have HD := Lib.hid hD
  have HA := Lib.hid (fun W hD => above_leaf k v W hD hk hv)
  clear hD
  go_enter Tryz.func46, Tryz.ntmps46
  go_wp2_with fail
  refine (HC.out _).mono ?_
  rintro e w1 ⟨rfl, hw1⟩
  have hB := balloc (.cells #[.string ⟨#[]⟩, .string ⟨#[]⟩, .int .i64 0] 51) (below_one w (.cells #[.string v, .string ⟨#[]⟩, .int .i64 0] 51))
  have hL : Lf w w.heap.size (w.heap.size + 1) v w1 := Lf.kept hw1 ⟨by go_simp, by go_simp, by go_simp, by go_simp, by go_simp, by go_simp, hB⟩
  clear hw1 hB
  have hL' := Lf.kept (Below.refl w1.heap.size w1).drew hL
  dsimp only
  go_wp2_with fail
  go_region_held3 (fun W => W.cell? ⟨w.heap.size, 0, none⟩ = some (.string v) ∧ W.cell? ⟨w.heap.size, 1, none⟩ = some (.string ⟨#[]⟩) ∧ W.cell? ⟨w.heap.size, 2, none⟩ = some (.int .i64 0) ∧ W.cell? ⟨w.heap.size + 1, 0, none⟩ = some (.string ⟨#[]⟩) ∧ W.cell? ⟨w.heap.size + 1, 1, none⟩ = some (.string ⟨#[]⟩) ∧ W.cell? ⟨w.heap.size + 1, 2, none⟩ = some (.int .i64 0) ∧ Below w.heap.size w W)
    (first | exact hL' | (have hq : Lf w w.heap.size (w.heap.size + 1) v _ := (by assumption); exact hq) | exact Lf.kept (below_one _ _) (by assumption))
    (first
    | (go_at_call 63; (with_reducible refine (rank_at k _ _ (by first | assumption | go_simp) (HD.out.below (getd (by assumption))) hk).mono ?_); rintro e w2 ⟨rfl, hw2⟩; have hl2 := Lf.kept hw2 (by assumption))
    | (go_at_call 122; (with_reducible refine (HA.out _ (HD.out.below (getd (by assumption)))).mono ?_); rintro e w3 ⟨rfl, hw3⟩; have hl3 := Lf.kept hw3 (by assumption)))
  go_wp2_with fail
  go_ret
  have hb := getd hl3
  have h1 := balloc (.cells #[.string k, .string (rk k), .string v, .string (nm (.node .leaf k v .leaf)), .int .i64 1, .pointer none, .pointer none] 56) hb
  exact ⟨w3.heap.size, rfl, ⟨w3.heap.size, none, none, rfl, heap_alloc_new w3 _, hk, hv, rfl, rfl⟩, h1⟩
set_option maxHeartbeats 1000000 in
theorem pair_any (k v : ByteArray) (w : World) (hD : Dg w) (hk : k.size ≤ 100) (hv : v.size ≤ 200) :
    Calls Tryz.prog 32 #[.string k, .string v] w (Grown (.node .leaf k v .leaf) w) := by
  have HC := Lib.hid (clone_any v w (by omega))
  have HL := Lib.hid (fun W hD => leaf_any k v W hD hk hv)
  have hb51 : ∀ w : World, (Instr.build 51 #[(0, .string v)]).run Tryz.prog w = .ok (.agg #[.string v, .string ⟨#[]⟩, .int .i64 0]) w := fun _ => by kernel_rfl
  go_enter Tryz.func32, Tryz.ntmps32
  go_wp2_with fail
  refine HC.out.mono ?_
  rintro e w1 ⟨rfl, hw1⟩
  dsimp only
  go_wp2_with fail
  refine (HL.out _ (hD.below hw1)).mono ?_
  rintro e w2 ⟨b, rfl, hT, hw2⟩
  dsimp only
  go_wp2_with fail
  go_ret
  exact ⟨b, rfl, hT, btrans hw2 hw1⟩
end Go.Proofs.YtheobkepoocamaaGreatDoor
