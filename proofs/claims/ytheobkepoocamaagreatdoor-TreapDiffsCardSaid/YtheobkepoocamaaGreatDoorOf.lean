/- slices.SortFunc of two leaves that stand in order. Of, of two keys in order, and of unlike numbers of keys and values. -/
import Derived.Test.YtheobkepoocamaaGreatDoorBuild
import Derived.Test.YtheobkepoocamaaGreatDoorLay
namespace Go.Proofs.YtheobkepoocamaaGreatDoor
set_option maxRecDepth 100000
open Go.RowKit Go.Less
abbrev ka : ByteArray := ⟨#[97]⟩
abbrev kb : ByteArray := ⟨#[98]⟩
set_option maxHeartbeats 1000000 in
/-- The greater one against the lesser one. -/
theorem cmp_ba {w : World} {b0 b1 : Nat} {v0 v1 : ByteArray} (h0 : Node w b0 .leaf ka v0 .leaf none none) (h1 : Node w b1 .leaf kb v1 .leaf none none) :
    Calls Tryz.prog 34 #[.pointer (some ⟨b1, 0, none⟩), .pointer (some ⟨b0, 0, none⟩)] w fun e w' => e = .returned (.int .i64 1) ∧ Below w.heap.size w w' := by
  have c0 := h0.c0
  have c1 := h1.c0
  have hc : ∀ w, Calls Tryz.prog 35 #[.string kb, .string ka] w fun e w' => e = .returned (.int .i64 1) ∧ w' = w := fun w => Tryz.strings_Compare kb ka w
  clear h0 h1
  go_enter Tryz.func34, Tryz.ntmps34
  go_wp2_with fail
  go_quiet ((go_at_call 35; exact Calls.quiet_of_same (hc _)))
  go_wp2_with fail
  go_ret
  exact ⟨rfl, bdn (Below.refl _ _) _⟩
abbrev f34 : Value := .func (.func 34) #[] #[]
set_option maxHeartbeats 2000000 in
theorem ins_two {g b0 b1 : Nat} {v0 v1 : ByteArray} {w : World} (hT : Two g b0 b1 ka v0 kb v1 w) :
    Calls Tryz.prog 64 #[.slice (some ⟨g, 0, none⟩) 2 2, .int .i64 0, .int .i64 2, f34] w fun e w' => e = .returned (.tuple #[]) ∧ Below w.heap.size w w' := by
  have HS := Lib.hid (show ∀ W, Below w.heap.size w W → W.cell? ⟨g, 0, none⟩ = some (.pointer (some ⟨b0, 0, none⟩)) ∧ W.cell? ⟨g, 1, none⟩ = some (.pointer (some ⟨b1, 0, none⟩)) ∧ Below w.heap.size w W from fun W hb => ⟨(hT.below hb).c0, (hT.below hb).c1, hb⟩)
  have HC := Lib.hid (show ∀ W, Below w.heap.size w W → Calls Tryz.prog 34 #[.pointer (some ⟨b1, 0, none⟩), .pointer (some ⟨b0, 0, none⟩)] W fun e w' => e = .returned (.int .i64 1) ∧ Below W.heap.size W w' from fun W hb => cmp_ba (hT.n0.below hb) (hT.n1.below hb))
  have eg : ∀ args w, (callFunc 34 args).run Tryz.prog w = .ok (.enter 34 args) w := enters_of Tryz.func34 (by kernel_rfl) rfl
  clear hT
  go_enter Tryz.func64, Tryz.ntmps64
  go_wp2_with fail
  go_loopw [8] (fun i wr => (i = .int .i64 1 ∨ i = .int .i64 2) ∧ Below w.heap.size w wr) (fun i _ => 2 - (intOf i).toNat)
  case atStart => exact ⟨.inl rfl, Below.refl _ _⟩
  case round =>
    obtain ⟨rfl | rfl, hb⟩ := hrel
    · obtain ⟨wo, rfl⟩ : ∃ wo : World, wo = wr := ⟨_, rfl⟩
      go_wp2_with fail
      go_loopw [9] (fun j wr => j = .int .i64 1 ∧ Below w.heap.size w wr) (fun _ _ => 0)
      case atStart => exact ⟨rfl, hb⟩
      case round =>
        obtain ⟨rfl, hb2⟩ := hrel
        obtain ⟨c0, c1, _⟩ := HS.out _ hb2
        have hbd := hb2.drew
        have hs1 : IntKind.i64.wrap 0 = 0 := by decide
        go_wp2_with fail
        go_region_held3 (fun W => W.cell? ⟨g, 0, none⟩ = some (.pointer (some ⟨b0, 0, none⟩)) ∧ W.cell? ⟨g, 1, none⟩ = some (.pointer (some ⟨b1, 0, none⟩)) ∧ Below w.heap.size w W)
          (first | exact HS.out _ hbd | exact HS.out _ hb3 | assumption)
          ((go_at_call 34; (with_reducible refine (HC.out _ (by first | assumption | exact (by assumption : _ ∧ _ ∧ Below w.heap.size w _).2.2)).mono ?_); rintro e w3 ⟨rfl, hw3⟩; have hb3 := btrans hw3 hbd))
        go_wp2_with fail
        exact ⟨⟨.inr rfl, hb3⟩, by simp [intOf]⟩
    · go_wp2_with fail
      go_end0
      exact ⟨rfl, hb⟩
set_option maxHeartbeats 1000000 in
theorem pdq_two {g b0 b1 : Nat} {v0 v1 : ByteArray} {w : World} (l : Int) (hT : Two g b0 b1 ka v0 kb v1 w) :
    Calls Tryz.prog 47 #[.slice (some ⟨g, 0, none⟩) 2 2, .int .i64 0, .int .i64 2, .int .i64 l, f34] w fun e w' => e = .returned (.tuple #[]) ∧ Below w.heap.size w w' := by
  have HI := Lib.hid (ins_two hT)
  clear hT
  go_enter Tryz.func47, Tryz.ntmps47
  go_wp2_with fail
  go_loopw [1, 2, 3, 10, 11] (fun a b c d e wr => a = .int .i64 0 ∧ b = .int .i64 2 ∧ wr = w) (fun _ _ _ _ _ _ => 0)
  case atStart => exact ⟨rfl, rfl, rfl⟩
  case round =>
    obtain ⟨rfl, rfl, rfl⟩ := hrel
    go_wp2_with fail
    refine HI.out.mono ?_
    rintro e w' ⟨rfl, hw⟩
    dsimp only
    go_wp2_with fail
    refine bodyPost_ret (results_none rfl _ _ _) rfl ?_
    exact ⟨rfl, hw⟩
set_option maxHeartbeats 1000000 in
theorem sortf_two {g b0 b1 : Nat} {v0 v1 : ByteArray} {w : World} (hT : Two g b0 b1 ka v0 kb v1 w) :
    Calls Tryz.prog 33 #[.slice (some ⟨g, 0, none⟩) 2 2, f34] w fun e w' => e = .returned (.tuple #[]) ∧ Below w.heap.size w w' := by
  have HI := Lib.hid (fun l => pdq_two l hT)
  have hlen : ∀ W, Calls Tryz.prog 41 #[.int .u64 2] W fun e w' => e = .returned (.int .i64 2) ∧ w' = W := fun W => Tryz.bits_Len 2 W (by decide) (by decide)
  clear hT
  go_enter Tryz.func33, Tryz.ntmps33
  go_wp2_with fail
  refine (hlen _).mono ?_
  rintro e w' ⟨rfl, rfl⟩
  dsimp only
  go_wp2_with fail
  refine (HI.out _).mono ?_
  rintro e w' ⟨rfl, hw⟩
  dsimp only
  go_wp2_with fail
  go_end0
  exact ⟨rfl, hw⟩
end Go.Proofs.YtheobkepoocamaaGreatDoor
namespace Go.Proofs.YtheobkepoocamaaGreatDoor
set_option maxRecDepth 100000
open Go.RowKit Go.Less
attribute [local go_sem 9000] sem_eql sem_neq sem_lss sem_leq sem_gtr sem_geq
set_option maxHeartbeats 1000000 in
theorem of_wrong (a : Option Addr) (c : Nat) (w : World) : Calls Tryz.prog 14 #[.slice a 1 c, .slice none 0 0] w fun e w' => e = .returned (.tuple #[.pointer none, .int .i64 2]) ∧ w = w' := by
  go_enter Tryz.func14, Tryz.ntmps14
  go_wp2_with fail
  go_ret2
  exact ⟨rfl, rfl⟩
theorem less_ab : less ka kb = true := by
  rw [less_is, ByteArray.toList_eq, ByteArray.toList_eq]; decide
theorem mk68 (w : World) : (Instr.makeSlice 68 (.int .i64 2) (.int .i64 2)).run Tryz.prog w = .ok (.slice (some ⟨w.heap.size, 0, none⟩) 2 2) (w.alloc (.cells #[.pointer none, .pointer none] 52)) := by kernel_rfl
/-- The leaves so far. -/
def Lp (w : World) (v0 v1 : ByteArray) (W : World) (n : Nat) : Prop :=
  Below w.heap.size w W ∧ match n with
  | 0 => W.heap[w.heap.size]? = some (.cells #[.pointer none, .pointer none] 52 (0, 0))
  | 1 => ∃ b0, W.heap[w.heap.size]? = some (.cells #[.pointer (some ⟨b0, 0, none⟩), .pointer none] 52 (0, 0)) ∧ Tree W (some b0) (lf ka v0)
  | _ => ∃ b0 b1, W.heap[w.heap.size]? = some (.cells #[.pointer (some ⟨b0, 0, none⟩), .pointer (some ⟨b1, 0, none⟩)] 52 (0, 0)) ∧ Tree W (some b0) (lf ka v0) ∧ Tree W (some b1) (lf kb v1)
theorem tree_set {W : World} {g j : Nat} {x : Value} {b : Nat} {k v : ByteArray} {cs : Array Value} {fr : Nat × Nat} (hg : W.heap[g]? = some (.cells cs 52 fr)) (h : Tree W (some b) (lf k v)) : Tree (W.setCell ⟨g, j, none⟩ x) (some b) (lf k v) := by
  have hN := lone_node h
  have hne : b ≠ g := fun e => by have := hN.obj; rw [e, hg] at this; cases this
  exact ⟨b, none, none, rfl, (heap_setCell_other W ⟨g, j, none⟩ b x hne).trans hN.obj, hN.key, hN.val, rfl, rfl⟩
set_option maxHeartbeats 4000000 in
theorem of_two {gk gv : Nat} {v0 v1 : ByteArray} {w : World} (k0 : w.cell? ⟨gk, 0, none⟩ = some (.string ka)) (k1 : w.cell? ⟨gk, 1, none⟩ = some (.string kb)) (d0 : w.cell? ⟨gv, 0, none⟩ = some (.string v0)) (d1 : w.cell? ⟨gv, 1, none⟩ = some (.string v1))
    (hD : Dg w) (hv0 : v0.size ≤ 200) (hv1 : v1.size ≤ 200) :
    Calls Tryz.prog 14 #[.slice (some ⟨gk, 0, none⟩) 2 2, .slice (some ⟨gv, 0, none⟩) 2 2] w fun e w' => ∃ m, e = .returned (.tuple #[pv m, .int .i64 0]) ∧ Rp w' m [(ka, v0), (kb, v1)] ∧ Below w.heap.size w w' := by
  have hmk := mk68
  have HC := Lib.hid (show ∀ W, Below w.heap.size w W → W.cell? ⟨gk, 0, none⟩ = some (.string ka) ∧ W.cell? ⟨gk, 1, none⟩ = some (.string kb) ∧ W.cell? ⟨gv, 0, none⟩ = some (.string v0) ∧ W.cell? ⟨gv, 1, none⟩ = some (.string v1) ∧ Dg W from fun W hb =>
    ⟨(hb.cell (p := ⟨gk, 0, none⟩) (block_lt_of_cell k0)).trans k0, (hb.cell (p := ⟨gk, 1, none⟩) (block_lt_of_cell k1)).trans k1, (hb.cell (p := ⟨gv, 0, none⟩) (block_lt_of_cell d0)).trans d0, (hb.cell (p := ⟨gv, 1, none⟩) (block_lt_of_cell d1)).trans d1, hD.below hb⟩)
  have HP0 := Lib.hid (fun W (hD : Dg W) => pair_any ka v0 W hD (by decide) hv0)
  have HP1 := Lib.hid (fun W (hD : Dg W) => pair_any kb v1 W hD (by decide) hv1)
  have hkk : alike ka kb = false := by decide
  clear k0 k1 d0 d1 hD hv0 hv1
  go_enter Tryz.func14, Tryz.ntmps14
  go_wp2_with fail
  go_loopw [20] (fun i wr => ∃ n : Nat, n ≤ 2 ∧ i = .int .i64 (n : Int) ∧ Lp w v0 v1 wr n) (fun i _ => 2 - (intOf i).toNat)
  case atStart => exact ⟨0, by decide, rfl, below_one w _, heap_alloc_new w _⟩
  case round =>
    obtain ⟨n, hn, rfl, hb, hL⟩ := hrel
    have HB := Lib.hid hb
    obtain ⟨c0, c1, c2, c3, hDr⟩ := HC.out _ hb
    have HD := Lib.hid hDr
    clear hb hDr
    match n, hn with
    | 0, _ =>
      have hg : wr.heap[w.heap.size]? = some (.cells #[.pointer none, .pointer none] 52 (0, 0)) := hL
      clear hL
      have HG := Lib.hid hg
      clear hg
      go_wp2_with fail
      refine (HP0.out _ HD.out).mono ?_
      rintro e w1 ⟨b0, rfl, ht, hw1⟩
      have hg1 := (hw1.block _ (lt_of_obj HG.out)).trans HG.out
      have e0 := cell_obj hg1 0
      have f0 := free_obj hg1 0
      have HG1 := Lib.hid hg1
      have HT := Lib.hid ht
      have HB1 := Lib.hid (btrans hw1 HB.out)
      clear hg1 ht hw1
      dsimp only
      go_wp2_with fail
      go_roundw
      case rel =>
        refine ⟨1, by decide, rfl, HB1.out.setCell (Nat.le_refl _) _, b0, ?_, tree_set HG1.out HT.out⟩
        have := heap_setCell_same w1 w.heap.size 0 #[.pointer none, .pointer none] 52 (.pointer (some ⟨b0, 0, none⟩)) HG1.out
        simpa using this
      case measure => simp [intOf]
    | 1, _ =>
      obtain ⟨b0, hg, ht0⟩ := (hL : ∃ b0, wr.heap[w.heap.size]? = some (.cells #[.pointer (some ⟨b0, 0, none⟩), .pointer none] 52 (0, 0)) ∧ Tree wr (some b0) (lf ka v0))
      have HG := Lib.hid hg
      have HT0 := Lib.hid ht0
      clear hg ht0
      go_wp2_with fail
      refine (HP1.out _ HD.out).mono ?_
      rintro e w1 ⟨b1, rfl, ht, hw1⟩
      have hg1 := (hw1.block _ (lt_of_obj HG.out)).trans HG.out
      have e1 := cell_obj hg1 1
      have f1 := free_obj hg1 1
      have HG1 := Lib.hid hg1
      have HT := Lib.hid ht
      have HT1 := Lib.hid (HT0.out.below hw1)
      have HB1 := Lib.hid (btrans hw1 HB.out)
      clear hg1 ht hw1
      dsimp only
      go_wp2_with fail
      go_roundw
      case rel =>
        refine ⟨2, by decide, rfl, HB1.out.setCell (Nat.le_refl _) _, b0, b1, ?_, tree_set HG1.out HT1.out, tree_set HG1.out HT.out⟩
        have := heap_setCell_same w1 w.heap.size 1 #[.pointer (some ⟨b0, 0, none⟩), .pointer none] 52 (.pointer (some ⟨b1, 0, none⟩)) HG1.out
        simpa using this
      case measure => simp [intOf]
    | 2, _ =>
      obtain ⟨b0, b1, hg, ht0, ht1⟩ := (hL : ∃ b0 b1, wr.heap[w.heap.size]? = some (.cells #[.pointer (some ⟨b0, 0, none⟩), .pointer (some ⟨b1, 0, none⟩)] 52 (0, 0)) ∧ Tree wr (some b0) (lf ka v0) ∧ Tree wr (some b1) (lf kb v1))
      have hT : Two w.heap.size b0 b1 ka v0 kb v1 wr := ⟨cell_obj hg 0, cell_obj hg 1, lone_node ht0, lone_node ht1, HD.out⟩
      have HT := Lib.hid hT
      clear hg ht0 ht1 hT
      go_wp2_with fail
      refine (sortf_two HT.out).mono ?_
      rintro e w1 ⟨rfl, hw1⟩
      have hT1 := HT.out.below hw1
      have HT1 := Lib.hid hT1
      have HB1 := Lib.hid (btrans hw1 HB.out)
      clear hT1 hw1
      dsimp only
      go_wp2_with fail
      go_loopw [9] (fun j wr => (j = .int .i64 1 ∨ j = .int .i64 2) ∧ Below w1.heap.size w1 wr) (fun j _ => 2 - (intOf j).toNat)
      case atStart => exact ⟨.inl rfl, Below.refl _ _⟩
      case round =>
        obtain ⟨rfl | rfl, hb2⟩ := hrel
        · have hT2 := HT1.out.below hb2
          have x0 := hT2.c0
          have x1 := hT2.c1
          have y0 := hT2.n0.c0
          have y1 := hT2.n1.c0
          clear hT2
          go_wp2_with fail
          go_quiet (fail)
          go_wp2_with fail
          go_roundw
          case rel => exact ⟨.inr rfl, bdn hb2 _⟩
          case measure => simp [intOf]
        · have hT2 := HT1.out.below hb2
          have HT2 := Lib.hid hT2
          have HB2 := Lib.hid (btrans hb2 HB1.out)
          clear hT2 hb2
          go_wp2_with fail
          refine (build_two HT2.out).mono ?_
          rintro e w3 ⟨p, rfl, hp, hw3⟩
          dsimp only
          go_wp2_with fail
          refine (mapOf_any hp).mono ?_
          rintro e w4 ⟨m, rfl, hm, hw4⟩
          dsimp only
          go_wp2_with fail
          go_ret2
          exact ⟨m, rfl, ⟨by refine List.pairwise_cons.2 ⟨fun x hx => ?_, List.pairwise_singleton _ _⟩; rw [List.mem_singleton.1 hx]; exact less_ab, by rw [← two_cn less_ab]; exact hm⟩, btrans hw4 (btrans hw3 HB2.out)⟩
end Go.Proofs.YtheobkepoocamaaGreatDoor
