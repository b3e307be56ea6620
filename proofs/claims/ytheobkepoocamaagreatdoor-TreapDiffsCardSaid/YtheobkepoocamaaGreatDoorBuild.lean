/- build, of at most two leaves. -/
import Derived.Test.YtheobkepoocamaaGreatDoorMaps
import Derived.Test.YtheobkepoocamaaGreatDoorKeys
namespace Go.Proofs.YtheobkepoocamaaGreatDoor
set_option maxRecDepth 100000
open Go.RowKit Go.Less
theorem ahd_irr (k : ByteArray) : ahd k k = false := Tr.ahead_irr rising k
set_option maxHeartbeats 1000000 in
theorem build_zero (a : Option Addr) (c : Nat) (w : World) : Calls Tryz.prog 36 #[.slice a 0 c] w fun e w' => e = .returned (.pointer none) ∧ w = w' := by
  go_enter Tryz.func36, Tryz.ntmps36
  go_wp2_with fail
  go_ret
  exact ⟨rfl, rfl⟩
abbrev lf (k v : ByteArray) : Tt := .node .leaf k v .leaf
set_option maxHeartbeats 2000000 in
theorem build_one {g off c b : Nat} {k v : ByteArray} {w : World} (hg : w.cell? ⟨g, off, none⟩ = some (.pointer (some ⟨b, 0, none⟩))) (hN : Node w b .leaf k v .leaf none none) (hD : Dg w) (hc : c = 1 ∨ c = 2) :
    Calls Tryz.prog 36 #[.slice (some ⟨g, off, none⟩) 1 c] w (Treed (lf k v) w) := by
  have HN := Lib.hid hN
  have HD := Lib.hid hD
  have HA := Lib.hid (fun W (hb : Below w.heap.size w W) => ahead_any (hN.below hb) (hN.below hb))
  rw [ahd_irr] at HA
  have hgl := block_lt_of_cell hg
  have HG := Lib.hid (show ∀ W, Below w.heap.size w W → W.cell? ⟨g, off, none⟩ = some (.pointer (some ⟨b, 0, none⟩)) from fun W hb => (hb.cell (p := ⟨g, off, none⟩) hgl).trans hg)
  have HR := Lib.hid (show ∀ W, Below w.heap.size w W → Calls Tryz.prog 45 #[.pointer (some ⟨b, 0, none⟩), .pointer none, .pointer none] W (Grown (lf k v) W) from fun W hb => grow_any (w := W) (l := .leaf) (r := .leaf) (pl := none) (pr := none) ⟨hN.below hb, rfl, rfl, hD.below hb⟩ (by decide) (by decide))
  clear hN hD
  rcases hc with rfl | rfl
  all_goals
    go_enter Tryz.func36, Tryz.ntmps36
    go_wp2_with fail
    go_loopw [3, 11] (fun t i wr => t = .int .i64 0 ∧ (i = .int .i64 0 ∨ i = .int .i64 1) ∧ Below w.heap.size w wr) (fun _ i _ => 1 - (intOf i).toNat)
    case atStart => exact ⟨rfl, .inl rfl, Below.refl _ _⟩
    case round =>
      obtain ⟨rfl, rfl | rfl, hb⟩ := hrel
      · have c1 := HG.out _ hb
        have HH := Lib.hid hb
        clear hb
        go_wp2_with fail
        refine (HA.out _ HH.out).mono ?_
        rintro e w1 ⟨rfl, hw1⟩
        have hb1 := btrans hw1 HH.out
        have HB1 := Lib.hid hb1
        clear hw1 hb1
        dsimp only
        go_wp2_with fail
        go_roundw
        case rel => exact ⟨rfl, .inr rfl, HB1.out⟩
        case measure => simp [intOf]
      · have c1 := HG.out _ hb
        have hbd := hb.drew
        have hs1 : IntKind.i64.wrap 1 = 1 := by decide
        go_wp2_with fail
        go_region_held3 (fun W => W.cell? ⟨g, off, none⟩ = some (.pointer (some ⟨b, 0, none⟩)) ∧ Below w.heap.size w W)
          (first | exact ⟨HG.out _ hbd, hbd⟩ | assumption | exact ⟨HG.out _ hb3, hb3⟩)
          (first
          | (go_at_call 36; (with_reducible refine (build_zero _ _ _).mono ?_); rintro e w2 ⟨rfl, rfl⟩)
          | (go_at_call 45; (with_reducible refine (HR.out _ hbd).mono ?_); rintro e w3 ⟨b3, rfl, hm3, hw3⟩; have hb3 := btrans hw3 hbd))
        all_goals
          go_wp2_with fail
          go_ret
          exact ⟨some b3, rfl, hm3, by first | exact hb3 | assumption⟩
/-- The tree of two leaves. -/
def two_tree (k0 v0 k1 v1 : ByteArray) : Tt := if ahd k1 k0 then .node (lf k0 v0) k1 v1 .leaf else .node .leaf k0 v0 (lf k1 v1)
theorem two_cn {k0 v0 k1 v1 : ByteArray} (h : less k0 k1 = true) : two_tree k0 v0 k1 v1 = cn [(k0, v0), (k1, v1)] := by
  have hs : Srt [(k0, v0), (k1, v1)] := by
    refine List.pairwise_cons.2 ⟨fun x hx => ?_, List.pairwise_singleton _ _⟩
    rw [List.mem_singleton.1 hx]; exact h
  have hne : k1 ≠ k0 := fun e => by rw [e, rising.irr] at h; cases h
  unfold two_tree
  cases ha : ahd k1 k0
  · have hb : ahd k0 k1 = true := Tr.ahead_tot rising rising ha hne
    rw [if_neg (by simp)]
    exact cn_of (t := .node .leaf k0 v0 (lf k1 v1)) hs ⟨(fun _ h => by cases h), (fun x hx => by rw [List.mem_singleton.1 hx]; exact hb), trivial, (fun _ h => by cases h), (fun _ h => by cases h), trivial, trivial⟩
  · rw [if_pos rfl]
    exact cn_of (t := .node (lf k0 v0) k1 v1 .leaf) hs ⟨(fun x hx => by rw [List.mem_singleton.1 hx]; exact ha), (fun _ h => by cases h), ⟨(fun _ h => by cases h), (fun _ h => by cases h), trivial, trivial⟩, trivial⟩
/-- Two leaves in a row. -/
structure Two (g b0 b1 : Nat) (k0 v0 k1 v1 : ByteArray) (W : World) : Prop where
  c0 : W.cell? ⟨g, 0, none⟩ = some (.pointer (some ⟨b0, 0, none⟩))
  c1 : W.cell? ⟨g, 1, none⟩ = some (.pointer (some ⟨b1, 0, none⟩))
  n0 : Node W b0 .leaf k0 v0 .leaf none none
  n1 : Node W b1 .leaf k1 v1 .leaf none none
  dg : Dg W
theorem Two.below {g b0 b1 : Nat} {k0 v0 k1 v1 : ByteArray} {W W' : World} (h : Two g b0 b1 k0 v0 k1 v1 W) (hb : Below W.heap.size W W') : Two g b0 b1 k0 v0 k1 v1 W' :=
  ⟨(hb.cell (p := ⟨g, 0, none⟩) (block_lt_of_cell h.c0)).trans h.c0, (hb.cell (p := ⟨g, 1, none⟩) (block_lt_of_cell h.c1)).trans h.c1, h.n0.below hb, h.n1.below hb, h.dg.below hb⟩
set_option maxHeartbeats 4000000 in
theorem build_two {g b0 b1 : Nat} {k0 v0 k1 v1 : ByteArray} {w : World} (hT : Two g b0 b1 k0 v0 k1 v1 w) :
    Calls Tryz.prog 36 #[.slice (some ⟨g, 0, none⟩) 2 2] w (Treed (two_tree k0 v0 k1 v1) w) := by
  have HT := Lib.hid hT
  have HA := Lib.hid (fun W (hb : Below w.heap.size w W) => ahead_any (hT.n0.below hb) (hT.n0.below hb))
  rw [ahd_irr] at HA
  have HB := Lib.hid (fun W (hb : Below w.heap.size w W) => ahead_any (hT.n1.below hb) (hT.n0.below hb))
  have HS := Lib.hid (show ∀ W, Below w.heap.size w W → W.cell? ⟨g, 0, none⟩ = some (.pointer (some ⟨b0, 0, none⟩)) ∧ W.cell? ⟨g, 1, none⟩ = some (.pointer (some ⟨b1, 0, none⟩)) ∧ Below w.heap.size w W from fun W hb => ⟨(hT.below hb).c0, (hT.below hb).c1, hb⟩)
  clear hT
  unfold two_tree
  cases ha : ahd k1 k0
  · rw [ha] at HB
    rw [if_neg (by simp)]
    have HR := Lib.hid (show ∀ W p, Below w.heap.size w W → Tree W p (lf k1 v1) → Calls Tryz.prog 45 #[.pointer (some ⟨b0, 0, none⟩), .pointer none, pv p] W (Grown (.node .leaf k0 v0 (lf k1 v1)) W) from fun W p hb hp => grow_any (w := W) (l := .leaf) (r := lf k1 v1) (pl := none) ⟨HT.out.n0.below hb, rfl, hp, HT.out.dg.below hb⟩ (by simp [Tr.T.len]) (by simp [Tr.T.len]))
    have HO := Lib.hid (show ∀ W, Below w.heap.size w W → Calls Tryz.prog 36 #[.slice (some ⟨g, 1, none⟩) 1 1] W (Treed (lf k1 v1) W) from fun W hb => build_one (HT.out.below hb).c1 (HT.out.n1.below hb) (HT.out.dg.below hb) (.inl rfl))
    clear ha
    go_enter Tryz.func36, Tryz.ntmps36
    go_wp2_with fail
    go_loopw [3, 11] (fun t i wr => ((t = .int .i64 0 ∧ (i = .int .i64 0 ∨ i = .int .i64 1)) ∨ (t = .int .i64 0 ∧ i = .int .i64 2)) ∧ Below w.heap.size w wr) (fun _ i _ => 2 - (intOf i).toNat)
    case atStart => exact ⟨.inl ⟨rfl, .inl rfl⟩, Below.refl _ _⟩
    case round =>
      obtain ⟨⟨rfl, rfl | rfl⟩ | ⟨rfl, rfl⟩, hb⟩ := hrel
      · obtain ⟨c0, c1, _⟩ := HS.out _ hb
        have HH := Lib.hid hb
        clear hb
        go_wp2_with fail
        refine (HA.out _ HH.out).mono ?_
        rintro e w1 ⟨rfl, hw1⟩
        have hb1 := btrans hw1 HH.out
        have HB1 := Lib.hid hb1
        clear hw1 hb1
        dsimp only
        go_wp2_with fail
        go_roundw
        case rel => exact ⟨.inl ⟨rfl, .inr rfl⟩, HB1.out⟩
        case measure => simp [intOf]
      · obtain ⟨c0, c1, _⟩ := HS.out _ hb
        have HH := Lib.hid hb
        clear hb
        go_wp2_with fail
        refine (HB.out _ HH.out).mono ?_
        rintro e w1 ⟨rfl, hw1⟩
        have hb1 := btrans hw1 HH.out
        have HB1 := Lib.hid hb1
        clear hw1 hb1
        dsimp only
        go_wp2_with fail
        go_roundw
        case rel => exact ⟨.inr ⟨rfl, rfl⟩, HB1.out⟩
        case measure => simp [intOf]
      · have hbd := hb.drew
        have hs1 : IntKind.i64.wrap 1 = 1 := by decide
        have hs2 : IntKind.i64.wrap 2 = 2 := by decide
        obtain ⟨c0, c1, _⟩ := HS.out _ hb
        go_wp2_with fail
        go_region_held3 (fun W => W.cell? ⟨g, 0, none⟩ = some (.pointer (some ⟨b0, 0, none⟩)) ∧ W.cell? ⟨g, 1, none⟩ = some (.pointer (some ⟨b1, 0, none⟩)) ∧ Below w.heap.size w W)
          (first | exact HS.out _ hbd | exact HS.out _ hb2 | exact HS.out _ hb3 | assumption)
          (first
          | (go_at_call 36; (with_reducible refine (HO.out _ (by first | assumption | exact (by assumption : _ ∧ _ ∧ Below w.heap.size w _).2.2)).mono ?_); rintro e w2 ⟨p2, rfl, hm2, hw2⟩; have hb2 := btrans hw2 (by first | assumption | exact (by assumption : _ ∧ _ ∧ Below w.heap.size w _).2.2))
          | (go_at_call 36; (with_reducible refine (build_zero _ _ _).mono ?_); rintro e w4 ⟨rfl, rfl⟩)
          | (go_at_call 45; (with_reducible refine (HR.out _ _ hb2 hm2).mono ?_); rintro e w3 ⟨b3, rfl, hm3, hw3⟩; have hb3 := btrans hw3 hb2))
        all_goals
          go_wp2_with fail
          go_ret
          exact ⟨some b3, rfl, hm3, by first | exact hb3 | assumption⟩
  · rw [ha] at HB
    rw [if_pos rfl]
    have HR := Lib.hid (show ∀ W p, Below w.heap.size w W → Tree W p (lf k0 v0) → Calls Tryz.prog 45 #[.pointer (some ⟨b1, 0, none⟩), pv p, .pointer none] W (Grown (.node (lf k0 v0) k1 v1 .leaf) W) from fun W p hb hp => grow_any (w := W) (l := lf k0 v0) (r := .leaf) (pr := none) ⟨HT.out.n1.below hb, hp, rfl, HT.out.dg.below hb⟩ (by simp [Tr.T.len]) (by simp [Tr.T.len]))
    have HO := Lib.hid (show ∀ W, Below w.heap.size w W → Calls Tryz.prog 36 #[.slice (some ⟨g, 0, none⟩) 1 2] W (Treed (lf k0 v0) W) from fun W hb => build_one (HT.out.below hb).c0 (HT.out.n0.below hb) (HT.out.dg.below hb) (.inr rfl))
    clear ha
    go_enter Tryz.func36, Tryz.ntmps36
    go_wp2_with fail
    go_loopw [3, 11] (fun t i wr => ((t = .int .i64 0 ∧ (i = .int .i64 0 ∨ i = .int .i64 1)) ∨ (t = .int .i64 1 ∧ i = .int .i64 2)) ∧ Below w.heap.size w wr) (fun _ i _ => 2 - (intOf i).toNat)
    case atStart => exact ⟨.inl ⟨rfl, .inl rfl⟩, Below.refl _ _⟩
    case round =>
      obtain ⟨⟨rfl, rfl | rfl⟩ | ⟨rfl, rfl⟩, hb⟩ := hrel
      · obtain ⟨c0, c1, _⟩ := HS.out _ hb
        have HH := Lib.hid hb
        clear hb
        go_wp2_with fail
        refine (HA.out _ HH.out).mono ?_
        rintro e w1 ⟨rfl, hw1⟩
        have hb1 := btrans hw1 HH.out
        have HB1 := Lib.hid hb1
        clear hw1 hb1
        dsimp only
        go_wp2_with fail
        go_roundw
        case rel => exact ⟨.inl ⟨rfl, .inr rfl⟩, HB1.out⟩
        case measure => simp [intOf]
      · obtain ⟨c0, c1, _⟩ := HS.out _ hb
        have HH := Lib.hid hb
        clear hb
        go_wp2_with fail
        refine (HB.out _ HH.out).mono ?_
        rintro e w1 ⟨rfl, hw1⟩
        have hb1 := btrans hw1 HH.out
        have HB1 := Lib.hid hb1
        clear hw1 hb1
        dsimp only
        go_wp2_with fail
        go_roundw
        case rel => exact ⟨.inr ⟨rfl, rfl⟩, HB1.out⟩
        case measure => simp [intOf]
      · have hbd := hb.drew
        have hs1 : IntKind.i64.wrap 1 = 1 := by decide
        have hs2 : IntKind.i64.wrap 2 = 2 := by decide
        obtain ⟨c0, c1, _⟩ := HS.out _ hb
        go_wp2_with fail
        go_region_held3 (fun W => W.cell? ⟨g, 0, none⟩ = some (.pointer (some ⟨b0, 0, none⟩)) ∧ W.cell? ⟨g, 1, none⟩ = some (.pointer (some ⟨b1, 0, none⟩)) ∧ Below w.heap.size w W)
          (first | exact HS.out _ hbd | exact HS.out _ hb2 | exact HS.out _ hb3 | assumption)
          (first
          | (go_at_call 36; (with_reducible refine (HO.out _ (by first | assumption | exact (by assumption : _ ∧ _ ∧ Below w.heap.size w _).2.2)).mono ?_); rintro e w2 ⟨p2, rfl, hm2, hw2⟩; have hb2 := btrans hw2 (by first | assumption | exact (by assumption : _ ∧ _ ∧ Below w.heap.size w _).2.2))
          | (go_at_call 36; (with_reducible refine (build_zero _ _ _).mono ?_); rintro e w4 ⟨rfl, rfl⟩)
          | (go_at_call 45; (with_reducible refine (HR.out _ _ hb2 hm2).mono ?_); rintro e w3 ⟨b3, rfl, hm3, hw3⟩; have hb3 := btrans hw3 hb2))
        all_goals
          go_wp2_with fail
          go_ret
          exact ⟨some b3, rfl, hm3, by first | exact hb3 | assumption⟩
end Go.Proofs.YtheobkepoocamaaGreatDoor
