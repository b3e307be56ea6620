/- The document's new disk. -/
import Derived.Test.YtdgbfkedgedogaaRefFlush
namespace Go.Proofs.Ytdgbfkedgedogaa
open Go.RowKit Go.Maps
def RSt.new (n : Nat) : RSt := ⟨List.replicate n (lstr (pad ⟨#[]⟩)), [], 0, 0, 0, false⟩
/-- What is made so far: the result at b, the disk at b + 1. -/
structure Made (w0 : World) (b : Nat) (v : Value) (j : Nat) (wr : World) : Prop where
  ge : w0.heap.size ≤ b
  far : ∀ g, v.ownBlock = some g → b + 2 ≤ g
  res : wr.heap[b]? = some (.cells #[.slice none 0 0, .slice none 0 0, .int .i64 0, .int .u64 0, .int .i64 0, .bool false] 35 (0, 0))
  box : wr.heap[b + 1]? = some (.cells #[v, .slice none 0 0, .int .i64 0, .int .u64 0, .int .i64 0, .bool false] 35 (0, 0))
  row : wr.ownsRow 0 9 1 v j (strs (List.replicate j (lstr (pad ⟨#[]⟩))))
  below : Below w0.heap.size w0 wr
theorem Made.lt {w0 wr : World} {b j : Nat} {v : Value} (M : Made w0 b v j wr) : b + 1 < wr.heap.size := (Array.getElem?_eq_some_iff.1 M.box).1
theorem one6v (v : Value) {P : Nat → Nat → Prop} {n : Nat} (h : ∃ g cap, v = .slice (some ⟨g, 0, none⟩) n cap ∧ P g cap) : (#[v, .slice none 0 0, .int .i64 0, .int .u64 0, .int .i64 0, .bool false] : Array Value).all (·.oneCell') = true := by
  obtain ⟨g, cap, rfl, _⟩ := h
  exact one6 _ _ _ _ _ _ rfl rfl rfl rfl rfl rfl
theorem Made.more {w0 wr w5 : World} {b j g5 cap5 : Nat} {v : Value} (M : Made w0 b v j wr) (hown5 : w5.ownsRow 0 9 1 (.slice (some ⟨g5, 0, none⟩) (j + 1) cap5) (j + 1) (strs (List.replicate j (lstr (pad ⟨#[]⟩))) ++ [.string (lstr (pad ⟨#[]⟩))]))
    (hg : World.grownBy ((wr.alloc (.cells #[.string (lstr (pad ⟨#[]⟩))] 9)).drew) w5 v.ownBlock) (hat : v.ownBlock = some g5 ∨ g5 = wr.heap.size + 1) :
    Made w0 b (.slice (some ⟨g5, 0, none⟩) (j + 1) cap5) (j + 1) (w5.setCell ⟨b + 1, 0, none⟩ (.slice (some ⟨g5, 0, none⟩) (j + 1) cap5)) ∧ w5.cell? ⟨b + 1, 0, none⟩ = some v ∧ w5.frozen? ⟨b + 1, 0, none⟩ = false := by
  have hlt := M.lt
  have hg5 : b + 2 ≤ g5 := by
    rcases hat with e | e
    · exact M.far g5 e
    · omega
  have hk : ∀ k, k < b + 2 → w5.heap[k]? = wr.heap[k]? := fun k hk => (hg.block k (by show k < (wr.alloc _).heap.size; simp; omega) (fun e => by have := M.far k e.symm; omega)).trans (Below.heap_alloc wr _ k (by omega))
  have hbx := (hk (b + 1) (by omega)).trans M.box
  refine ⟨⟨M.ge, fun g e => by rw [show g = g5 from (Option.some.inj e).symm]; exact hg5, (Below.heap_setCell _ _ _ _ (by show b ≠ b + 1; omega)).trans ((hk b (by omega)).trans M.res), block_setCell hbx _, ?_, ?_⟩, cell_block hbx 0, free_block hbx 0⟩
  · rw [show strs (List.replicate (j + 1) (lstr (pad ⟨#[]⟩))) = strs (List.replicate j (lstr (pad ⟨#[]⟩))) ++ [.string (lstr (pad ⟨#[]⟩))] by unfold strs; rw [List.replicate_succ', List.map_append]; rfl]
    exact owns_kept hown5 (fun k e => Below.heap_setCell _ _ _ _ (by rw [show k = g5 from (Option.some.inj e).symm]; show g5 ≠ b + 1; omega))
  · exact (((M.below.alloc (by have := M.below.size; omega) (.cells #[.string (lstr (pad ⟨#[]⟩))] 9)).drew).grown hg (by have := M.below.size; show w0.heap.size ≤ (wr.alloc _).heap.size; simp; omega) (fun k e => by have := M.far k e; have := M.ge; omega)).setCell (by show w0.heap.size ≤ b + 1; have := M.ge; omega) _
set_option maxRecDepth 100000 in
set_option maxHeartbeats 4000000 in
theorem rnew_any (n : Nat) (w : World) (h1 : 0 < n) (h2 : n ≤ 100) :
    Calls Try.prog 11 #[.int .i64 n] w fun e w' => ∃ g' lc', e = .returned (rvs (some ⟨g', 0, none⟩) n lc' none 0 0 (RSt.new n)) ∧ RD w' (.slice (some ⟨g', 0, none⟩) n lc') (.slice none 0 0) (RSt.new n) ∧ w.heap.size ≤ g' ∧ Below w.heap.size w w' := by
  obtain ⟨i0, hi0, hz0, hz1, hz2⟩ := info_parts info9
  have hbx := heap_alloc_new (w.alloc (.cells #[.slice none 0 0, .slice none 0 0, .int .i64 0, .int .u64 0, .int .i64 0, .bool false] 35)) (.cells #[.slice none 0 0, .slice none 0 0, .int .i64 0, .int .u64 0, .int .i64 0, .bool false] 35)
  rw [show (w.alloc (.cells #[.slice none 0 0, .slice none 0 0, .int .i64 0, .int .u64 0, .int .i64 0, .bool false] 35)).heap.size = w.heap.size + 1 by simp] at hbx
  have hrs := Below.heap_alloc (w.alloc (.cells #[.slice none 0 0, .slice none 0 0, .int .i64 0, .int .u64 0, .int .i64 0, .bool false] 35)) (.cells #[.slice none 0 0, .slice none 0 0, .int .i64 0, .int .u64 0, .int .i64 0, .bool false] 35) w.heap.size (by simp)
  rw [heap_alloc_new] at hrs
  have M0 : Made w w.heap.size (.slice none 0 0) 0 ((w.alloc (.cells #[.slice none 0 0, .slice none 0 0, .int .i64 0, .int .u64 0, .int .i64 0, .bool false] 35)).alloc (.cells #[.slice none 0 0, .slice none 0 0, .int .i64 0, .int .u64 0, .int .i64 0, .bool false] 35)) :=
    ⟨Nat.le_refl _, (fun g h => by cases h), hrs, hbx, World.ownsRow_nil _ _ _ _, below2 w _ _⟩
  clear hbx hrs
  go_enter Try.func11, Try.ntmps11
  go_wp2_with fail
  generalize hw2 : World.alloc (w.alloc _) _ = w2 at M0 ⊢
  clear hw2
  go_loopw [4] (fun x wr => ∃ (j : Nat) (v : Value), j ≤ n ∧ x = .int .i64 j ∧ Made w w.heap.size v j wr) (fun x _ => n - (intOf x).toNat)
  case atStart => exact ⟨0, _, by omega, rfl, M0⟩
  case round =>
    obtain ⟨j, v, hj, rfl, M⟩ := hrel
    by_cases hlt : j < n
    · have hlt' : (j : Int) < (n : Int) := by omega
      have hj0 : (0 : Int) ≤ (j : Int) := by omega
      have cb0 : wr.cell? ⟨w.heap.size + 1, 0, none⟩ = some v := cell_block M.box 0
      have cb0' : (wr.alloc (.cells #[.string (lstr (pad ⟨#[]⟩))] 9)).drew.cell? ⟨w.heap.size + 1, 0, none⟩ = some v := (World.cell?_of_block (Below.heap_alloc wr _ (w.heap.size + 1) (M.lt))).trans cb0
      have hown : (wr.alloc (.cells #[.string (lstr (pad ⟨#[]⟩))] 9)).drew.ownsRow 0 9 1 v j (strs (List.replicate j (lstr (pad ⟨#[]⟩)))) := owns_below M.row ((Below.refl _ wr).alloc (Nat.le_refl _) _).drew
      have hnv := heap_alloc_new wr (.cells #[.string (lstr (pad ⟨#[]⟩))] 9)
      have HM := Lib.hid M
      have hbl := M.lt
      have hbn : w.heap.size + 1 ≠ wr.heap.size := by omega
      clear M
      go_wp2_with fail
      refine wp_region_held_drew (S := fun _ => True) (by kernel_rfl) trivial (fun hHeld => ?_)
      refine wpAnyH_take (i := 0) (v := .pointer (some ⟨w.heap.size + 1, 0, none⟩)) rfl (by kernel_rfl) (by kernel_rfl) (by kernel_rfl) (fun _ _ _ h => h) (Or.inl ⟨by rfl, ?_⟩) (by assumption) ?_
      focus (intro w' hS1; (try dsimp only at hS1); go_simp)
      try simp only [List.getElem_toArray, List.getElem_cons_succ, List.getElem_cons_zero, Act.put, List.setIfInBounds_toArray, List.set_cons_zero, List.set_cons_succ]
      refine wpAnyH_ready (rs := [1, 2]) (by kernel_rfl) (by simp) ?_
      refine (AllReadyH.cons (o := _) rfl (fun K hK => ?_) (AllReadyH.cons (o := _) rfl (fun K hK => ?_) AllReadyH.nil))
      · try simp only [List.getElem_toArray, List.getElem_cons_succ, List.getElem_cons_zero]
        rw [if_pos (by rfl)]
        go_simp
        refine hK.out _ _ trivial (fun hHeld => ?_)
        clear hK K
        try simp only [List.getElem_toArray, List.getElem_cons_succ, List.getElem_cons_zero, Act.put, List.setIfInBounds_toArray, List.set_cons_zero, List.set_cons_succ]
        refine wpAnyH_ready (rs := [2]) (by kernel_rfl) (by simp) ?_
        refine (AllReadyH.cons (o := _) rfl (fun K hK => ?_) AllReadyH.nil)
        try simp only [List.getElem_toArray, List.getElem_cons_succ, List.getElem_cons_zero]
        rw [if_pos (by rfl)]
        go_simp
        go_at_call 26
        refine (fill_any ⟨#[]⟩ _ (by decide)).mono ?_
        rintro e w' ⟨rfl, rfl⟩
        dsimp only
        refine hK.out _ _ trivial (fun hHeld => ?_)
        clear hK K
        try simp only [List.getElem_toArray, List.getElem_cons_succ, List.getElem_cons_zero, Act.put, List.setIfInBounds_toArray, List.set_cons_zero, List.set_cons_succ]
        refine wpAnyH_ready (rs := [3]) (by kernel_rfl) (by simp) ?_
        refine (AllReadyH.cons (o := _) rfl (fun K hK => ?_) AllReadyH.nil)
        try simp only [List.getElem_toArray, List.getElem_cons_succ, List.getElem_cons_zero]
        rw [if_pos (by rfl)]
        go_simp
        refine hK.out _ _ trivial (fun hHeld => ?_)
        clear hK K
        try simp only [List.getElem_toArray, List.getElem_cons_succ, List.getElem_cons_zero, Act.put, List.setIfInBounds_toArray, List.set_cons_zero, List.set_cons_succ]
        refine wpAnyH_ready (rs := [4]) (by kernel_rfl) (by simp) ?_
        refine AllReadyH.cons (o := _) rfl (fun K hK => ?_) AllReadyH.nil
        try simp only [List.getElem_toArray, List.getElem_cons_succ, List.getElem_cons_zero]
        rw [if_pos (by rfl)]
        refine wp_append_lies _ (.tmp 11) (.tmp 13) 29 (by rfl) 0 9 i0 _ 1 16 Try.underlying29 hi0 hz0 hz1 hz2 rfl (by omega) v j (strs (List.replicate j (lstr (pad ⟨#[]⟩)))) (by rfl) hown
          ⟨wr.heap.size, 0, none⟩ 1 1 [.string (lstr (pad ⟨#[]⟩))] (by rfl) (by rfl) (World.news_of_block (w := (wr.alloc (.cells #[.string (lstr (pad ⟨#[]⟩))] 9)).drew) hnv) (by simp [Value.oneCell']) (by omega) (by unfold maxLen; omega) (by omega) (Nat.zero_le _) (wr.heap.size + 1) (by simp) ?_
        intro g5 cap5 w5 hown5 hgrow5 hat5 hlt5
        obtain ⟨M5, c5, f5⟩ := HM.out.more hown5 hgrow5 hat5
        refine hK.out _ _ trivial (fun hHeld => ?_)
        clear hK K
        try simp only [List.getElem_toArray, List.getElem_cons_succ, List.getElem_cons_zero, Act.put, List.setIfInBounds_toArray, List.set_cons_zero, List.set_cons_succ]
        refine wpAnyH_take (i := 5) (v := .pointer (some ⟨w.heap.size + 1, 0, none⟩)) rfl (by kernel_rfl) (by kernel_rfl) (by kernel_rfl) (fun _ _ _ h => h) (Or.inl ⟨by rfl, ?_⟩) (by assumption) ?_
        focus (intro w' hS1; (try dsimp only at hS1); go_simp)
        try simp only [List.getElem_toArray, List.getElem_cons_succ, List.getElem_cons_zero, Act.put, List.setIfInBounds_toArray, List.set_cons_zero, List.set_cons_succ]
        refine wpAnyH_ready (rs := [6]) (by kernel_rfl) (by simp) ?_
        refine AllReadyH.cons (o := _) rfl (fun K hK => ?_) AllReadyH.nil
        try simp only [List.getElem_toArray, List.getElem_cons_succ, List.getElem_cons_zero]
        rw [if_pos (by rfl)]
        go_simp
        refine hK.out _ _ trivial (fun hHeld => ?_)
        clear hK K
        try simp only [List.getElem_toArray, List.getElem_cons_succ, List.getElem_cons_zero, Act.put, List.setIfInBounds_toArray, List.set_cons_zero, List.set_cons_succ]
        refine wpAnyH_done (by kernel_rfl) ?_ _
        go_wp2_with fail
        go_roundw
        case rel => exact ⟨j + 1, _, by omega, by go_num, M5⟩
        case measure => simp [intOf]; omega
      · try simp only [List.getElem_toArray, List.getElem_cons_succ, List.getElem_cons_zero]
        rw [if_pos (by rfl)]
        go_simp
        go_at_call 26
        refine (fill_any ⟨#[]⟩ _ (by decide)).mono ?_
        rintro e w' ⟨rfl, rfl⟩
        dsimp only
        refine hK.out _ _ trivial (fun hHeld => ?_)
        clear hK K
        try simp only [List.getElem_toArray, List.getElem_cons_succ, List.getElem_cons_zero, Act.put, List.setIfInBounds_toArray, List.set_cons_zero, List.set_cons_succ]
        refine wpAnyH_ready (rs := [1, 3]) (by kernel_rfl) (by simp) ?_
        refine (AllReadyH.cons (o := _) rfl (fun K hK => ?_) (AllReadyH.cons (o := _) rfl (fun K hK => ?_) AllReadyH.nil))
        · try simp only [List.getElem_toArray, List.getElem_cons_succ, List.getElem_cons_zero]
          rw [if_pos (by rfl)]
          go_simp
          refine hK.out _ _ trivial (fun hHeld => ?_)
          clear hK K
          try simp only [List.getElem_toArray, List.getElem_cons_succ, List.getElem_cons_zero, Act.put, List.setIfInBounds_toArray, List.set_cons_zero, List.set_cons_succ]
          refine wpAnyH_ready (rs := [3]) (by kernel_rfl) (by simp) ?_
          refine (AllReadyH.cons (o := _) rfl (fun K hK => ?_) AllReadyH.nil)
          try simp only [List.getElem_toArray, List.getElem_cons_succ, List.getElem_cons_zero]
          rw [if_pos (by rfl)]
          go_simp
          refine hK.out _ _ trivial (fun hHeld => ?_)
          clear hK K
          try simp only [List.getElem_toArray, List.getElem_cons_succ, List.getElem_cons_zero, Act.put, List.setIfInBounds_toArray, List.set_cons_zero, List.set_cons_succ]
          refine wpAnyH_ready (rs := [4]) (by kernel_rfl) (by simp) ?_
          refine AllReadyH.cons (o := _) rfl (fun K hK => ?_) AllReadyH.nil
          try simp only [List.getElem_toArray, List.getElem_cons_succ, List.getElem_cons_zero]
          rw [if_pos (by rfl)]
          refine wp_append_lies _ (.tmp 11) (.tmp 13) 29 (by rfl) 0 9 i0 _ 1 16 Try.underlying29 hi0 hz0 hz1 hz2 rfl (by omega) v j (strs (List.replicate j (lstr (pad ⟨#[]⟩)))) (by rfl) hown
            ⟨wr.heap.size, 0, none⟩ 1 1 [.string (lstr (pad ⟨#[]⟩))] (by rfl) (by rfl) (World.news_of_block (w := (wr.alloc (.cells #[.string (lstr (pad ⟨#[]⟩))] 9)).drew) hnv) (by simp [Value.oneCell']) (by omega) (by unfold maxLen; omega) (by omega) (Nat.zero_le _) (wr.heap.size + 1) (by simp) ?_
          intro g5 cap5 w5 hown5 hgrow5 hat5 hlt5
          obtain ⟨M5, c5, f5⟩ := HM.out.more hown5 hgrow5 hat5
          refine hK.out _ _ trivial (fun hHeld => ?_)
          clear hK K
          try simp only [List.getElem_toArray, List.getElem_cons_succ, List.getElem_cons_zero, Act.put, List.setIfInBounds_toArray, List.set_cons_zero, List.set_cons_succ]
          refine wpAnyH_take (i := 5) (v := .pointer (some ⟨w.heap.size + 1, 0, none⟩)) rfl (by kernel_rfl) (by kernel_rfl) (by kernel_rfl) (fun _ _ _ h => h) (Or.inl ⟨by rfl, ?_⟩) (by assumption) ?_
          focus (intro w' hS1; (try dsimp only at hS1); go_simp)
          try simp only [List.getElem_toArray, List.getElem_cons_succ, List.getElem_cons_zero, Act.put, List.setIfInBounds_toArray, List.set_cons_zero, List.set_cons_succ]
          refine wpAnyH_ready (rs := [6]) (by kernel_rfl) (by simp) ?_
          refine AllReadyH.cons (o := _) rfl (fun K hK => ?_) AllReadyH.nil
          try simp only [List.getElem_toArray, List.getElem_cons_succ, List.getElem_cons_zero]
          rw [if_pos (by rfl)]
          go_simp
          refine hK.out _ _ trivial (fun hHeld => ?_)
          clear hK K
          try simp only [List.getElem_toArray, List.getElem_cons_succ, List.getElem_cons_zero, Act.put, List.setIfInBounds_toArray, List.set_cons_zero, List.set_cons_succ]
          refine wpAnyH_done (by kernel_rfl) ?_ _
          go_wp2_with fail
          go_roundw
          case rel => exact ⟨j + 1, _, by omega, by go_num, M5⟩
          case measure => simp [intOf]; omega
        · try simp only [List.getElem_toArray, List.getElem_cons_succ, List.getElem_cons_zero]
          rw [if_pos (by rfl)]
          go_simp
          refine hK.out _ _ trivial (fun hHeld => ?_)
          clear hK K
          try simp only [List.getElem_toArray, List.getElem_cons_succ, List.getElem_cons_zero, Act.put, List.setIfInBounds_toArray, List.set_cons_zero, List.set_cons_succ]
          refine wpAnyH_ready (rs := [1]) (by kernel_rfl) (by simp) ?_
          refine (AllReadyH.cons (o := _) rfl (fun K hK => ?_) AllReadyH.nil)
          try simp only [List.getElem_toArray, List.getElem_cons_succ, List.getElem_cons_zero]
          rw [if_pos (by rfl)]
          go_simp
          refine hK.out _ _ trivial (fun hHeld => ?_)
          clear hK K
          try simp only [List.getElem_toArray, List.getElem_cons_succ, List.getElem_cons_zero, Act.put, List.setIfInBounds_toArray, List.set_cons_zero, List.set_cons_succ]
          refine wpAnyH_ready (rs := [4]) (by kernel_rfl) (by simp) ?_
          refine AllReadyH.cons (o := _) rfl (fun K hK => ?_) AllReadyH.nil
          try simp only [List.getElem_toArray, List.getElem_cons_succ, List.getElem_cons_zero]
          rw [if_pos (by rfl)]
          refine wp_append_lies _ (.tmp 11) (.tmp 13) 29 (by rfl) 0 9 i0 _ 1 16 Try.underlying29 hi0 hz0 hz1 hz2 rfl (by omega) v j (strs (List.replicate j (lstr (pad ⟨#[]⟩)))) (by rfl) hown
            ⟨wr.heap.size, 0, none⟩ 1 1 [.string (lstr (pad ⟨#[]⟩))] (by rfl) (by rfl) (World.news_of_block (w := (wr.alloc (.cells #[.string (lstr (pad ⟨#[]⟩))] 9)).drew) hnv) (by simp [Value.oneCell']) (by omega) (by unfold maxLen; omega) (by omega) (Nat.zero_le _) (wr.heap.size + 1) (by simp) ?_
          intro g5 cap5 w5 hown5 hgrow5 hat5 hlt5
          obtain ⟨M5, c5, f5⟩ := HM.out.more hown5 hgrow5 hat5
          refine hK.out _ _ trivial (fun hHeld => ?_)
          clear hK K
          try simp only [List.getElem_toArray, List.getElem_cons_succ, List.getElem_cons_zero, Act.put, List.setIfInBounds_toArray, List.set_cons_zero, List.set_cons_succ]
          refine wpAnyH_take (i := 5) (v := .pointer (some ⟨w.heap.size + 1, 0, none⟩)) rfl (by kernel_rfl) (by kernel_rfl) (by kernel_rfl) (fun _ _ _ h => h) (Or.inl ⟨by rfl, ?_⟩) (by assumption) ?_
          focus (intro w' hS1; (try dsimp only at hS1); go_simp)
          try simp only [List.getElem_toArray, List.getElem_cons_succ, List.getElem_cons_zero, Act.put, List.setIfInBounds_toArray, List.set_cons_zero, List.set_cons_succ]
          refine wpAnyH_ready (rs := [6]) (by kernel_rfl) (by simp) ?_
          refine AllReadyH.cons (o := _) rfl (fun K hK => ?_) AllReadyH.nil
          try simp only [List.getElem_toArray, List.getElem_cons_succ, List.getElem_cons_zero]
          rw [if_pos (by rfl)]
          go_simp
          refine hK.out _ _ trivial (fun hHeld => ?_)
          clear hK K
          try simp only [List.getElem_toArray, List.getElem_cons_succ, List.getElem_cons_zero, Act.put, List.setIfInBounds_toArray, List.set_cons_zero, List.set_cons_succ]
          refine wpAnyH_done (by kernel_rfl) ?_ _
          go_wp2_with fail
          go_roundw
          case rel => exact ⟨j + 1, _, by omega, by go_num, M5⟩
          case measure => simp [intOf]; omega
    · obtain rfl : j = n := by omega
      have hbx := M.box
      have hrs := M.res
      have HM := Lib.hid M
      clear M
      go_wp2_with (first
        | (refine load35 rfl (.tmp 3) rfl (w.heap.size + 1) _ (by rfl) hbx rfl ?_)
        | (refine store35 rfl (.tmp 2) (.tmp 16) rfl w.heap.size _ _ (by rfl) (by rfl) hrs rfl rfl (one6v _ (HM.out.row.form h1)) ?_; intro w2 hw2 hk2 hs2 hbl2)
        | fail)
      refine bodyPost_ret_by (results_cell_row rfl _ _ w.heap.size 35 _ (0, 0) _ rfl hw2 Try.underlying35 rfl size35) rfl ?_
      obtain ⟨g', cap', rfl, -, -⟩ := HM.out.row.form h1
      have hfar := HM.out.far g' rfl
      refine ⟨g', cap', rfl, ⟨?_, World.ownsRow_nil _ _ _ _⟩, by omega, hbl2 _ _ (Nat.le_refl _) HM.out.below⟩
      show w2.ownsRow 0 9 1 _ (List.replicate j (lstr (pad ⟨#[]⟩))).length _
      rw [List.length_replicate]
      exact owns_kept HM.out.row (fun q hq => by rw [show q = g' from (Option.some.inj hq).symm]; exact hk2 g' (by omega))
end Go.Proofs.Ytdgbfkedgedogaa
