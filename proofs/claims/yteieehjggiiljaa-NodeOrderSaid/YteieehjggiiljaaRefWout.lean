/- The document's Without. -/
import Derived.Test.YteieehjggiiljaaErow
namespace Go.Proofs.Yteieehjggiiljaa
set_option maxRecDepth 100000
open Go.RowKit Go.Less
attribute [local go_sem 9000] sem_eql sem_neq sem_lss sem_leq sem_gtr sem_geq
abbrev zc : Array Value := #[.int .i64 0, .int .i64 0, .string ⟨#[]⟩, .string ⟨#[]⟩, .slice none 0 0]
theorem ents_nil (w : World) : Ents none 0 [] w := ⟨rfl, fun i hi => by omega⟩
/-- The round's relation: some entries gathered, the node in its box. -/
structure Gat (w : World) (cs : Array Value) (l : List En) (v : Value) (wr : World) : Prop where
  own : Own (w.heap.size + 2) v l wr
  box : wr.heap[w.heap.size]? = some (.cells cs 24 (0, 0))
  res : wr.heap[w.heap.size + 1]? = some (.cells zc 24 (0, 0))
  big : w.heap.size + 2 ≤ wr.heap.size
  below : Below w.heap.size w wr
theorem gat_more {w wr w4 : World} {cs : Array Value} {l : List En} {v v4 : Value} {x : En} {o : Obj} (h : Gat w cs l v wr) (hO : Own (w.heap.size + 2) v l (wr.alloc o)) (hg : (wr.alloc o).grownBy w4 v.ownBlock)
    (hown : Own (w.heap.size + 2) v4 (l ++ [x]) w4) : Gat w cs (l ++ [x]) v4 w4 := by
  have hA := (Below.refl wr.heap.size wr).alloc (Nat.le_refl _) o
  have big := h.big
  have hne : ∀ y, y < w.heap.size + 2 → some y ≠ v.ownBlock := fun y hy e => by have := owns_lt hO y e.symm; omega
  have hbig : wr.heap.size ≤ (wr.alloc o).heap.size := hA.size
  have hs : (wr.alloc o).heap.size ≤ w4.heap.size := hg.size
  refine ⟨hown, grown_obj hg ((hA.block _ (lt_of_obj h.box)).trans h.box) (hne _ (by omega)), grown_obj hg ((hA.block _ (lt_of_obj h.res)).trans h.res) (hne _ (by omega)), by omega, ?_⟩
  exact (h.below.trans (hA.mono h.below.size)).grown hg (Nat.le_trans h.below.size hbig) (fun j hj => by have := owns_lt hO j hj; omega)
theorem set5 {w : World} {g : Nat} {x0 x1 x2 x3 x4 : Value} (v0 v1 v2 v3 v4 : Value) (h : w.heap[g]? = some (.cells #[x0, x1, x2, x3, x4] 24 (0, 0))) :
    (((((w.setCell ⟨g, 0, none⟩ v0).setCell ⟨g, 1, none⟩ v1).setCell ⟨g, 2, none⟩ v2).setCell ⟨g, 3, none⟩ v3).setCell ⟨g, 4, none⟩ v4).heap[g]? = some (.cells #[v0, v1, v2, v3, v4] 24 (0, 0)) := by
  have h0 := heap_setCell_same w g 0 _ 24 v0 h
  have h1 := heap_setCell_same _ g 1 _ 24 v1 h0
  have h2 := heap_setCell_same _ g 2 _ 24 v2 h1
  have h3 := heap_setCell_same _ g 3 _ 24 v3 h2
  have h4 := heap_setCell_same _ g 4 _ 24 v4 h3
  simpa using h4
theorem below5 {n0 : Nat} {w W : World} {g : Nat} (h : Below n0 w W) (hg : n0 ≤ g) (v0 v1 v2 v3 v4 : Value) :
    Below n0 w (((((W.setCell ⟨g, 0, none⟩ v0).setCell ⟨g, 1, none⟩ v1).setCell ⟨g, 2, none⟩ v2).setCell ⟨g, 3, none⟩ v3).setCell ⟨g, 4, none⟩ v4) :=
  ((((h.setCell hg v0).setCell hg v1).setCell hg v2).setCell hg v3).setCell hg v4
theorem own_set {base : Nat} {v : Value} {l : List En} {w : World} (h : Own base v l w) {g : Nat} (hg : g < base) (k : Nat) (y : Value) : Own base v l (w.setCell ⟨g, k, none⟩ y) := by
  refine World.ownsRow.kept h (?_ : w.grownBy _ (some g)) (.inr fun e => ?_)
  · exact ⟨rfl, rfl, rfl, by simp [World.setCell], fun j hj hne => heap_setCell_other w ⟨g, k, none⟩ j _ (fun e => hne (by rw [e]))⟩
  · have := owns_lt h g e; omega
theorem own_set5 {base : Nat} {v : Value} {l : List En} {w : World} (h : Own base v l w) {g : Nat} (hg : g < base) (v0 v1 v2 v3 v4 : Value) :
    Own base v l (((((w.setCell ⟨g, 0, none⟩ v0).setCell ⟨g, 1, none⟩ v1).setCell ⟨g, 2, none⟩ v2).setCell ⟨g, 3, none⟩ v3).setCell ⟨g, 4, none⟩ v4) :=
  own_set (own_set (own_set (own_set (own_set h hg 0 v0) hg 1 v1) hg 2 v2) hg 3 v3) hg 4 v4
theorem size1 (w : World) (x : Obj) : (w.alloc x).heap.size = w.heap.size + 1 := by simp
theorem two0 (w : World) (x y : Obj) : ((w.alloc x).alloc y).heap[w.heap.size]? = some x := by
  have h := heap_alloc_new w x
  have hb := (Below.refl (w.alloc x).heap.size (w.alloc x)).alloc (Nat.le_refl _) y
  exact (hb.block _ (lt_of_obj h)).trans h
theorem two1 (w : World) (x y : Obj) : ((w.alloc x).alloc y).heap[w.heap.size + 1]? = some y := by rw [← size1 w x]; exact heap_alloc_new _ _
theorem two2 (w : World) (x y : Obj) : w.heap.size + 2 ≤ ((w.alloc x).alloc y).heap.size := by rw [size1, size1]; exact Nat.le_refl _
set_option maxHeartbeats 4000000 in
theorem refWithout_any (k m : Int) (d t : ByteArray) (a : Option Addr) (n cap : Nat) (l : List En) (nm : ByteArray) (w : World) (hE : Ents a n l w) (hn : n ≤ 100000) :
    Calls Try.prog 18 #[nv k m d t a n cap, .string nm] w (Noded (Nd.withoutE ⟨k, m, d, t, l⟩ nm) w) := by
  have HNL := Lib.hid hE.count
  have hni : (n : Int) ≤ 100000 := by omega
  have HE := Lib.hid (fun W (hb : Below w.heap.size w W) => hE.below hb)
  have HB0 := Lib.hid (show ∀ x y : Obj, Below w.heap.size w ((w.alloc x).alloc y) from fun x y => ((Below.refl _ w).alloc (Nat.le_refl _) _).alloc (by simp) _)
  clear hE
  by_cases e1 : ¬ k = 2
  · have HR := Lib.hid (show Nd.withoutE ⟨k, m, d, t, l⟩ nm = (Nd.none0, 10) by unfold Nd.withoutE; rw [if_pos e1])
    go_enter Try.func18, Try.ntmps18
    go_wp2_with fail
    refine bodyPost_ret_by (results_nd rfl _ _ (w.heap.size + 1) _ _ _ _ _ rfl (two1 _ _ _)) rfl ⟨none, 0, by rw [HR.out]; rfl, by rw [HR.out]; exact ents_nil _, HB0.out _ _⟩
  · obtain rfl := Decidable.not_not.1 e1
    clear e1
    go_enter Try.func18, Try.ntmps18
    go_wp2_with fail
    go_loopw [6, 7, 8] (fun v g i wr => ∃ j : Nat, j ≤ n ∧ i = .int .i64 j ∧ g = .bool (Nd.find (l.take j) nm).isSome ∧ Gat w #[.int .i64 2, .int .i64 m, .string d, .string t, .slice a n cap] (Nd.cut (l.take j) nm) v wr) (fun _ _ i _ => n - (intOf i).toNat)
    case atStart => exact ⟨0, Nat.zero_le _, rfl, rfl, ⟨own_nil _ _, two0 _ _ _, two1 _ _ _, two2 _ _ _, HB0.out _ _⟩⟩
    case round =>
      obtain ⟨j, hj, rfl, rfl, hG⟩ := hrel
      obtain ⟨ao, cp, rfl⟩ := owns_form hG.own
      have cb := cell_obj hG.box 4
      have cb' : wr.cell? ⟨w.heap.size, 4, none⟩ = some (.slice a n cap) := cb
      clear cb
      by_cases hlt : j < n
      · have j0 : (j : Int) < (n : Int) := by omega
        have hj0 : (0 : Int) ≤ (j : Int) := by omega
        obtain ⟨b, off, rfl, c0, c1⟩ := (HE.out _ hG.below).cell j hlt
        have hjl : j < l.length := by rw [← HNL.out]; exact hlt
        have hT := take_snoc hjl z0
        have HC := Lib.hid (cut_snoc (l.take j) (l.getD j z0) nm)
        have HF := Lib.hid (find_snoc (l.take j) (l.getD j z0) nm)
        rw [← hT] at HC HF
        have hcl := cut_len (l.take j) nm
        rw [List.length_take] at hcl
        have HL := Lib.hid (show (Nd.cut (l.take j) nm).length ≤ 100000 by omega)
        clear hcl hjl hT
        have HG := Lib.hid hG
        clear hG
        generalize l.getD j z0 = x at c0 c1 HC HF
        generalize hf : (Nd.find (l.take j) nm).isSome = f at *
        generalize Nd.cut (l.take j) nm = C at *
        cases hx : (!f && alike x.1 nm)
        · have HC2 := Lib.hid (show Nd.cut (l.take (j + 1)) nm = C ++ [x] by rw [HC.out, if_pos (by revert hx; cases f <;> cases alike x.1 nm <;> simp)])
          have HF2 := Lib.hid (show (Nd.find (l.take (j + 1)) nm).isSome = f by rw [HF.out]; revert hx; cases f <;> cases alike x.1 nm <;> simp)
          have hA := (Below.refl wr.heap.size wr).alloc (Nat.le_refl _) (.cells #[.string x.1, .int .i64 x.2] 46)
          have HO := Lib.hid (owned_below HG.out.own hA)
          have HN := Lib.hid (heap_alloc_new wr (.cells #[.string x.1, .int .i64 x.2] 46))
          have HS := Lib.hid (Nat.le_trans HG.out.big hA.size)
          clear hA hf
          cases f
          · have hx2 : alike x.1 nm = false := by simpa using hx
            clear hx
            go_wp2_with (first | (at_builtin; refine at_ent rfl _ _ rfl (w.heap.size + 2) _ C (by rfl) HO.out wr.heap.size x (by rfl) HN.out (Nat.le_trans HL.out (by decide)) HS.out ?_; intro ao4 cap4 w4 hown4 hgrow4; have HG4 := Lib.hid (gat_more HG.out HO.out hgrow4 (by simpa [Own] using hown4)); clear hown4 hgrow4) | fail)
            go_roundw
            case rel => exact ⟨j + 1, by omega, by go_num, by rw [HF2.out], by rw [HC2.out]; exact HG4.out⟩
            case measure => simp [intOf]; omega
          · clear hx
            go_wp2_with (first | (at_builtin; refine at_ent rfl _ _ rfl (w.heap.size + 2) _ C (by rfl) HO.out wr.heap.size x (by rfl) HN.out (Nat.le_trans HL.out (by decide)) HS.out ?_; intro ao4 cap4 w4 hown4 hgrow4; have HG4 := Lib.hid (gat_more HG.out HO.out hgrow4 (by simpa [Own] using hown4)); clear hown4 hgrow4) | fail)
            go_roundw
            case rel => exact ⟨j + 1, by omega, by go_num, by rw [HF2.out], by rw [HC2.out]; exact HG4.out⟩
            case measure => simp [intOf]; omega
        · obtain ⟨rfl, hx2⟩ : f = false ∧ alike x.1 nm = true := by revert hx; cases f <;> cases alike x.1 nm <;> simp
          have HC2 := Lib.hid (show Nd.cut (l.take (j + 1)) nm = C by rw [HC.out, hx2]; rfl)
          have HF2 := Lib.hid (show (Nd.find (l.take (j + 1)) nm).isSome = true by rw [HF.out, hx2]; rfl)
          clear hx hf
          go_wp2_with fail
          go_roundw
          case rel => exact ⟨j + 1, by omega, by go_num, by rw [HF2.out], by rw [HC2.out]; exact HG.out⟩
          case measure => simp [intOf]; omega
      · obtain rfl : j = n := by omega
        rw [show l.take j = l by rw [HNL.out, List.take_length]] at hG ⊢
        have HG := Lib.hid hG
        clear hG
        cases hf : (Nd.find l nm).isSome
        · have HR := Lib.hid (show Nd.withoutE ⟨2, m, d, t, l⟩ nm = (Nd.none0, 4) by unfold Nd.withoutE; rw [if_neg (by simp), if_pos hf])
          have hr := HG.out.res
          have r0 : wr.cell? ⟨w.heap.size + 1, 0, none⟩ = some (.int .i64 0) := cell_obj hr 0
          have r1 : wr.cell? ⟨w.heap.size + 1, 1, none⟩ = some (.int .i64 0) := cell_obj hr 1
          have r2 : wr.cell? ⟨w.heap.size + 1, 2, none⟩ = some (.string ⟨#[]⟩) := cell_obj hr 2
          have r3 : wr.cell? ⟨w.heap.size + 1, 3, none⟩ = some (.string ⟨#[]⟩) := cell_obj hr 3
          have r4 : wr.cell? ⟨w.heap.size + 1, 4, none⟩ = some (.slice none 0 0) := cell_obj hr 4
          have q0 := free_obj hr 0
          have q1 := free_obj hr 1
          have q2 := free_obj hr 2
          have q3 := free_obj hr 3
          have q4 := free_obj hr 4
          clear hr
          go_wp2_with fail
          refine bodyPost_ret_by (results_nd rfl _ _ (w.heap.size + 1) _ _ _ _ _ rfl (set5 _ _ _ _ _ HG.out.res)) rfl ⟨none, 0, by rw [HR.out]; rfl, by rw [HR.out]; exact ents_nil _, below5 HG.out.below (Nat.le_succ _) _ _ _ _ _⟩
        · have HR := Lib.hid (show Nd.withoutE ⟨2, m, d, t, l⟩ nm = (⟨2, m, d, t, Nd.cut l nm⟩, 0) by unfold Nd.withoutE; rw [if_neg (by simp), if_neg (by rw [hf]; simp)])
          have hr := HG.out.res
          have hx := HG.out.box
          have r0 : wr.cell? ⟨w.heap.size + 1, 0, none⟩ = some (.int .i64 0) := cell_obj hr 0
          have r1 : wr.cell? ⟨w.heap.size + 1, 1, none⟩ = some (.int .i64 0) := cell_obj hr 1
          have r2 : wr.cell? ⟨w.heap.size + 1, 2, none⟩ = some (.string ⟨#[]⟩) := cell_obj hr 2
          have r3 : wr.cell? ⟨w.heap.size + 1, 3, none⟩ = some (.string ⟨#[]⟩) := cell_obj hr 3
          have r4 : wr.cell? ⟨w.heap.size + 1, 4, none⟩ = some (.slice none 0 0) := cell_obj hr 4
          have q0 := free_obj hr 0
          have q1 := free_obj hr 1
          have q2 := free_obj hr 2
          have q3 := free_obj hr 3
          have q4 := free_obj hr 4
          have x0 : wr.cell? ⟨w.heap.size, 0, none⟩ = some (.int .i64 2) := cell_obj hx 0
          have x1 : wr.cell? ⟨w.heap.size, 1, none⟩ = some (.int .i64 m) := cell_obj hx 1
          have x2 : wr.cell? ⟨w.heap.size, 2, none⟩ = some (.string d) := cell_obj hx 2
          have x3 : wr.cell? ⟨w.heap.size, 3, none⟩ = some (.string t) := cell_obj hx 3
          have x4 := free_obj hx 4
          have hne : w.heap.size ≠ w.heap.size + 1 := by omega
          clear hr hx
          go_wp2_with fail
          have hr' : (wr.setCell ⟨w.heap.size, 4, none⟩ (.slice ao (Nd.cut l nm).length cp)).heap[w.heap.size + 1]? = some (.cells zc 24 (0, 0)) :=
            (heap_setCell_other wr ⟨w.heap.size, 4, none⟩ (w.heap.size + 1) _ (by show w.heap.size + 1 ≠ w.heap.size; omega)).trans HG.out.res
          refine bodyPost_ret_by (results_nd rfl _ _ (w.heap.size + 1) _ _ _ _ _ rfl (set5 _ _ _ _ _ hr')) rfl ⟨ao, cp, by rw [HR.out]; rfl, ?_, below5 (HG.out.below.setCell (Nat.le_refl _) _) (Nat.le_succ _) _ _ _ _ _⟩
          rw [HR.out]
          exact own_ents (own_set5 (own_set HG.out.own (by omega) 4 _) (by omega) _ _ _ _ _)
end Go.Proofs.Yteieehjggiiljaa
