/- chunk.Cut and chunk.Names: a range over the places of a file's chunks that collects texts. -/
import Derived.Test.YtnapjloapgfcfaaDoorPlaces
import Derived.Test.YtnapjloapgfcfaaDoorRounds
import Derived.Deep.AppendLies
import Derived.Deep.RegionHeld3
import Derived.Test.YtnapjloapgfcfaaDoorName
import Derived.Test.YtnapjloapgfcfaaDoorRefNames
namespace Go.Proofs.YtnapjloapgfcfaaDoor
set_option maxRecDepth 100000
open Go.RowKit Go.Shelf Sha
attribute [local go_sem] Oper.semAt_some

def chunkAt (l : List UInt8) (k : Nat) : List UInt8 := (l.drop (16 * k)).take 16
theorem cut_range (l : List UInt8) : Chk.cut l = (List.range ((l.length + 15) / 16)).map (chunkAt l) := by
  refine List.ext_getElem (by rw [Chk.cut_length, List.length_map, List.length_range]) fun k h1 h2 => ?_
  rw [Chk.cut_get h1, List.getElem_map, List.getElem_range]; rfl
theorem goesAll_map {α : Type} {m : Nat} {xs : List (Pl m)} (h : goesAll m xs) (f : Nat → α) : xs.map (fun x => f x.1) = (List.range ((m + 15) / 16)).map f := by
  rw [← h, List.map_map]; rfl
theorem chunk_text (x : ByteArray) (k : Nat) (_ : 16 * k < x.size) : x.extract (16 * k) (upto x.size k) = lstr (chunkAt x.data.toList k) := by
  have hu : upto x.size k = 16 * k + (upto x.size k - 16 * k) := by unfold upto; omega
  have hl : x.data.toList.length = x.size := Array.length_toList
  rw [hu, cut_text x (16 * k) _ (by unfold upto; omega)]
  unfold chunkAt
  by_cases h : 16 * k + 16 ≤ x.size
  · rw [show upto x.size k - 16 * k = 16 from by unfold upto; omega]
  · rw [show upto x.size k - 16 * k = x.size - 16 * k from by unfold upto; omega, List.take_of_length_le (by rw [List.length_drop, hl]; omega), List.take_of_length_le (by rw [List.length_drop, hl]; omega)]
theorem run_make9 (n : Nat) (hn : n ≤ 1000000) (w : World) : (Instr.makeSlice 35 (.int .i64 0) (.int .i64 (n : Int))).run Tryd.prog w = .ok (.slice (some ⟨w.heap.size, 0, none⟩) 0 n) (w.alloc (.cells (madeCells #[.string ⟨#[]⟩] n) 9)) := by
  obtain ⟨i0, hi, hz0, hz1, hz2⟩ := info_parts info9c
  have h := run_make (P := Tryd.prog) w 35 9 i0 _ Tryd.underlying35 hi hz0 .i64 .i64 0 (n : Int) (by omega) (by omega) (by rw [hz2]; omega) (by omega)
  rw [hz1, Nat.mul_one, Int.toNat_natCast] at h
  exact h
/-- What the loop holds: the row so far; the text; the iterator's own number; and nothing that lay has turned. -/
structure Held (s : ByteArray) (f : List UInt8 → List UInt8) (w : World) (pre : List (Pl s.size)) (W : World) : Prop where
  row : ∃ v, Boxed W (w.heap.size + 1 + 1) 35 v ∧ Trow (w.heap.size + 1) v (pre.map fun x => f (chunkAt s.data.toList x.1)) W
  text : Boxed W w.heap.size 9 (.string s)
  num : Boxed W (w.heap.size + 1 + 1 + 1) 3 (.int .i64 (s.size : Int))
  below : Below w.heap.size w W
theorem not_cells {W : World} {B : Nat} {t : TypeId} {v : Value} (h : Boxed W B t v) {r : Option Nat} (hr : ∀ b, r = some b → ∃ o : Obj, W.heap[b]? = some o ∧ o.isCells = false) : some B ≠ r := by
  intro e
  obtain ⟨o, ho, hc⟩ := hr _ e.symm
  rw [show W.heap[B]? = _ from h] at ho; cases ho; cases hc
theorem held_own (s : ByteArray) (f : List UInt8 → List UInt8) (w : World) (B : Nat) (hB : w.heap.size ≤ B) : OwnFrom B (Held s f w) := by
  rintro pre W W' r ⟨⟨v, hv, hr⟩, hs, hn, hb⟩ hg hrow
  have hr' : W.ownsRow (w.heap.size + 1) 9 1 v (pre.map fun x => f (chunkAt s.data.toList x.1)).length ((pre.map fun x => f (chunkAt s.data.toList x.1)).map fun l => Value.string (lstr l)) := hr
  have h1 := holdsRow_own (β := List (Pl s.size)) (w.heap.size + 1) (w.heap.size + 1 + 1) 35 9 1 (fun pre : List (Pl s.size) => (pre.map fun x => f (chunkAt s.data.toList x.1)).length) (fun pre : List (Pl s.size) => (pre.map fun x => f (chunkAt s.data.toList x.1)).map fun l => Value.string (lstr l)) (fun _ _ => True) pre W W' r ⟨v, hv, hr', trivial⟩ hg (fun b e => (hrow b e).2)
  obtain ⟨v', hv', hr2, _⟩ := h1
  exact ⟨⟨v', hv', hr2⟩, hs.kept hg (not_cells hs fun b e => (hrow b e).2), hn.kept hg (not_cells hn fun b e => (hrow b e).2), hb.grown hg hb.size (fun j e => by have := (hrow j e).1; omega)⟩
theorem keepsOthers_below {W W' : World} (h : Below W.heap.size W W') : KeepsOthers W W' := ⟨h.size, fun k o hk _ => (h.block k (Array.getElem?_eq_some_iff.1 hk).1).trans hk⟩
theorem boxed_below {B : Nat} {t : TypeId} {v : Value} {w w' : World} (h : Boxed w B t v) (hb : Below w.heap.size w w') : Boxed w' B t v := (hb.block B h.lt).trans h
/-- One text more, and what the walk owes. -/
theorem held_more {s : ByteArray} {f : List UInt8 → List UInt8} {w W w1 w5 : World} {pre : List (Pl s.size)} {ao : Option Addr} {pn cap g cap5 : Nat} (x : Pl s.size) (hS : Boxed W w.heap.size 9 (.string s)) (hN : Boxed W (w.heap.size + 1 + 1 + 1) 3 (.int .i64 (s.size : Int))) (hB : Below w.heap.size w W)
    (hv : Boxed W (w.heap.size + 1 + 1) 35 (.slice ao pn cap)) (hrow : Trow (w.heap.size + 1) (.slice ao pn cap) (pre.map fun x => f (chunkAt s.data.toList x.1)) W) (hpn : (pre.map fun x => f (chunkAt s.data.toList x.1)).length = pn) (hw1 : Below W.heap.size W w1)
    (hown5 : w5.ownsRow (w.heap.size + 1) 9 1 (.slice (some ⟨g, 0, none⟩) (pn + 1) cap5) (pn + 1) (((pre.map fun x => f (chunkAt s.data.toList x.1)).map fun l => Value.string (lstr l)) ++ [.string (lstr (f (chunkAt s.data.toList x.1)))]))
    (hgrow5 : (w1.alloc (.cells #[.string (lstr (f (chunkAt s.data.toList x.1)))] 9)).grownBy w5 (Value.slice ao pn cap).ownBlock) (B : Nat) :
    w5.cell? ⟨w.heap.size, 0, none⟩ = some (.string s) ∧ w5.cell? ⟨w.heap.size + 1 + 1, 0, none⟩ = some (.slice ao pn cap) ∧ w5.frozen? ⟨w.heap.size + 1 + 1, 0, none⟩ = false ∧
      (w5.setCell ⟨w.heap.size + 1 + 1, 0, none⟩ (.slice (some ⟨g, 0, none⟩) (pn + 1) cap5)).cell? ⟨w.heap.size, 0, none⟩ = some (.string s) ∧
      (KeepsFrom B W (w5.setCell ⟨w.heap.size + 1 + 1, 0, none⟩ (.slice (some ⟨g, 0, none⟩) (pn + 1) cap5)) ∧ KeepC (w.heap.size + 1 + 1 + 1) W (w5.setCell ⟨w.heap.size + 1 + 1, 0, none⟩ (.slice (some ⟨g, 0, none⟩) (pn + 1) cap5)) ∧ Held s f w (pre ++ [x]) (w5.setCell ⟨w.heap.size + 1 + 1, 0, none⟩ (.slice (some ⟨g, 0, none⟩) (pn + 1) cap5))) := by
  have hv1 := boxed_below hv hw1
  have hS1 := boxed_below hS hw1
  have hN1 := boxed_below hN hw1
  have hrow1 := trow_below hrow hw1
  unfold Trow at hrow1
  rw [hpn] at hrow1
  have hle : w.heap.size + 1 ≤ w1.heap.size := by have := hS1.lt; omega
  obtain ⟨h1, h2, h3, h4, h5⟩ := hv1.appended (tmp := .cells #[.string (lstr (f (chunkAt s.data.toList x.1)))] 9) (by decide) hrow1 hle (by omega) hown5 hgrow5
  have hnS : some w.heap.size ≠ (Value.slice ao pn cap).ownBlock := fun e => by have := (World.ownsRow.lt hrow1 _ e.symm).1; omega
  have hS5 : Boxed w5 w.heap.size 9 (.string s) := (hS1.alloc _).kept hgrow5 hnS
  have hN5 : Boxed w5 (w.heap.size + 1 + 1 + 1) 3 (.int .i64 (s.size : Int)) := (hN1.alloc _).kept hgrow5 (hN1.not_row (by decide) hrow1)
  have hS6 : Boxed (w5.setCell ⟨w.heap.size + 1 + 1, 0, none⟩ (.slice (some ⟨g, 0, none⟩) (pn + 1) cap5)) w.heap.size 9 (.string s) := hS5.kept (grownBy_setCell' _ _ _) (by simp; omega)
  have hN6 : Boxed (w5.setCell ⟨w.heap.size + 1 + 1, 0, none⟩ (.slice (some ⟨g, 0, none⟩) (pn + 1) cap5)) (w.heap.size + 1 + 1 + 1) 3 (.int .i64 (s.size : Int)) := hN5.kept (grownBy_setCell' _ _ _) (by simp)
  refine ⟨hS5.cell, h1.cell, h1.frozen, hS6.cell, ((keepsOthers_below hw1).trans h4).from B, fun v e => ?_, ⟨⟨_, h2, ?_⟩, hS6, hN6, ?_⟩⟩
  · rw [hN.cell] at e; cases e; exact hN6.cell
  · unfold Trow
    rw [List.map_append, List.length_append, List.map_append, hpn]
    exact h3
  · exact (hB.trans (hw1.mono hB.size)).trans (h5.mono (by omega))
theorem names_in (s : ByteArray) (w : World) (hK : KOk w) (hI : IOk w) (hs : s.size ≤ 1000000) :
    Calls Tryd.prog 20 #[.string s] w (Rowed ((Chk.cut s.data.toList).map nameOf) w) := by
  have hcount := fun w' => count_any s.size w' (by omega)
  have hplaces := fun w' => places_any (s.size : Int) w'
  obtain ⟨cn, hcn⟩ : ∃ cn, (s.size + 15) / 16 = cn := ⟨_, rfl⟩
  have hcn1 : cn ≤ 1000000 := by omega
  simp only [hcn] at hcount
  have HC := Lib.hid hcn
  clear hcn
  have hmk := run_make9 cn hcn1
  refine (callsIn_wide (n := 5)).1 ?_
  refine callsIn_of_wp_marks Tryd.func20 rfl trivial ?_ rfl
  simp only [Tryd.ntmps20, List.size_toArray, List.length_cons, List.length_nil, Nat.reduceAdd, Nat.reduceSub, Array.replicate_succ, Array.replicate_zero, List.push_toArray, List.append_toArray, List.nil_append, List.cons_append]
  gi_wp2_with (first
    | (refine ⟨trivial, ?_⟩; gi_at_call 31; refine (callsIn_wide.2 (hcount _)).mono ?_; rintro e w' ⟨rfl, rfl⟩)
    | (refine ⟨trivial, ?_⟩; gi_at_call 32; refine (callsIn_wide.2 (hplaces _)).mono ?_; rintro e w' ⟨rfl, rfl⟩))
  have bS : Boxed ((((w.alloc (.cells #[.string s] 9)).alloc (.cells (madeCells #[.string ⟨#[]⟩] cn) 9)).alloc (.cells #[.slice (some ⟨w.heap.size + 1, 0, none⟩) 0 cn] 35)).alloc (.cells #[.int .i64 (s.size : Int)] 3)) w.heap.size 9 (.string s) := (((Boxed.new w 9 (.string s)).alloc _).alloc _).alloc _
  have bN : Boxed ((((w.alloc (.cells #[.string s] 9)).alloc (.cells (madeCells #[.string ⟨#[]⟩] cn) 9)).alloc (.cells #[.slice (some ⟨w.heap.size + 1, 0, none⟩) 0 cn] 35)).alloc (.cells #[.int .i64 (s.size : Int)] 3)) (w.heap.size + 1 + 1) 35 (.slice (some ⟨w.heap.size + 1, 0, none⟩) 0 cn) := by
    have h := Boxed.new ((w.alloc (.cells #[.string s] 9)).alloc (.cells (madeCells #[.string ⟨#[]⟩] cn) 9)) 35 (.slice (some ⟨w.heap.size + 1, 0, none⟩) 0 cn)
    rw [World.size_alloc, World.size_alloc] at h
    exact h.alloc _
  have bP : Boxed ((((w.alloc (.cells #[.string s] 9)).alloc (.cells (madeCells #[.string ⟨#[]⟩] cn) 9)).alloc (.cells #[.slice (some ⟨w.heap.size + 1, 0, none⟩) 0 cn] 35)).alloc (.cells #[.int .i64 (s.size : Int)] 3)) (w.heap.size + 1 + 1 + 1) 3 (.int .i64 (s.size : Int)) := by
    have h := Boxed.new (((w.alloc (.cells #[.string s] 9)).alloc (.cells (madeCells #[.string ⟨#[]⟩] cn) 9)).alloc (.cells #[.slice (some ⟨w.heap.size + 1, 0, none⟩) 0 cn] 35)) 3 (.int .i64 (s.size : Int))
    rw [World.size_alloc, World.size_alloc, World.size_alloc] at h
    exact h
  have hR0 : Trow (w.heap.size + 1) (.slice (some ⟨w.heap.size + 1, 0, none⟩) 0 cn) [] ((((w.alloc (.cells #[.string s] 9)).alloc (.cells (madeCells #[.string ⟨#[]⟩] cn) 9)).alloc (.cells #[.slice (some ⟨w.heap.size + 1, 0, none⟩) 0 cn] 35)).alloc (.cells #[.int .i64 (s.size : Int)] 3)) := by
    have h := World.ownsRow_made (e := 9) (size := 1) (base := w.heap.size + 1) (w.alloc (.cells #[.string s] 9)) (madeCells #[.string ⟨#[]⟩] cn) cn (by simp) (by unfold maxLen; omega) (by rw [size_madeCells]; omega)
    rw [World.size_alloc] at h
    exact trow_below (trow_below h ((Below.refl _ _).alloc (Nat.le_refl _) _)) ((Below.refl _ _).alloc (Nat.le_refl _) _)
  have hB0 : Below w.heap.size w ((((w.alloc (.cells #[.string s] 9)).alloc (.cells (madeCells #[.string ⟨#[]⟩] cn) 9)).alloc (.cells #[.slice (some ⟨w.heap.size + 1, 0, none⟩) 0 cn] 35)).alloc (.cells #[.int .i64 (s.size : Int)] 3)) := ((((Below.refl _ w).alloc (Nat.le_refl _) _).alloc (by simp) _).alloc (by simp; omega) _).alloc (by simp; omega) _
  have hsz : ((((w.alloc (.cells #[.string s] 9)).alloc (.cells (madeCells #[.string ⟨#[]⟩] cn) 9)).alloc (.cells #[.slice (some ⟨w.heap.size + 1, 0, none⟩) 0 cn] 35)).alloc (.cells #[.int .i64 (s.size : Int)] 3)).heap.size = w.heap.size + 4 := by simp
  generalize hW0 : ((((w.alloc (.cells #[.string s] 9)).alloc (.cells (madeCells #[.string ⟨#[]⟩] cn) 9)).alloc (.cells #[.slice (some ⟨w.heap.size + 1, 0, none⟩) 0 cn] 35)).alloc (.cells #[.int .i64 (s.size : Int)] 3)) = W0 at bS bN bP hR0 hB0 hsz ⊢
  clear hW0
  refine wpIn_rangeFunc_ownG rfl (by omega) (gf := 38) (lb := #[.pointer (some ⟨w.heap.size + 1 + 1 + 1, 0, none⟩)]) rfl trivial (enters_of Tryd.func38 (by kernel_rfl) rfl)
    (goes_stops Fence.wide (5 - 1) trivial rfl (by omega) (w.heap.size + 1 + 1 + 1) s.size (by omega) W0 (by omega) bP.cell) keepC_t (keepC_b (w := W0)) (Below.refl _ _) (fun _ => rfl)
    (Held s nameOf w) (fun _ _ _ => False)
    (held_own s nameOf w _ (by omega)) (fun _ _ _ _ _ hs _ _ => hs)
    ⟨⟨_, bN, hR0⟩, bS, bP, hB0⟩
    (fun x => { tmps := #[.string s, .pointer (some ⟨w.heap.size, 0, none⟩), .slice none 0 0, .pointer (some ⟨w.heap.size + 1 + 1, 0, none⟩), .int .i64 (16 * (x.1 : Int)), .int .i64 ((upto s.size x.1 : Nat) : Int), .string s, .int .i64 s.size, .int .i64 cn, .slice (some ⟨w.heap.size + 1, 0, none⟩) 0 cn, .string s, .int .i64 s.size, .func (.func 38) #[] #[.pointer (some ⟨w.heap.size + 1 + 1 + 1, 0, none⟩)], .int .i64 (16 * (x.1 : Int)), .int .i64 ((upto s.size x.1 : Nat) : Int), undef, undef, undef, undef, undef, undef, undef, undef, undef], defers := [] }) ?assign ?body ?done ?stop
  case assign =>
    intro l x W K hk
    unfold plEnc
    gi_wp2
    exact hk
  case body =>
    rintro l pre ⟨x, hx⟩ W ⟨⟨v, hv, hrow⟩, hS, hN, hB⟩ hlen
    dsimp only
    obtain ⟨ao, cap, rfl⟩ := trow_form hrow
    have hcs := hS.cell
    have hmx : Tryd.prog.follows .mixedOrders = true := by kernel_rfl
    have hux : upto s.size x ≤ s.size := by unfold upto; omega
    have hxu : 16 * x ≤ upto s.size x := by unfold upto; omega
    have hux' : ((upto s.size x : Nat) : Int) ≤ (s.size : Int) := by omega
    have hxu' : 16 * (x : Int) ≤ ((upto s.size x : Nat) : Int) := by omega
    have hx0 : (0 : Int) ≤ 16 * (x : Int) := by omega
    have hex : s.extract (16 * (x : Int)).toNat (upto s.size x) = lstr (chunkAt s.data.toList x) := by rw [← chunk_text s x hx, show (16 * (x : Int)).toNat = 16 * x from by omega]
    have HN := Lib.hid (name_any (s.extract (16 * (x : Int)).toNat (upto s.size x)) W.drew ((hK.below hB).below (Below.refl _ _).drew) ((hI.below hB).below (Below.refl _ _).drew) (by rw [hex]; show (chunkAt s.data.toList x).toArray.size ≤ _; rw [List.size_toArray]; unfold chunkAt; rw [List.length_take]; omega))
    rw [hex, lstr_data] at HN
    have HE := Lib.hid hex
    have hpl : pre.length ≤ 100000 := by omega
    have hpn : (pre.map fun x => nameOf (chunkAt s.data.toList x.1)).length ≤ 100000 := by rw [List.length_map]; exact hpl
    clear hlen hpl hex
    have hrw := hrow
    unfold Trow at hrw
    generalize hu : upto s.size x = u at hux hxu hux' hxu' HE ⊢
    have hnb := hv.cell
    have hnf := hv.frozen
    have HF := Lib.hid (fun (w1 w5 : World) (g cap5 : Nat) (hw1 : Below W.heap.size W w1) (h5 : w5.ownsRow _ 9 1 _ _ _) (hg : World.grownBy _ w5 _) => held_more (f := nameOf) (g := g) (cap5 := cap5) ⟨x, hx⟩ hS hN hB hv hrow rfl hw1 h5 hg W0.heap.size)
    have HR := Lib.hid (fun (w1 : World) (hw1 : Below W.heap.size W w1) => (trow_below hrow (hw1.alloc hw1.size (.cells #[.string (lstr (nameOf (chunkAt s.data.toList x)))] 9)) : World.ownsRow _ _ 9 1 _ _ _))
    have HCN := Lib.hid (fun (w1 : World) (hw1 : Below W.heap.size W w1) => (boxed_below hv hw1).cell)
    have HCS := Lib.hid (fun (w1 : World) (hw1 : Below W.heap.size W w1) => (boxed_below hS hw1).cell)
    have HSZ := Lib.hid (show w.heap.size + 1 ≤ W.heap.size from by have := hS.lt; omega)
    clear hv hrow hS hN hB hrw
    generalize hls : (pre.map fun x => nameOf (chunkAt s.data.toList x.1)) = ls at hnb hpn HF HR HCN
    obtain ⟨i0, hi0, hz0, hz1, hz2⟩ := info_parts info9c
    have hW : W.drew.heap.size = W.heap.size := rfl
    gi_wp2
    refine region_round (S := fun W' => W'.cell? ⟨w.heap.size, 0, none⟩ = some (.string s)) hmx (by rfl) (fun ⟨_, _, h⟩ => h) hcs (fun hHeld => ?_)
    refine wpAnyH_take (i := 1) (v := .string s) rfl (by kernel_rfl) (by kernel_rfl) (by kernel_rfl) (fun _ _ _ h => h) (Or.inl ⟨by rfl, ?_⟩) (by assumption) ?_
    focus (intro w' hS1; (try dsimp only at hS1); go_simp)
    try simp only [List.getElem_toArray, List.getElem_cons_succ, List.getElem_cons_zero, Act.put, List.setIfInBounds_toArray, List.set_cons_zero, List.set_cons_succ]
    refine wpAnyH_take (i := 2) (v := .int .i64 (16 * (x : Int))) rfl (by kernel_rfl) (by kernel_rfl) (by kernel_rfl) (fun _ _ _ h => h) (Or.inl ⟨by rfl, ?_⟩) (by assumption) ?_
    focus (intro w' hS1; (try dsimp only at hS1); go_simp)
    try simp only [List.getElem_toArray, List.getElem_cons_succ, List.getElem_cons_zero, Act.put, List.setIfInBounds_toArray, List.set_cons_zero, List.set_cons_succ]
    refine wpAnyH_take (i := 3) (v := .int .i64 (u : Int)) rfl (by kernel_rfl) (by kernel_rfl) (by kernel_rfl) (fun _ _ _ h => h) (Or.inl ⟨by rfl, ?_⟩) (by assumption) ?_
    focus (intro w' hS1; (try dsimp only at hS1); go_simp)
    try simp only [List.getElem_toArray, List.getElem_cons_succ, List.getElem_cons_zero, Act.put, List.setIfInBounds_toArray, List.set_cons_zero, List.set_cons_succ]
    refine wpAnyH_take (i := 4) (v := .string (s.extract (16 * (x : Int)).toNat u)) rfl (by kernel_rfl) (by kernel_rfl) (by kernel_rfl) (fun _ _ _ h => h) (Or.inl ⟨by rfl, ?_⟩) (by assumption) ?_
    focus (intro w' hS1; (try dsimp only at hS1); go_simp)
    try simp only [List.getElem_toArray, List.getElem_cons_succ, List.getElem_cons_zero, Act.put, List.setIfInBounds_toArray, List.set_cons_zero, List.set_cons_succ]
    refine wpAnyH_ready (rs := [0, 5]) (by kernel_rfl) (by simp) ?_
    refine (AllReadyH.cons (o := _) rfl (fun K hK => ?_) (AllReadyH.cons (o := _) rfl (fun K hK => ?_) AllReadyH.nil))
    · try simp only [List.getElem_toArray, List.getElem_cons_succ, List.getElem_cons_zero]
      rw [if_pos (by rfl)]
      go_simp
      refine hK.out _ _ hHeld (fun hHeld => ?_)
      clear hK K
      try simp only [List.getElem_toArray, List.getElem_cons_succ, List.getElem_cons_zero, Act.put, List.setIfInBounds_toArray, List.set_cons_zero, List.set_cons_succ]
      refine wpAnyH_ready (rs := [5]) (by kernel_rfl) (by simp) ?_
      refine (AllReadyH.cons (o := _) rfl (fun K hK => ?_) AllReadyH.nil)
      try simp only [List.getElem_toArray, List.getElem_cons_succ, List.getElem_cons_zero]
      rw [if_pos (by rfl)]
      go_simp
      go_at_call 26
      rw [HE.out]
      refine HN.out.mono ?_
      rintro e w1 ⟨rfl, hw1⟩
      have hw1 : Below W.heap.size W w1 := ((Below.refl W.heap.size W).drew).trans hw1
      have hnb1 := HCN.out w1 hw1
      have HS1 := Lib.hid (HCS.out w1 hw1)
      have hal := (Below.refl w1.heap.size w1).alloc (Nat.le_refl _) (.cells #[.string (lstr (nameOf (chunkAt s.data.toList x)))] 9)
      have HS2 := Lib.hid (HCS.out _ (hw1.trans (hal.mono hw1.size)))
      have hnb2 := HCN.out _ (hw1.trans (hal.mono hw1.size))
      have HR2 := Lib.hid (HR.out w1 hw1)
      have HNEW := Lib.hid (heap_alloc_new w1 (.cells #[.string (lstr (nameOf (chunkAt s.data.toList x)))] 9))
      have HB2 := Lib.hid (show w.heap.size + 1 ≤ w1.heap.size from Nat.le_trans HSZ.out hw1.size)
      have HP := Lib.hid (HF.out w1)
      dsimp only
      refine hK.out _ _ HS1.out (fun hHeld => ?_)
      clear hK K
      try simp only [List.getElem_toArray, List.getElem_cons_succ, List.getElem_cons_zero, Act.put, List.setIfInBounds_toArray, List.set_cons_zero, List.set_cons_succ]
      refine wpAnyH_ready (rs := [6]) (by kernel_rfl) (by simp) ?_
      refine (AllReadyH.cons (o := _) rfl (fun K hK => ?_) AllReadyH.nil)
      try simp only [List.getElem_toArray, List.getElem_cons_succ, List.getElem_cons_zero]
      rw [if_pos (by rfl)]
      go_simp
      refine hK.out _ _ HS2.out (fun hHeld => ?_)
      clear hK K
      try simp only [List.getElem_toArray, List.getElem_cons_succ, List.getElem_cons_zero, Act.put, List.setIfInBounds_toArray, List.set_cons_zero, List.set_cons_succ]
      refine wpAnyH_ready (rs := [7]) (by kernel_rfl) (by simp) ?_
      refine (AllReadyH.cons (o := _) rfl (fun K hK => ?_) AllReadyH.nil)
      try simp only [List.getElem_toArray, List.getElem_cons_succ, List.getElem_cons_zero]
      rw [if_pos (by rfl)]
      refine wp_append_lies _ (.tmp 15) (.tmp 21) 35 (by rfl) (w.heap.size + 1) 9 i0 _ 1 16 Tryd.underlying35 hi0 hz0 hz1 hz2 rfl (by omega) (.slice ao ls.length cap) ls.length (ls.map fun l => .string (lstr l)) (by rfl) HR2.out
        ⟨w1.heap.size, 0, none⟩ 1 1 [.string (lstr (nameOf (chunkAt s.data.toList x)))] (by rfl) (by rfl) (World.news_of_block HNEW.out) (by simp [Value.oneCell']) (by omega) (by unfold maxLen; omega) (by omega) (by have := HB2.out; simp; omega) _ rfl ?_
      intro g5 cap5 w5 hown5 hgrow5 hat5 hlt5
      obtain ⟨hS5, hc5, hf5, hfin⟩ := HP.out w5 g5 cap5 hw1 hown5 hgrow5
      have HFIN := Lib.hid hfin
      clear hfin
      refine hK.out _ _ hS5 (fun hHeld => ?_)
      clear hK K
      try simp only [List.getElem_toArray, List.getElem_cons_succ, List.getElem_cons_zero, Act.put, List.setIfInBounds_toArray, List.set_cons_zero, List.set_cons_succ]
      refine wpAnyH_ready (rs := [8]) (by kernel_rfl) (by simp) ?_
      refine (AllReadyH.cons (o := _) rfl (fun K hK => ?_) AllReadyH.nil)
      try simp only [List.getElem_toArray, List.getElem_cons_succ, List.getElem_cons_zero]
      rw [if_pos (by rfl)]
      go_simp
      refine hK.out _ _ HFIN.out.1 (fun hHeld => ?_)
      clear hK K
      try simp only [List.getElem_toArray, List.getElem_cons_succ, List.getElem_cons_zero, Act.put, List.setIfInBounds_toArray, List.set_cons_zero, List.set_cons_succ]
      refine wpAnyH_done (by kernel_rfl) ?_ _
      exact HFIN.out.2
    · try simp only [List.getElem_toArray, List.getElem_cons_succ, List.getElem_cons_zero]
      rw [if_pos (by rfl)]
      go_simp
      go_at_call 26
      rw [HE.out]
      refine HN.out.mono ?_
      rintro e w1 ⟨rfl, hw1⟩
      have hw1 : Below W.heap.size W w1 := ((Below.refl W.heap.size W).drew).trans hw1
      have hnb1 := HCN.out w1 hw1
      have HS1 := Lib.hid (HCS.out w1 hw1)
      have hal := (Below.refl w1.heap.size w1).alloc (Nat.le_refl _) (.cells #[.string (lstr (nameOf (chunkAt s.data.toList x)))] 9)
      have HS2 := Lib.hid (HCS.out _ (hw1.trans (hal.mono hw1.size)))
      have hnb2 := HCN.out _ (hw1.trans (hal.mono hw1.size))
      have HR2 := Lib.hid (HR.out w1 hw1)
      have HNEW := Lib.hid (heap_alloc_new w1 (.cells #[.string (lstr (nameOf (chunkAt s.data.toList x)))] 9))
      have HB2 := Lib.hid (show w.heap.size + 1 ≤ w1.heap.size from Nat.le_trans HSZ.out hw1.size)
      have HP := Lib.hid (HF.out w1)
      dsimp only
      refine hK.out _ _ HS1.out (fun hHeld => ?_)
      clear hK K
      try simp only [List.getElem_toArray, List.getElem_cons_succ, List.getElem_cons_zero, Act.put, List.setIfInBounds_toArray, List.set_cons_zero, List.set_cons_succ]
      refine wpAnyH_ready (rs := [0, 6]) (by kernel_rfl) (by simp) ?_
      refine (AllReadyH.cons (o := _) rfl (fun K hK => ?_) (AllReadyH.cons (o := _) rfl (fun K hK => ?_) AllReadyH.nil))
      · try simp only [List.getElem_toArray, List.getElem_cons_succ, List.getElem_cons_zero]
        rw [if_pos (by rfl)]
        go_simp
        refine hK.out _ _ hHeld (fun hHeld => ?_)
        clear hK K
        try simp only [List.getElem_toArray, List.getElem_cons_succ, List.getElem_cons_zero, Act.put, List.setIfInBounds_toArray, List.set_cons_zero, List.set_cons_succ]
        refine wpAnyH_ready (rs := [6]) (by kernel_rfl) (by simp) ?_
        refine (AllReadyH.cons (o := _) rfl (fun K hK => ?_) AllReadyH.nil)
        try simp only [List.getElem_toArray, List.getElem_cons_succ, List.getElem_cons_zero]
        rw [if_pos (by rfl)]
        go_simp
        refine hK.out _ _ HS2.out (fun hHeld => ?_)
        clear hK K
        try simp only [List.getElem_toArray, List.getElem_cons_succ, List.getElem_cons_zero, Act.put, List.setIfInBounds_toArray, List.set_cons_zero, List.set_cons_succ]
        refine wpAnyH_ready (rs := [7]) (by kernel_rfl) (by simp) ?_
        refine (AllReadyH.cons (o := _) rfl (fun K hK => ?_) AllReadyH.nil)
        try simp only [List.getElem_toArray, List.getElem_cons_succ, List.getElem_cons_zero]
        rw [if_pos (by rfl)]
        refine wp_append_lies _ (.tmp 15) (.tmp 21) 35 (by rfl) (w.heap.size + 1) 9 i0 _ 1 16 Tryd.underlying35 hi0 hz0 hz1 hz2 rfl (by omega) (.slice ao ls.length cap) ls.length (ls.map fun l => .string (lstr l)) (by rfl) HR2.out
          ⟨w1.heap.size, 0, none⟩ 1 1 [.string (lstr (nameOf (chunkAt s.data.toList x)))] (by rfl) (by rfl) (World.news_of_block HNEW.out) (by simp [Value.oneCell']) (by omega) (by unfold maxLen; omega) (by omega) (by have := HB2.out; simp; omega) _ rfl ?_
        intro g5 cap5 w5 hown5 hgrow5 hat5 hlt5
        obtain ⟨hS5, hc5, hf5, hfin⟩ := HP.out w5 g5 cap5 hw1 hown5 hgrow5
        have HFIN := Lib.hid hfin
        clear hfin
        refine hK.out _ _ hS5 (fun hHeld => ?_)
        clear hK K
        try simp only [List.getElem_toArray, List.getElem_cons_succ, List.getElem_cons_zero, Act.put, List.setIfInBounds_toArray, List.set_cons_zero, List.set_cons_succ]
        refine wpAnyH_ready (rs := [8]) (by kernel_rfl) (by simp) ?_
        refine (AllReadyH.cons (o := _) rfl (fun K hK => ?_) AllReadyH.nil)
        try simp only [List.getElem_toArray, List.getElem_cons_succ, List.getElem_cons_zero]
        rw [if_pos (by rfl)]
        go_simp
        refine hK.out _ _ HFIN.out.1 (fun hHeld => ?_)
        clear hK K
        try simp only [List.getElem_toArray, List.getElem_cons_succ, List.getElem_cons_zero, Act.put, List.setIfInBounds_toArray, List.set_cons_zero, List.set_cons_succ]
        refine wpAnyH_done (by kernel_rfl) ?_ _
        exact HFIN.out.2
      · try simp only [List.getElem_toArray, List.getElem_cons_succ, List.getElem_cons_zero]
        rw [if_pos (by rfl)]
        go_simp
        refine hK.out _ _ HS2.out (fun hHeld => ?_)
        clear hK K
        try simp only [List.getElem_toArray, List.getElem_cons_succ, List.getElem_cons_zero, Act.put, List.setIfInBounds_toArray, List.set_cons_zero, List.set_cons_succ]
        refine wpAnyH_ready (rs := [0]) (by kernel_rfl) (by simp) ?_
        refine (AllReadyH.cons (o := _) rfl (fun K hK => ?_) AllReadyH.nil)
        try simp only [List.getElem_toArray, List.getElem_cons_succ, List.getElem_cons_zero]
        rw [if_pos (by rfl)]
        go_simp
        refine hK.out _ _ hHeld (fun hHeld => ?_)
        clear hK K
        try simp only [List.getElem_toArray, List.getElem_cons_succ, List.getElem_cons_zero, Act.put, List.setIfInBounds_toArray, List.set_cons_zero, List.set_cons_succ]
        refine wpAnyH_ready (rs := [7]) (by kernel_rfl) (by simp) ?_
        refine (AllReadyH.cons (o := _) rfl (fun K hK => ?_) AllReadyH.nil)
        try simp only [List.getElem_toArray, List.getElem_cons_succ, List.getElem_cons_zero]
        rw [if_pos (by rfl)]
        refine wp_append_lies _ (.tmp 15) (.tmp 21) 35 (by rfl) (w.heap.size + 1) 9 i0 _ 1 16 Tryd.underlying35 hi0 hz0 hz1 hz2 rfl (by omega) (.slice ao ls.length cap) ls.length (ls.map fun l => .string (lstr l)) (by rfl) HR2.out
          ⟨w1.heap.size, 0, none⟩ 1 1 [.string (lstr (nameOf (chunkAt s.data.toList x)))] (by rfl) (by rfl) (World.news_of_block HNEW.out) (by simp [Value.oneCell']) (by omega) (by unfold maxLen; omega) (by omega) (by have := HB2.out; simp; omega) _ rfl ?_
        intro g5 cap5 w5 hown5 hgrow5 hat5 hlt5
        obtain ⟨hS5, hc5, hf5, hfin⟩ := HP.out w5 g5 cap5 hw1 hown5 hgrow5
        have HFIN := Lib.hid hfin
        clear hfin
        refine hK.out _ _ hS5 (fun hHeld => ?_)
        clear hK K
        try simp only [List.getElem_toArray, List.getElem_cons_succ, List.getElem_cons_zero, Act.put, List.setIfInBounds_toArray, List.set_cons_zero, List.set_cons_succ]
        refine wpAnyH_ready (rs := [8]) (by kernel_rfl) (by simp) ?_
        refine (AllReadyH.cons (o := _) rfl (fun K hK => ?_) AllReadyH.nil)
        try simp only [List.getElem_toArray, List.getElem_cons_succ, List.getElem_cons_zero]
        rw [if_pos (by rfl)]
        go_simp
        refine hK.out _ _ HFIN.out.1 (fun hHeld => ?_)
        clear hK K
        try simp only [List.getElem_toArray, List.getElem_cons_succ, List.getElem_cons_zero, Act.put, List.setIfInBounds_toArray, List.set_cons_zero, List.set_cons_succ]
        refine wpAnyH_done (by kernel_rfl) ?_ _
        exact HFIN.out.2
  case done =>
    rintro D ys W hD hys ⟨⟨v, hv, hrow⟩, hS, hN, hB⟩ hk
    have hc := hv.cell
    gi_wp2
    refine ⟨by simp, .inl ⟨_, _, rfl, run_takeDeferred hk, ?_⟩⟩
    refine ⟨_, results_tmp rfl _ _ _, ?_⟩
    have hl := goesAll_map hys (fun k => nameOf (chunkAt s.data.toList k))
    have hcut := cut_range s.data.toList
    rw [show s.data.toList.length = s.size from Array.length_toList] at hcut
    rw [hl, show (List.range ((s.size + 15) / 16)).map (fun k => nameOf (chunkAt s.data.toList k)) = (Chk.cut s.data.toList).map nameOf from by rw [hcut, List.map_map]; rfl] at hrow
    obtain ⟨ao, cap, rfl⟩ := trow_form hrow
    exact ⟨ao, cap, rfl, ownsRow_putObj (trow_base hrow (by omega)) _ hk rfl, hB.trans (belowK_b (w := w) (Nat.le_refl _) W D _ _ (by omega) hk rfl rfl)⟩
  case stop =>
    rintro D c pre W _ _ h _
    exact h.elim
def same (l : List UInt8) : List UInt8 := l
theorem cut_in (s : ByteArray) (w : World) (hs : s.size ≤ 1000000) :
    Calls Tryd.prog 18 #[.string s] w (Rowed (Chk.cut s.data.toList) w) := by
  have hcount := fun w' => count_any s.size w' (by omega)
  have hplaces := fun w' => places_any (s.size : Int) w'
  obtain ⟨cn, hcn⟩ : ∃ cn, (s.size + 15) / 16 = cn := ⟨_, rfl⟩
  have hcn1 : cn ≤ 1000000 := by omega
  simp only [hcn] at hcount
  have HC := Lib.hid hcn
  clear hcn
  have hmk := run_make9 cn hcn1
  refine (callsIn_wide (n := 5)).1 ?_
  refine callsIn_of_wp_marks Tryd.func18 rfl trivial ?_ rfl
  simp only [Tryd.ntmps18, List.size_toArray, List.length_cons, List.length_nil, Nat.reduceAdd, Nat.reduceSub, Array.replicate_succ, Array.replicate_zero, List.push_toArray, List.append_toArray, List.nil_append, List.cons_append]
  gi_wp2_with (first
    | (refine ⟨trivial, ?_⟩; gi_at_call 31; refine (callsIn_wide.2 (hcount _)).mono ?_; rintro e w' ⟨rfl, rfl⟩)
    | (refine ⟨trivial, ?_⟩; gi_at_call 32; refine (callsIn_wide.2 (hplaces _)).mono ?_; rintro e w' ⟨rfl, rfl⟩))
  have bS : Boxed ((((w.alloc (.cells #[.string s] 9)).alloc (.cells (madeCells #[.string ⟨#[]⟩] cn) 9)).alloc (.cells #[.slice (some ⟨w.heap.size + 1, 0, none⟩) 0 cn] 35)).alloc (.cells #[.int .i64 (s.size : Int)] 3)) w.heap.size 9 (.string s) := (((Boxed.new w 9 (.string s)).alloc _).alloc _).alloc _
  have bN : Boxed ((((w.alloc (.cells #[.string s] 9)).alloc (.cells (madeCells #[.string ⟨#[]⟩] cn) 9)).alloc (.cells #[.slice (some ⟨w.heap.size + 1, 0, none⟩) 0 cn] 35)).alloc (.cells #[.int .i64 (s.size : Int)] 3)) (w.heap.size + 1 + 1) 35 (.slice (some ⟨w.heap.size + 1, 0, none⟩) 0 cn) := by
    have h := Boxed.new ((w.alloc (.cells #[.string s] 9)).alloc (.cells (madeCells #[.string ⟨#[]⟩] cn) 9)) 35 (.slice (some ⟨w.heap.size + 1, 0, none⟩) 0 cn)
    rw [World.size_alloc, World.size_alloc] at h
    exact h.alloc _
  have bP : Boxed ((((w.alloc (.cells #[.string s] 9)).alloc (.cells (madeCells #[.string ⟨#[]⟩] cn) 9)).alloc (.cells #[.slice (some ⟨w.heap.size + 1, 0, none⟩) 0 cn] 35)).alloc (.cells #[.int .i64 (s.size : Int)] 3)) (w.heap.size + 1 + 1 + 1) 3 (.int .i64 (s.size : Int)) := by
    have h := Boxed.new (((w.alloc (.cells #[.string s] 9)).alloc (.cells (madeCells #[.string ⟨#[]⟩] cn) 9)).alloc (.cells #[.slice (some ⟨w.heap.size + 1, 0, none⟩) 0 cn] 35)) 3 (.int .i64 (s.size : Int))
    rw [World.size_alloc, World.size_alloc, World.size_alloc] at h
    exact h
  have hR0 : Trow (w.heap.size + 1) (.slice (some ⟨w.heap.size + 1, 0, none⟩) 0 cn) [] ((((w.alloc (.cells #[.string s] 9)).alloc (.cells (madeCells #[.string ⟨#[]⟩] cn) 9)).alloc (.cells #[.slice (some ⟨w.heap.size + 1, 0, none⟩) 0 cn] 35)).alloc (.cells #[.int .i64 (s.size : Int)] 3)) := by
    have h := World.ownsRow_made (e := 9) (size := 1) (base := w.heap.size + 1) (w.alloc (.cells #[.string s] 9)) (madeCells #[.string ⟨#[]⟩] cn) cn (by simp) (by unfold maxLen; omega) (by rw [size_madeCells]; omega)
    rw [World.size_alloc] at h
    exact trow_below (trow_below h ((Below.refl _ _).alloc (Nat.le_refl _) _)) ((Below.refl _ _).alloc (Nat.le_refl _) _)
  have hB0 : Below w.heap.size w ((((w.alloc (.cells #[.string s] 9)).alloc (.cells (madeCells #[.string ⟨#[]⟩] cn) 9)).alloc (.cells #[.slice (some ⟨w.heap.size + 1, 0, none⟩) 0 cn] 35)).alloc (.cells #[.int .i64 (s.size : Int)] 3)) := ((((Below.refl _ w).alloc (Nat.le_refl _) _).alloc (by simp) _).alloc (by simp; omega) _).alloc (by simp; omega) _
  have hsz : ((((w.alloc (.cells #[.string s] 9)).alloc (.cells (madeCells #[.string ⟨#[]⟩] cn) 9)).alloc (.cells #[.slice (some ⟨w.heap.size + 1, 0, none⟩) 0 cn] 35)).alloc (.cells #[.int .i64 (s.size : Int)] 3)).heap.size = w.heap.size + 4 := by simp
  generalize hW0 : ((((w.alloc (.cells #[.string s] 9)).alloc (.cells (madeCells #[.string ⟨#[]⟩] cn) 9)).alloc (.cells #[.slice (some ⟨w.heap.size + 1, 0, none⟩) 0 cn] 35)).alloc (.cells #[.int .i64 (s.size : Int)] 3)) = W0 at bS bN bP hR0 hB0 hsz ⊢
  clear hW0
  refine wpIn_rangeFunc_ownG rfl (by omega) (gf := 38) (lb := #[.pointer (some ⟨w.heap.size + 1 + 1 + 1, 0, none⟩)]) rfl trivial (enters_of Tryd.func38 (by kernel_rfl) rfl)
    (goes_stops Fence.wide (5 - 1) trivial rfl (by omega) (w.heap.size + 1 + 1 + 1) s.size (by omega) W0 (by omega) bP.cell) keepC_t (keepC_b (w := W0)) (Below.refl _ _) (fun _ => rfl)
    (Held s same w) (fun _ _ _ => False)
    (held_own s same w _ (by omega)) (fun _ _ _ _ _ hs _ _ => hs)
    ⟨⟨_, bN, hR0⟩, bS, bP, hB0⟩
    (fun x => { tmps := #[.string s, .pointer (some ⟨w.heap.size, 0, none⟩), .slice none 0 0, .pointer (some ⟨w.heap.size + 1 + 1, 0, none⟩), .int .i64 (16 * (x.1 : Int)), .int .i64 ((upto s.size x.1 : Nat) : Int), .string s, .int .i64 s.size, .int .i64 cn, .slice (some ⟨w.heap.size + 1, 0, none⟩) 0 cn, .string s, .int .i64 s.size, .func (.func 38) #[] #[.pointer (some ⟨w.heap.size + 1 + 1 + 1, 0, none⟩)], .int .i64 (16 * (x.1 : Int)), .int .i64 ((upto s.size x.1 : Nat) : Int), undef, undef, undef, undef, undef, undef, undef, undef, undef], defers := [] }) ?assign ?body ?done ?stop
  case assign =>
    intro l x W K hk
    unfold plEnc
    gi_wp2
    exact hk
  case body =>
    rintro l pre ⟨x, hx⟩ W ⟨⟨v, hv, hrow⟩, hS, hN, hB⟩ hlen
    dsimp only
    obtain ⟨ao, cap, rfl⟩ := trow_form hrow
    have hcs := hS.cell
    have hmx : Tryd.prog.follows .mixedOrders = true := by kernel_rfl
    have hux : upto s.size x ≤ s.size := by unfold upto; omega
    have hxu : 16 * x ≤ upto s.size x := by unfold upto; omega
    have hux' : ((upto s.size x : Nat) : Int) ≤ (s.size : Int) := by omega
    have hxu' : 16 * (x : Int) ≤ ((upto s.size x : Nat) : Int) := by omega
    have hx0 : (0 : Int) ≤ 16 * (x : Int) := by omega
    have hex : s.extract (16 * (x : Int)).toNat (upto s.size x) = lstr (chunkAt s.data.toList x) := by rw [← chunk_text s x hx, show (16 * (x : Int)).toNat = 16 * x from by omega]
    have hsz0 : (s.extract (16 * (x : Int)).toNat (upto s.size x)).size ≤ 281474976710656 := by rw [hex]; show (chunkAt s.data.toList x).toArray.size ≤ _; rw [List.size_toArray]; unfold chunkAt; rw [List.length_take]; omega
    have HN := Lib.hid (clone_any (s.extract (16 * (x : Int)).toNat (upto s.size x)) W.drew hsz0)
    rw [hex] at HN
    have HN : Hid (Calls Tryd.prog 29 #[.string (lstr (chunkAt s.data.toList x))] W.drew fun e w' => e = .returned (.string (lstr (same (chunkAt s.data.toList x)))) ∧ Below W.drew.heap.size W.drew w') := HN
    clear hsz0
    have HE := Lib.hid hex
    have hpl : pre.length ≤ 100000 := by omega
    have hpn : (pre.map fun x => same (chunkAt s.data.toList x.1)).length ≤ 100000 := by rw [List.length_map]; exact hpl
    clear hlen hpl hex
    have hrw := hrow
    unfold Trow at hrw
    generalize hu : upto s.size x = u at hux hxu hux' hxu' HE ⊢
    have hnb := hv.cell
    have hnf := hv.frozen
    have HF := Lib.hid (fun (w1 w5 : World) (g cap5 : Nat) (hw1 : Below W.heap.size W w1) (h5 : w5.ownsRow _ 9 1 _ _ _) (hg : World.grownBy _ w5 _) => held_more (f := same) (g := g) (cap5 := cap5) ⟨x, hx⟩ hS hN hB hv hrow rfl hw1 h5 hg W0.heap.size)
    have HR := Lib.hid (fun (w1 : World) (hw1 : Below W.heap.size W w1) => (trow_below hrow (hw1.alloc hw1.size (.cells #[.string (lstr (same (chunkAt s.data.toList x)))] 9)) : World.ownsRow _ _ 9 1 _ _ _))
    have HCN := Lib.hid (fun (w1 : World) (hw1 : Below W.heap.size W w1) => (boxed_below hv hw1).cell)
    have HCS := Lib.hid (fun (w1 : World) (hw1 : Below W.heap.size W w1) => (boxed_below hS hw1).cell)
    have HSZ := Lib.hid (show w.heap.size + 1 ≤ W.heap.size from by have := hS.lt; omega)
    clear hv hrow hS hN hB hrw
    generalize hls : (pre.map fun x => same (chunkAt s.data.toList x.1)) = ls at hnb hpn HF HR HCN
    obtain ⟨i0, hi0, hz0, hz1, hz2⟩ := info_parts info9c
    have hW : W.drew.heap.size = W.heap.size := rfl
    gi_wp2
    refine region_round (S := fun W' => W'.cell? ⟨w.heap.size, 0, none⟩ = some (.string s)) hmx (by rfl) (fun ⟨_, _, h⟩ => h) hcs (fun hHeld => ?_)
    refine wpAnyH_take (i := 1) (v := .string s) rfl (by kernel_rfl) (by kernel_rfl) (by kernel_rfl) (fun _ _ _ h => h) (Or.inl ⟨by rfl, ?_⟩) (by assumption) ?_
    focus (intro w' hS1; (try dsimp only at hS1); go_simp)
    try simp only [List.getElem_toArray, List.getElem_cons_succ, List.getElem_cons_zero, Act.put, List.setIfInBounds_toArray, List.set_cons_zero, List.set_cons_succ]
    refine wpAnyH_take (i := 2) (v := .int .i64 (16 * (x : Int))) rfl (by kernel_rfl) (by kernel_rfl) (by kernel_rfl) (fun _ _ _ h => h) (Or.inl ⟨by rfl, ?_⟩) (by assumption) ?_
    focus (intro w' hS1; (try dsimp only at hS1); go_simp)
    try simp only [List.getElem_toArray, List.getElem_cons_succ, List.getElem_cons_zero, Act.put, List.setIfInBounds_toArray, List.set_cons_zero, List.set_cons_succ]
    refine wpAnyH_take (i := 3) (v := .int .i64 (u : Int)) rfl (by kernel_rfl) (by kernel_rfl) (by kernel_rfl) (fun _ _ _ h => h) (Or.inl ⟨by rfl, ?_⟩) (by assumption) ?_
    focus (intro w' hS1; (try dsimp only at hS1); go_simp)
    try simp only [List.getElem_toArray, List.getElem_cons_succ, List.getElem_cons_zero, Act.put, List.setIfInBounds_toArray, List.set_cons_zero, List.set_cons_succ]
    refine wpAnyH_take (i := 4) (v := .string (s.extract (16 * (x : Int)).toNat u)) rfl (by kernel_rfl) (by kernel_rfl) (by kernel_rfl) (fun _ _ _ h => h) (Or.inl ⟨by rfl, ?_⟩) (by assumption) ?_
    focus (intro w' hS1; (try dsimp only at hS1); go_simp)
    try simp only [List.getElem_toArray, List.getElem_cons_succ, List.getElem_cons_zero, Act.put, List.setIfInBounds_toArray, List.set_cons_zero, List.set_cons_succ]
    refine wpAnyH_ready (rs := [0, 5]) (by kernel_rfl) (by simp) ?_
    refine (AllReadyH.cons (o := _) rfl (fun K hK => ?_) (AllReadyH.cons (o := _) rfl (fun K hK => ?_) AllReadyH.nil))
    · try simp only [List.getElem_toArray, List.getElem_cons_succ, List.getElem_cons_zero]
      rw [if_pos (by rfl)]
      go_simp
      refine hK.out _ _ hHeld (fun hHeld => ?_)
      clear hK K
      try simp only [List.getElem_toArray, List.getElem_cons_succ, List.getElem_cons_zero, Act.put, List.setIfInBounds_toArray, List.set_cons_zero, List.set_cons_succ]
      refine wpAnyH_ready (rs := [5]) (by kernel_rfl) (by simp) ?_
      refine (AllReadyH.cons (o := _) rfl (fun K hK => ?_) AllReadyH.nil)
      try simp only [List.getElem_toArray, List.getElem_cons_succ, List.getElem_cons_zero]
      rw [if_pos (by rfl)]
      go_simp
      go_at_call 29
      rw [HE.out]
      refine HN.out.mono ?_
      rintro e w1 ⟨rfl, hw1⟩
      have hw1 : Below W.heap.size W w1 := ((Below.refl W.heap.size W).drew).trans hw1
      have hnb1 := HCN.out w1 hw1
      have HS1 := Lib.hid (HCS.out w1 hw1)
      have hal := (Below.refl w1.heap.size w1).alloc (Nat.le_refl _) (.cells #[.string (lstr (same (chunkAt s.data.toList x)))] 9)
      have HS2 := Lib.hid (HCS.out _ (hw1.trans (hal.mono hw1.size)))
      have hnb2 := HCN.out _ (hw1.trans (hal.mono hw1.size))
      have HR2 := Lib.hid (HR.out w1 hw1)
      have HNEW := Lib.hid (heap_alloc_new w1 (.cells #[.string (lstr (same (chunkAt s.data.toList x)))] 9))
      have HB2 := Lib.hid (show w.heap.size + 1 ≤ w1.heap.size from Nat.le_trans HSZ.out hw1.size)
      have HP := Lib.hid (HF.out w1)
      dsimp only
      refine hK.out _ _ HS1.out (fun hHeld => ?_)
      clear hK K
      try simp only [List.getElem_toArray, List.getElem_cons_succ, List.getElem_cons_zero, Act.put, List.setIfInBounds_toArray, List.set_cons_zero, List.set_cons_succ]
      refine wpAnyH_ready (rs := [6]) (by kernel_rfl) (by simp) ?_
      refine (AllReadyH.cons (o := _) rfl (fun K hK => ?_) AllReadyH.nil)
      try simp only [List.getElem_toArray, List.getElem_cons_succ, List.getElem_cons_zero]
      rw [if_pos (by rfl)]
      go_simp
      refine hK.out _ _ HS2.out (fun hHeld => ?_)
      clear hK K
      try simp only [List.getElem_toArray, List.getElem_cons_succ, List.getElem_cons_zero, Act.put, List.setIfInBounds_toArray, List.set_cons_zero, List.set_cons_succ]
      refine wpAnyH_ready (rs := [7]) (by kernel_rfl) (by simp) ?_
      refine (AllReadyH.cons (o := _) rfl (fun K hK => ?_) AllReadyH.nil)
      try simp only [List.getElem_toArray, List.getElem_cons_succ, List.getElem_cons_zero]
      rw [if_pos (by rfl)]
      refine wp_append_lies _ (.tmp 15) (.tmp 21) 35 (by rfl) (w.heap.size + 1) 9 i0 _ 1 16 Tryd.underlying35 hi0 hz0 hz1 hz2 rfl (by omega) (.slice ao ls.length cap) ls.length (ls.map fun l => .string (lstr l)) (by rfl) HR2.out
        ⟨w1.heap.size, 0, none⟩ 1 1 [.string (lstr (same (chunkAt s.data.toList x)))] (by rfl) (by rfl) (World.news_of_block HNEW.out) (by simp [Value.oneCell']) (by omega) (by unfold maxLen; omega) (by omega) (by have := HB2.out; simp; omega) _ rfl ?_
      intro g5 cap5 w5 hown5 hgrow5 hat5 hlt5
      obtain ⟨hS5, hc5, hf5, hfin⟩ := HP.out w5 g5 cap5 hw1 hown5 hgrow5
      have HFIN := Lib.hid hfin
      clear hfin
      refine hK.out _ _ hS5 (fun hHeld => ?_)
      clear hK K
      try simp only [List.getElem_toArray, List.getElem_cons_succ, List.getElem_cons_zero, Act.put, List.setIfInBounds_toArray, List.set_cons_zero, List.set_cons_succ]
      refine wpAnyH_ready (rs := [8]) (by kernel_rfl) (by simp) ?_
      refine (AllReadyH.cons (o := _) rfl (fun K hK => ?_) AllReadyH.nil)
      try simp only [List.getElem_toArray, List.getElem_cons_succ, List.getElem_cons_zero]
      rw [if_pos (by rfl)]
      go_simp
      refine hK.out _ _ HFIN.out.1 (fun hHeld => ?_)
      clear hK K
      try simp only [List.getElem_toArray, List.getElem_cons_succ, List.getElem_cons_zero, Act.put, List.setIfInBounds_toArray, List.set_cons_zero, List.set_cons_succ]
      refine wpAnyH_done (by kernel_rfl) ?_ _
      exact HFIN.out.2
    · try simp only [List.getElem_toArray, List.getElem_cons_succ, List.getElem_cons_zero]
      rw [if_pos (by rfl)]
      go_simp
      go_at_call 29
      rw [HE.out]
      refine HN.out.mono ?_
      rintro e w1 ⟨rfl, hw1⟩
      have hw1 : Below W.heap.size W w1 := ((Below.refl W.heap.size W).drew).trans hw1
      have hnb1 := HCN.out w1 hw1
      have HS1 := Lib.hid (HCS.out w1 hw1)
      have hal := (Below.refl w1.heap.size w1).alloc (Nat.le_refl _) (.cells #[.string (lstr (same (chunkAt s.data.toList x)))] 9)
      have HS2 := Lib.hid (HCS.out _ (hw1.trans (hal.mono hw1.size)))
      have hnb2 := HCN.out _ (hw1.trans (hal.mono hw1.size))
      have HR2 := Lib.hid (HR.out w1 hw1)
      have HNEW := Lib.hid (heap_alloc_new w1 (.cells #[.string (lstr (same (chunkAt s.data.toList x)))] 9))
      have HB2 := Lib.hid (show w.heap.size + 1 ≤ w1.heap.size from Nat.le_trans HSZ.out hw1.size)
      have HP := Lib.hid (HF.out w1)
      dsimp only
      refine hK.out _ _ HS1.out (fun hHeld => ?_)
      clear hK K
      try simp only [List.getElem_toArray, List.getElem_cons_succ, List.getElem_cons_zero, Act.put, List.setIfInBounds_toArray, List.set_cons_zero, List.set_cons_succ]
      refine wpAnyH_ready (rs := [0, 6]) (by kernel_rfl) (by simp) ?_
      refine (AllReadyH.cons (o := _) rfl (fun K hK => ?_) (AllReadyH.cons (o := _) rfl (fun K hK => ?_) AllReadyH.nil))
      · try simp only [List.getElem_toArray, List.getElem_cons_succ, List.getElem_cons_zero]
        rw [if_pos (by rfl)]
        go_simp
        refine hK.out _ _ hHeld (fun hHeld => ?_)
        clear hK K
        try simp only [List.getElem_toArray, List.getElem_cons_succ, List.getElem_cons_zero, Act.put, List.setIfInBounds_toArray, List.set_cons_zero, List.set_cons_succ]
        refine wpAnyH_ready (rs := [6]) (by kernel_rfl) (by simp) ?_
        refine (AllReadyH.cons (o := _) rfl (fun K hK => ?_) AllReadyH.nil)
        try simp only [List.getElem_toArray, List.getElem_cons_succ, List.getElem_cons_zero]
        rw [if_pos (by rfl)]
        go_simp
        refine hK.out _ _ HS2.out (fun hHeld => ?_)
        clear hK K
        try simp only [List.getElem_toArray, List.getElem_cons_succ, List.getElem_cons_zero, Act.put, List.setIfInBounds_toArray, List.set_cons_zero, List.set_cons_succ]
        refine wpAnyH_ready (rs := [7]) (by kernel_rfl) (by simp) ?_
        refine (AllReadyH.cons (o := _) rfl (fun K hK => ?_) AllReadyH.nil)
        try simp only [List.getElem_toArray, List.getElem_cons_succ, List.getElem_cons_zero]
        rw [if_pos (by rfl)]
        refine wp_append_lies _ (.tmp 15) (.tmp 21) 35 (by rfl) (w.heap.size + 1) 9 i0 _ 1 16 Tryd.underlying35 hi0 hz0 hz1 hz2 rfl (by omega) (.slice ao ls.length cap) ls.length (ls.map fun l => .string (lstr l)) (by rfl) HR2.out
          ⟨w1.heap.size, 0, none⟩ 1 1 [.string (lstr (same (chunkAt s.data.toList x)))] (by rfl) (by rfl) (World.news_of_block HNEW.out) (by simp [Value.oneCell']) (by omega) (by unfold maxLen; omega) (by omega) (by have := HB2.out; simp; omega) _ rfl ?_
        intro g5 cap5 w5 hown5 hgrow5 hat5 hlt5
        obtain ⟨hS5, hc5, hf5, hfin⟩ := HP.out w5 g5 cap5 hw1 hown5 hgrow5
        have HFIN := Lib.hid hfin
        clear hfin
        refine hK.out _ _ hS5 (fun hHeld => ?_)
        clear hK K
        try simp only [List.getElem_toArray, List.getElem_cons_succ, List.getElem_cons_zero, Act.put, List.setIfInBounds_toArray, List.set_cons_zero, List.set_cons_succ]
        refine wpAnyH_ready (rs := [8]) (by kernel_rfl) (by simp) ?_
        refine (AllReadyH.cons (o := _) rfl (fun K hK => ?_) AllReadyH.nil)
        try simp only [List.getElem_toArray, List.getElem_cons_succ, List.getElem_cons_zero]
        rw [if_pos (by rfl)]
        go_simp
        refine hK.out _ _ HFIN.out.1 (fun hHeld => ?_)
        clear hK K
        try simp only [List.getElem_toArray, List.getElem_cons_succ, List.getElem_cons_zero, Act.put, List.setIfInBounds_toArray, List.set_cons_zero, List.set_cons_succ]
        refine wpAnyH_done (by kernel_rfl) ?_ _
        exact HFIN.out.2
      · try simp only [List.getElem_toArray, List.getElem_cons_succ, List.getElem_cons_zero]
        rw [if_pos (by rfl)]
        go_simp
        refine hK.out _ _ HS2.out (fun hHeld => ?_)
        clear hK K
        try simp only [List.getElem_toArray, List.getElem_cons_succ, List.getElem_cons_zero, Act.put, List.setIfInBounds_toArray, List.set_cons_zero, List.set_cons_succ]
        refine wpAnyH_ready (rs := [0]) (by kernel_rfl) (by simp) ?_
        refine (AllReadyH.cons (o := _) rfl (fun K hK => ?_) AllReadyH.nil)
        try simp only [List.getElem_toArray, List.getElem_cons_succ, List.getElem_cons_zero]
        rw [if_pos (by rfl)]
        go_simp
        refine hK.out _ _ hHeld (fun hHeld => ?_)
        clear hK K
        try simp only [List.getElem_toArray, List.getElem_cons_succ, List.getElem_cons_zero, Act.put, List.setIfInBounds_toArray, List.set_cons_zero, List.set_cons_succ]
        refine wpAnyH_ready (rs := [7]) (by kernel_rfl) (by simp) ?_
        refine (AllReadyH.cons (o := _) rfl (fun K hK => ?_) AllReadyH.nil)
        try simp only [List.getElem_toArray, List.getElem_cons_succ, List.getElem_cons_zero]
        rw [if_pos (by rfl)]
        refine wp_append_lies _ (.tmp 15) (.tmp 21) 35 (by rfl) (w.heap.size + 1) 9 i0 _ 1 16 Tryd.underlying35 hi0 hz0 hz1 hz2 rfl (by omega) (.slice ao ls.length cap) ls.length (ls.map fun l => .string (lstr l)) (by rfl) HR2.out
          ⟨w1.heap.size, 0, none⟩ 1 1 [.string (lstr (same (chunkAt s.data.toList x)))] (by rfl) (by rfl) (World.news_of_block HNEW.out) (by simp [Value.oneCell']) (by omega) (by unfold maxLen; omega) (by omega) (by have := HB2.out; simp; omega) _ rfl ?_
        intro g5 cap5 w5 hown5 hgrow5 hat5 hlt5
        obtain ⟨hS5, hc5, hf5, hfin⟩ := HP.out w5 g5 cap5 hw1 hown5 hgrow5
        have HFIN := Lib.hid hfin
        clear hfin
        refine hK.out _ _ hS5 (fun hHeld => ?_)
        clear hK K
        try simp only [List.getElem_toArray, List.getElem_cons_succ, List.getElem_cons_zero, Act.put, List.setIfInBounds_toArray, List.set_cons_zero, List.set_cons_succ]
        refine wpAnyH_ready (rs := [8]) (by kernel_rfl) (by simp) ?_
        refine (AllReadyH.cons (o := _) rfl (fun K hK => ?_) AllReadyH.nil)
        try simp only [List.getElem_toArray, List.getElem_cons_succ, List.getElem_cons_zero]
        rw [if_pos (by rfl)]
        go_simp
        refine hK.out _ _ HFIN.out.1 (fun hHeld => ?_)
        clear hK K
        try simp only [List.getElem_toArray, List.getElem_cons_succ, List.getElem_cons_zero, Act.put, List.setIfInBounds_toArray, List.set_cons_zero, List.set_cons_succ]
        refine wpAnyH_done (by kernel_rfl) ?_ _
        exact HFIN.out.2
  case done =>
    rintro D ys W hD hys ⟨⟨v, hv, hrow⟩, hS, hN, hB⟩ hk
    have hc := hv.cell
    gi_wp2
    refine ⟨by simp, .inl ⟨_, _, rfl, run_takeDeferred hk, ?_⟩⟩
    refine ⟨_, results_tmp rfl _ _ _, ?_⟩
    have hl := goesAll_map hys (fun k => same (chunkAt s.data.toList k))
    have hcut := cut_range s.data.toList
    rw [show s.data.toList.length = s.size from Array.length_toList] at hcut
    rw [hl, show (List.range ((s.size + 15) / 16)).map (fun k => same (chunkAt s.data.toList k)) = Chk.cut s.data.toList from by rw [hcut]; rfl] at hrow
    obtain ⟨ao, cap, rfl⟩ := trow_form hrow
    exact ⟨ao, cap, rfl, ownsRow_putObj (trow_base hrow (by omega)) _ hk rfl, hB.trans (belowK_b (w := w) (Nat.le_refl _) W D _ _ (by omega) hk rfl rfl)⟩
  case stop =>
    rintro D c pre W _ _ h _
    exact h.elim
end Go.Proofs.YtnapjloapgfcfaaDoor
