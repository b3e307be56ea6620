/- Layer 11, a part of the proofs: no statement of its own. -/
import Derived.LaidEqlPtr
import Derived.StillTailTactics
import Derived.Test.YthehblmjloohiaaGreatDoorM03
namespace Go.Proofs.YthehblmjloohiaaGreatDoor.T8
set_option maxRecDepth 100000
open Go.RowKit Go.Less Sha
def samep (a b : Option Nat) : Bool := decide (a = b)
theorem samep_eq {a b : Option Nat} : samep a b = true ↔ a = b := by unfold samep; exact decide_eq_true_iff
theorem eqGuard_pv (t : TypeId) (x y : Operand) (a b : Option Nat) : eqGuard .eql t x y (pv a) (pv b) = pure () := rfl
attribute [local go_sem 9000] eqGuard_pv
theorem info56 : (Tryz.prog.info? 151).map (fun i => i.size) = some 7 := by kernel_rfl
theorem eql_tree {w : World} {a b : Option Nat} {t u : Tt} (ha : Tree w a t) (hb : Tree w b u) : (binOp .eql 124 (pv a) (pv b)).run Tryz.prog w = .ok (.bool (samep a b)) w := by
 obtain ⟨j, hj, hz⟩ : ∃ j, Tryz.prog.info? 151 = some j ∧ j.size = 7 := by
  have := info56
  cases h : Tryz.prog.info? 151 with
  | none => rw [h] at this; cases this
  | some j => rw [h] at this; exact ⟨j, rfl, by injection this⟩
 have hu : Tryz.prog.underlying 124 = some (.pointer 151) := Tryz.underlying124
 cases a with
 | none =>
  cases b with
  | none => exact run_eql_pointer_nil w 124 none (by kernel_rfl)
  | some y =>
   show (binOp .eql 124 (.pointer none) (.pointer (some ⟨y, 0, none⟩))).run Tryz.prog w = _
   have h : ∀ d : Nat, (Op.equalIn (d + 1) 124 (.pointer none) (.pointer (some ⟨y, 0, none⟩))).run Tryz.prog w = .ok false w := fun d => by
    simp [Op.equalIn, run_underlying hu]
   simp only [binOp]
   simp [Op.equal, Op.maxDepth, h 9999]
   rfl
 | some x =>
  cases b with
  | none => exact run_eql_pointer_nil w 124 (some ⟨x, 0, none⟩) (by kernel_rfl)
  | some y =>
   show (binOp .eql 124 (.pointer (some ⟨x, 0, none⟩)) (.pointer (some ⟨y, 0, none⟩))).run Tryz.prog w = _
   by_cases e : x = y
   ·subst e
    rw [run_eql_ptr_same w _ hu hj, samep_eq.2 rfl]
   ·obtain ⟨_, _, _, _, _, _, _, hA⟩ := tree_some ha
    obtain ⟨_, _, _, _, _, _, _, hB⟩ := tree_some hb
    rw [run_eql_ptr_other w hu hj (by rw [hz]; decide) (fun h => e (by injection h)) hA.obj hB.obj]
    rw [show samep (some x) (some y) = false from by unfold samep; simp [e]]
structure Giv (b : Nat) (l0 : Tt) (k v : ByteArray) (r0 : Tt) (pl0 pr0 pl pr : Option Nat) (l r : Tt) (W : World) : Prop where
 node : Node W b l0 k v r0 pl0 pr0
 left : Tree W pl l
 right : Tree W pr r
 dg : Dg W
section
variable {w : World} {b : Nat} {l0 : Tt} {k v : ByteArray} {r0 : Tt} {pl0 pr0 pl pr : Option Nat} {l r : Tt} {W : World}
theorem Giv.kept (h : Giv b l0 k v r0 pl0 pr0 pl pr l r w) (hb : Below w.heap.size w W) : Giv b l0 k v r0 pl0 pr0 pl pr l r W := ⟨h.node.below hb, h.left.below hb, h.right.below hb, h.dg.below hb⟩
theorem Giv.all (h : Giv b l0 k v r0 pl0 pr0 pl pr l r w) (hb : Below w.heap.size w W) : W.cell? ⟨b, 0, none⟩ = some (.string k) ∧ W.cell? ⟨b, 1, none⟩ = some (.string (rk k)) ∧ W.cell? ⟨b, 2, none⟩ = some (.string v) ∧ W.cell? ⟨b, 3, none⟩ = some (.string (nm (.node l0 k v r0))) ∧ W.cell? ⟨b, 4, none⟩ = some (.int .i64 ((Tr.T.len (.node l0 k v r0) : Nat) : Int)) ∧ Below w.heap.size w W :=
 ⟨(h.kept hb).node.c0, (h.kept hb).node.c1, (h.kept hb).node.c2, (h.kept hb).node.c3, (h.kept hb).node.c4, hb⟩
end
theorem getb {A B C D E F : Prop} (h : A ∧ B ∧ C ∧ D ∧ E ∧ F) : F := h.2.2.2.2.2
theorem btrans {w W W' : World} (hb : Below W.heap.size W W') (h : Below w.heap.size w W) : Below w.heap.size w W' := h.trans (hb.mono h.size)
theorem balloc {w W : World} (o : Obj) (h : Below w.heap.size w W) : Below w.heap.size w (W.alloc o) := h.alloc h.size o
abbrev z51 : Array Value := #[.string ⟨#[]⟩, .string ⟨#[]⟩, .int .i64 0]
structure Zed (w : World) (g : Nat) (W : World) : Prop where
 new : w.heap.size ≤ g
 obj : W.heap[g]? = some (.cells z51 122 (0, 0))
theorem zed_new {w wx W : World} (hb : Below (wx.alloc (.cells z51 122)).heap.size (wx.alloc (.cells z51 122)) W) (h : Below w.heap.size w wx) : Zed w wx.heap.size W :=
 ⟨h.size, (hb.block _ (by simp)).trans (heap_alloc_new wx _)⟩
theorem zed_newd {w wx W : World} (hb : Below (wx.alloc (.cells z51 122)).drew.heap.size (wx.alloc (.cells z51 122)).drew W) (h : Below w.heap.size w wx) : Zed w wx.heap.size W :=
 ⟨h.size, (hb.block wx.heap.size (by rw [heap_drew]; simp)).trans ((congrArg (·[wx.heap.size]?) (heap_drew _)).trans (heap_alloc_new wx _))⟩
theorem zed_old {w wx W : World} {g : Nat} (hb : Below wx.heap.size wx W) (h : Zed w g wx) : Zed w g W := ⟨h.new, (hb.block _ (lt_of_obj h.obj)).trans h.obj⟩
theorem Zed.facts {w : World} {g : Nat} {W : World} (h : Zed w g W) : w.heap.size ≤ g ∧ W.cell? ⟨g, 0, none⟩ = some (.string ⟨#[]⟩) ∧ W.cell? ⟨g, 1, none⟩ = some (.string ⟨#[]⟩) ∧ W.cell? ⟨g, 2, none⟩ = some (.int .i64 0) ∧ W.frozen? ⟨g, 0, none⟩ = false ∧ W.frozen? ⟨g, 1, none⟩ = false ∧ W.frozen? ⟨g, 2, none⟩ = false := by
 refine ⟨h.new, ?_, ?_, ?_, ?_, ?_, ?_⟩ <;> simp [World.cell?, World.frozen?, h.obj]
theorem bset {w W : World} {g : Nat} (hg : w.heap.size ≤ g) (x y z : Value) (h : Below w.heap.size w W) : Below w.heap.size w (((W.setCell ⟨g, 0, none⟩ x).setCell ⟨g, 1, none⟩ y).setCell ⟨g, 2, none⟩ z) :=
 ((h.setCell hg x).setCell hg y).setCell hg z
def Grown (t : Tt) (w : World) (e : Ending) (w' : World) : Prop := ∃ b, e = .returned (.pointer (some ⟨b, 0, none⟩)) ∧ Tree w' (some b) t ∧ Below w.heap.size w w'
theorem method_above (a b : ByteArray) (n : Int) (w : World) : (method 403 122 (.agg #[.string a, .string b, .int .i64 n]) "snapferry/treap.above").run Tryz.prog w = .ok (263, .agg #[.string a, .string b, .int .i64 n]) w := by kernel_rfl
theorem above_lit (v n0 : ByteArray) (c0 : Int) (k : ByteArray) (l r : Tt) (w : World) (hD : Dg w) (hk : k.size ≤ 100) (hv : v.size ≤ 10000) (hl : l.len ≤ 1000000) (hr : r.len ≤ 1000000) :
  Calls Tryz.prog 263 #[.agg #[.string v, .string n0, .int .i64 c0], .string k, ld l, ld r] w fun e w' => e = .returned (.agg #[.string v, .string (nm (.node l k v r)), .int .i64 ((Tr.T.len (.node l k v r) : Nat) : Int)]) ∧ Below w.heap.size w w' := above_any v n0 c0 k l r w hD hk hv hl hr
structure Late (w : World) (b : Nat) (k v n : ByteArray) (c : Int) (g : Nat) (W : World) : Prop where
 bel : Below w.heap.size w W
 c0 : W.cell? ⟨b, 0, none⟩ = some (.string k)
 c1 : W.cell? ⟨b, 1, none⟩ = some (.string (rk k))
 d0 : W.cell? ⟨g, 0, none⟩ = some (.string v)
 d1 : W.cell? ⟨g, 1, none⟩ = some (.string n)
 d2 : W.cell? ⟨g, 2, none⟩ = some (.int .i64 c)
section
variable {w : World} {b : Nat} {l0 : Tt} {k v : ByteArray} {r0 : Tt} {pl0 pr0 pl pr : Option Nat} {l r : Tt} {W : World} {n : ByteArray} {c : Int}
theorem late_new (h : Giv b l0 k v r0 pl0 pr0 pl pr l r w) (hb : Below w.heap.size w W) : Late w b k v n c W.heap.size (W.alloc (.cells #[.string v, .string n, .int .i64 c] 122)) :=
 ⟨balloc _ hb, (h.kept (balloc _ hb)).node.c0, (h.kept (balloc _ hb)).node.c1, cell_alloc _ _ _ 0, cell_alloc _ _ _ 1, cell_alloc _ _ _ 2⟩
theorem late_set {g : Nat} (h : Giv b l0 k v r0 pl0 pr0 pl pr l r w) (hz : Zed w g W) (hb : Below w.heap.size w W) : Late w b k v n c g (((W.setCell ⟨g, 0, none⟩ (.string v)).setCell ⟨g, 1, none⟩ (.string n)).setCell ⟨g, 2, none⟩ (.int .i64 c)) := by
 have hb' := bset hz.new (.string v) (.string n) (.int .i64 c) hb
 obtain ⟨_, z0, z1, z2, _⟩ := hz.facts
 exact ⟨hb', (h.kept hb').node.c0, (h.kept hb').node.c1, by go_simp, by go_simp, by go_simp⟩
end
theorem late_use {w : World} {b : Nat} {k v n : ByteArray} {c : Int} {g : Nat} {W : World} {P : Program} {C : Code} {Q : Exit → Act → World → Prop} {a : Act} (h : Late w b k v n c g W) (hp : ∀ w5, Late w b k v n c g w5 → C.wp P Q a w5) : C.wp P Q a W := hp W h
theorem grown_new {w W : World} {b : Nat} {l0 : Tt} {k v : ByteArray} {r0 : Tt} {pl0 pr0 pl pr : Option Nat} {l r : Tt} (h : Giv b l0 k v r0 pl0 pr0 pl pr l r w) (hk : k.size ≤ 100) (hv : v.size ≤ 10000) (hb : Below w.heap.size w W) :
  Grown (.node l k v r) w (.returned (.pointer (some ⟨W.heap.size, 0, none⟩))) (W.alloc (.cells #[.string k, .string (rk k), .string v, .string (nm (.node l k v r)), .int .i64 ((Tr.T.len (.node l k v r) : Nat) : Int), pv pl, pv pr] 151)).drew :=
 have h1 := (balloc (.cells #[.string k, .string (rk k), .string v, .string (nm (.node l k v r)), .int .i64 ((Tr.T.len (.node l k v r) : Nat) : Int), pv pl, pv pr] 151) hb).drew
 ⟨W.heap.size, rfl, ⟨W.heap.size, pl, pr, rfl, (congrArg (·[W.heap.size]?) (heap_drew _)).trans (heap_alloc_new W _), hk, hv, h.left.below h1, h.right.below h1⟩, h1⟩
set_option maxHeartbeats 2000000 in
theorem grow_any {w : World} {b : Nat} {l0 : Tt} {k v : ByteArray} {r0 : Tt} {pl0 pr0 pl pr : Option Nat} {l r : Tt} (h : Giv b l0 k v r0 pl0 pr0 pl pr l r w) (hl : l.len ≤ 1000000) (hr : r.len ≤ 1000000) :
  Calls Tryz.prog 115 #[.pointer (some ⟨b, 0, none⟩), pv pl, pv pr] w (Grown (.node l k v r) w) := by
 have HG := Lib.hid h
 have HN := Lib.hid h.node
 have c5 := h.node.c5
 have c6 := h.node.c6
 have e5 := eql_tree h.left h.node.left
 have e6 := eql_tree h.right h.node.right
 by_cases hs : samep pl pl0 = true ∧ samep pr pr0 = true
 ·obtain ⟨h1, h2⟩ := hs
  obtain rfl := samep_eq.1 h1
  obtain rfl := samep_eq.1 h2
  obtain rfl := h.left.inj h.node.left
  obtain rfl := h.right.inj h.node.right
  clear h
  go_enter Tryz.func115, Tryz.ntmps115
  go_wp2_with fail
  go_ret
  exact ⟨b, rfl, HG.out.node.tree, Below.refl _ _⟩
 ·have c0 := h.node.c0
  have c1 := h.node.c1
  have c2 := h.node.c2
  have c3 := h.node.c3
  have c4 := h.node.c4
  have HR : samep pl pl0 = false ∨ (samep pl pl0 = true ∧ samep pr pr0 = false) := by
   cases x : samep pl pl0
   ·exact .inl rfl
   ·cases y : samep pr pr0
    ·exact .inr ⟨rfl, rfl⟩
    ·exact absurd ⟨x, y⟩ hs
  have hgd := (Below.refl w.heap.size w).drew
  clear h hs
  have hz := zero51
  have hm := method_above
  go_enter Tryz.func115, Tryz.ntmps115
  rcases HR with h1 | ⟨h1, h2⟩
  ·go_wp2_with fail
   go_region_held3 (fun W => W.cell? ⟨b, 0, none⟩ = some (.string k) ∧ W.cell? ⟨b, 1, none⟩ = some (.string (rk k)) ∧ W.cell? ⟨b, 2, none⟩ = some (.string v) ∧ W.cell? ⟨b, 3, none⟩ = some (.string (nm (.node l0 k v r0))) ∧ W.cell? ⟨b, 4, none⟩ = some (.int .i64 ((Tr.T.len (.node l0 k v r0) : Nat) : Int)) ∧ Below w.heap.size w W)
    (first | exact Giv.all HG.out (by assumption) | exact Giv.all HG.out (balloc _ (by assumption)) | exact Giv.all HG.out (balloc _ (getb (by assumption))) | exact Giv.all HG.out (bset hzg _ _ _ (by assumption)))
    (first
    | (go_at_call 67; (with_reducible refine (loadOf_any (Giv.left (HG.out.kept (getb (by assumption))))).mono ?_); rintro e w1 ⟨rfl, hw1⟩; have hb1 := btrans hw1 (getb (by assumption)); (first | (have zed := zed_newd hw1 (Below.refl _ _); obtain ⟨hzg, zc0, zc1, zc2, zf0, zf1, zf2⟩ := zed.facts) | (have zed := zed_new hw1 (by assumption); obtain ⟨hzg, zc0, zc1, zc2, zf0, zf1, zf2⟩ := zed.facts) | (have zed := zed_old hw1 (by assumption); obtain ⟨hzg, zc0, zc1, zc2, zf0, zf1, zf2⟩ := zed.facts) | skip))
    | (go_at_call 67; (with_reducible refine (loadOf_any (Giv.right (HG.out.kept (getb (by assumption))))).mono ?_); rintro e w1 ⟨rfl, hw1⟩; have hb1 := btrans hw1 (getb (by assumption)); (first | (have zed := zed_newd hw1 (Below.refl _ _); obtain ⟨hzg, zc0, zc1, zc2, zf0, zf1, zf2⟩ := zed.facts) | (have zed := zed_new hw1 (by assumption); obtain ⟨hzg, zc0, zc1, zc2, zf0, zf1, zf2⟩ := zed.facts) | (have zed := zed_old hw1 (by assumption); obtain ⟨hzg, zc0, zc1, zc2, zf0, zf1, zf2⟩ := zed.facts) | skip))
    | (go_at_call 263; (with_reducible refine (above_lit v _ _ k l r _ (Giv.dg (HG.out.kept (getb (by assumption)))) HN.out.key HN.out.val hl hr).mono ?_); rintro e w3 ⟨rfl, hw3⟩; have hb3 := btrans hw3 (getb (by assumption)); (first | (have zed := zed_newd hw3 (Below.refl _ _); obtain ⟨hzg, zc0, zc1, zc2, zf0, zf1, zf2⟩ := zed.facts) | (have zed := zed_new hw3 (by assumption); obtain ⟨hzg, zc0, zc1, zc2, zf0, zf1, zf2⟩ := zed.facts) | (have zed := zed_old hw3 (by assumption); obtain ⟨hzg, zc0, zc1, zc2, zf0, zf1, zf2⟩ := zed.facts) | skip)))
   all_goals go_wp2_with fail
   all_goals (first | refine late_use (late_new (n := nm (.node l k v r)) (c := ((Tr.T.len (.node l k v r) : Nat) : Int)) HG.out (by assumption)) ?_ | refine late_use (late_set (n := nm (.node l k v r)) (c := ((Tr.T.len (.node l k v r) : Nat) : Int)) HG.out (by assumption) (by assumption)) ?_)
   all_goals
    intro w5 hL
    have d0 := hL.c0
    have d1 := hL.c1
    have d2 := hL.d0
    have d3 := hL.d1
    have d4 := hL.d2
    have HL := Lib.hid hL.bel
    clear hL
    go_still_tail 12, (by kernel_rfl)
    go_wp2_with fail
    go_ret
    exact grown_new HG.out HN.out.key HN.out.val HL.out
  ·go_wp2_with fail
   go_region_held3 (fun W => W.cell? ⟨b, 0, none⟩ = some (.string k) ∧ W.cell? ⟨b, 1, none⟩ = some (.string (rk k)) ∧ W.cell? ⟨b, 2, none⟩ = some (.string v) ∧ W.cell? ⟨b, 3, none⟩ = some (.string (nm (.node l0 k v r0))) ∧ W.cell? ⟨b, 4, none⟩ = some (.int .i64 ((Tr.T.len (.node l0 k v r0) : Nat) : Int)) ∧ Below w.heap.size w W)
    (first | exact Giv.all HG.out (by assumption) | exact Giv.all HG.out (balloc _ (by assumption)) | exact Giv.all HG.out (balloc _ (getb (by assumption))) | exact Giv.all HG.out (bset hzg _ _ _ (by assumption)))
    (first
    | (go_at_call 67; (with_reducible refine (loadOf_any (Giv.left (HG.out.kept (getb (by assumption))))).mono ?_); rintro e w1 ⟨rfl, hw1⟩; have hb1 := btrans hw1 (getb (by assumption)); (first | (have zed := zed_newd hw1 (Below.refl _ _); obtain ⟨hzg, zc0, zc1, zc2, zf0, zf1, zf2⟩ := zed.facts) | (have zed := zed_new hw1 (by assumption); obtain ⟨hzg, zc0, zc1, zc2, zf0, zf1, zf2⟩ := zed.facts) | (have zed := zed_old hw1 (by assumption); obtain ⟨hzg, zc0, zc1, zc2, zf0, zf1, zf2⟩ := zed.facts) | skip))
    | (go_at_call 67; (with_reducible refine (loadOf_any (Giv.right (HG.out.kept (getb (by assumption))))).mono ?_); rintro e w1 ⟨rfl, hw1⟩; have hb1 := btrans hw1 (getb (by assumption)); (first | (have zed := zed_newd hw1 (Below.refl _ _); obtain ⟨hzg, zc0, zc1, zc2, zf0, zf1, zf2⟩ := zed.facts) | (have zed := zed_new hw1 (by assumption); obtain ⟨hzg, zc0, zc1, zc2, zf0, zf1, zf2⟩ := zed.facts) | (have zed := zed_old hw1 (by assumption); obtain ⟨hzg, zc0, zc1, zc2, zf0, zf1, zf2⟩ := zed.facts) | skip))
    | (go_at_call 263; (with_reducible refine (above_lit v _ _ k l r _ (Giv.dg (HG.out.kept (getb (by assumption)))) HN.out.key HN.out.val hl hr).mono ?_); rintro e w3 ⟨rfl, hw3⟩; have hb3 := btrans hw3 (getb (by assumption)); (first | (have zed := zed_newd hw3 (Below.refl _ _); obtain ⟨hzg, zc0, zc1, zc2, zf0, zf1, zf2⟩ := zed.facts) | (have zed := zed_new hw3 (by assumption); obtain ⟨hzg, zc0, zc1, zc2, zf0, zf1, zf2⟩ := zed.facts) | (have zed := zed_old hw3 (by assumption); obtain ⟨hzg, zc0, zc1, zc2, zf0, zf1, zf2⟩ := zed.facts) | skip)))
   all_goals go_wp2_with fail
   all_goals (first | refine late_use (late_new (n := nm (.node l k v r)) (c := ((Tr.T.len (.node l k v r) : Nat) : Int)) HG.out (by assumption)) ?_ | refine late_use (late_set (n := nm (.node l k v r)) (c := ((Tr.T.len (.node l k v r) : Nat) : Int)) HG.out (by assumption) (by assumption)) ?_)
   all_goals
    intro w5 hL
    have d0 := hL.c0
    have d1 := hL.c1
    have d2 := hL.d0
    have d3 := hL.d1
    have d4 := hL.d2
    have HL := Lib.hid hL.bel
    clear hL
    go_still_tail 12, (by kernel_rfl)
    go_wp2_with fail
    go_ret
    exact grown_new HG.out HN.out.key HN.out.val HL.out
end Go.Proofs.YthehblmjloohiaaGreatDoor.T8
