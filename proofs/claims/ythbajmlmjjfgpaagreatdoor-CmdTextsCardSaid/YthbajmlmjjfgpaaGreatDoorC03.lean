/- A part of the proofs. -/
import Derived.LaidEqlPtr
import Derived.Shelf.LaysM
import Derived.Shelf.Strconv.Clone
import Derived.Test.YthbajmlmjjfgpaaGreatDoorC02
set_option maxRecDepth 1000000
set_option maxHeartbeats 16000000
open Go.Lib (hid)
open Go.Proofs.Tryz
namespace Go.Proofs.YthbajmlmjjfgpaaGreatDoor.T8
open Go.RowKit Go.Less Sha
def samep (a b : Option Nat) : Bool := decide (a = b)
theorem samep_eq {a b : Option Nat} : samep a b = true ↔ a = b := by unfold samep; exact decide_eq_true_iff
theorem eqGuard_pv (t : TypeId) (x y : Operand) (a b : Option Nat) : eqGuard .eql t x y (pv a) (pv b) = pure () := rfl
attribute [local go_sem 9000] eqGuard_pv
theorem info56 : (prog.info? 156).map (λi => i.size) = some 7 := by kernel_rfl
theorem eql_tree {w : World} {a b : Option Nat} {t u : Tt} (ha : Tree w a t) (hb : Tree w b u) : (binOp .eql 114 (pv a) (pv b)).run prog w = .ok (.bool (samep a b)) w := by
 obtain ⟨j, hj, hz⟩ : ∃ j, prog.info? 156 = some j /\ j.size = 7 := by
  have := info56
  cases h : prog.info? 156 with
  | none => rw [h] at this; cases this
  | some j => rw [h] at this; exact ⟨j, rfl, by injection this⟩
 have hu : prog.underlying 114 = some (.pointer 156) := underlying114
 cases a with
 | none =>
  cases b with
  | none => exact run_eql_pointer_nil w 114 none (by kernel_rfl)
  | some y =>
   show (binOp .eql 114 (.pointer none) (.pointer (some ⟨y, 0, none⟩))).run prog w = _
   have h : ∀ d : Nat, (Op.equalIn (d + 1) 114 (.pointer none) (.pointer (some ⟨y, 0, none⟩))).run prog w = .ok false w := λd => by
    simp [Op.equalIn, run_underlying hu]
   simp only [binOp]
   simp [Op.equal, Op.maxDepth, h 9999]
   rfl
 | some x =>
  cases b with
  | none => exact run_eql_pointer_nil w 114 (some ⟨x, 0, none⟩) (by kernel_rfl)
  | some y =>
   show (binOp .eql 114 (.pointer (some ⟨x, 0, none⟩)) (.pointer (some ⟨y, 0, none⟩))).run prog w = _
   by_cases e : x = y
   ·subst e
    rw [run_eql_ptr_same w _ hu hj, samep_eq.2 rfl]
   ·obtain ⟨_, _, _, _, _, _, _, hA⟩ := tree_some ha
    obtain ⟨_, _, _, _, _, _, _, hB⟩ := tree_some hb
    rw [run_eql_ptr_other w hu hj (by rw [hz]; decide) (λh => e (by injection h)) hA.obj hB.obj]
    rw [show samep (some x) (some y) = false from by unfold samep; simp [e]]
structure Giv (b : Nat) (l0 : Tt) (k v : ByteArray) (r0 : Tt) (pl0 pr0 pl pr : Option Nat) (l r : Tt) (W : World) : Prop where
 node : Node W b l0 k v r0 pl0 pr0
 left : Tree W pl l
 right : Tree W pr r
 dg : Dg W
section
variable {w : World} {b : Nat} {l0 : Tt} {k v : ByteArray} {r0 : Tt} {pl0 pr0 pl pr : Option Nat} {l r : Tt} {W : World}
theorem Giv.kept (h : Giv b l0 k v r0 pl0 pr0 pl pr l r w) (hb : Below w.heap.size w W) : Giv b l0 k v r0 pl0 pr0 pl pr l r W := ⟨h.node.below hb, h.left.below hb, h.right.below hb, h.dg.below hb⟩
theorem Giv.all (h : Giv b l0 k v r0 pl0 pr0 pl pr l r w) (hb : Below w.heap.size w W) : W.cell? ⟨b, 0, none⟩ = some (.string k) /\ W.cell? ⟨b, 1, none⟩ = some (.string (rk k)) /\ W.cell? ⟨b, 2, none⟩ = some (.string v) /\ W.cell? ⟨b, 3, none⟩ = some (.string (nm (.node l0 k v r0))) /\ W.cell? ⟨b, 4, none⟩ = some (.int .i64 ((Tr.T.len (.node l0 k v r0) : Nat) : Int)) /\ Below w.heap.size w W :=
 ⟨(h.kept hb).node.c0, (h.kept hb).node.c1, (h.kept hb).node.c2, (h.kept hb).node.c3, (h.kept hb).node.c4, hb⟩
end
theorem getb {A B C D E F : Prop} (h : A /\ B /\ C /\ D /\ E /\ F) : F := h.2.2.2.2.2
theorem btrans {w W W' : World} (hb : Below W.heap.size W W') (h : Below w.heap.size w W) : Below w.heap.size w W' := h.trans (hb.mono h.size)
theorem balloc {w W : World} (o : Obj) (h : Below w.heap.size w W) : Below w.heap.size w (W.alloc o) := h.alloc h.size o
abbrev z51 : Array Value := #[.string ⟨#[]⟩, .string ⟨#[]⟩, .int .i64 0]
structure Zed (w : World) (g : Nat) (W : World) : Prop where
 new : w.heap.size <= g
 obj : W.heap[g]? = some (.cells z51 112 (0, 0))
theorem zed_new {w wx W : World} (hb : Below (wx.alloc (.cells z51 112)).heap.size (wx.alloc (.cells z51 112)) W) (h : Below w.heap.size w wx) : Zed w wx.heap.size W :=
 ⟨h.size, (hb.block _ (by simp)).trans (heap_alloc_new wx _)⟩
theorem zed_newd {w wx W : World} (hb : Below (wx.alloc (.cells z51 112)).drew.heap.size (wx.alloc (.cells z51 112)).drew W) (h : Below w.heap.size w wx) : Zed w wx.heap.size W :=
 ⟨h.size, (hb.block wx.heap.size (by rw [heap_drew]; simp)).trans ((congrArg (·[wx.heap.size]?) (heap_drew _)).trans (heap_alloc_new wx _))⟩
theorem zed_old {w wx W : World} {g : Nat} (hb : Below wx.heap.size wx W) (h : Zed w g wx) : Zed w g W := ⟨h.new, (hb.block _ (lt_of_obj h.obj)).trans h.obj⟩
theorem Zed.facts {w : World} {g : Nat} {W : World} (h : Zed w g W) : w.heap.size <= g /\ W.cell? ⟨g, 0, none⟩ = some (.string ⟨#[]⟩) /\ W.cell? ⟨g, 1, none⟩ = some (.string ⟨#[]⟩) /\ W.cell? ⟨g, 2, none⟩ = some (.int .i64 0) /\ W.frozen? ⟨g, 0, none⟩ = false /\ W.frozen? ⟨g, 1, none⟩ = false /\ W.frozen? ⟨g, 2, none⟩ = false := by
 refine ⟨h.new, ?_, ?_, ?_, ?_, ?_, ?_⟩ <;> simp [World.cell?, World.frozen?, h.obj]
theorem bset {w W : World} {g : Nat} (hg : w.heap.size <= g) (x y z : Value) (h : Below w.heap.size w W) : Below w.heap.size w (((W.setCell ⟨g, 0, none⟩ x).setCell ⟨g, 1, none⟩ y).setCell ⟨g, 2, none⟩ z) :=
 ((h.setCell hg x).setCell hg y).setCell hg z
def Grown (t : Tt) (w : World) (e : Ending) (w' : World) : Prop := ∃ b, e = .returned (.pointer (some ⟨b, 0, none⟩)) /\ Tree w' (some b) t /\ Below w.heap.size w w'
theorem method_above (a b : ByteArray) (n : Int) (w : World) : (method 422 112 (.agg #[.string a, .string b, .int .i64 n]) "snapferry/treap.above").run prog w = .ok (283, .agg #[.string a, .string b, .int .i64 n]) w := by kernel_rfl
theorem above_lit (v n0 : ByteArray) (c0 : Int) (k : ByteArray) (l r : Tt) (w : World) (hD : Dg w) (hk : k.size <= 100) (hv : v.size <= 10000) (hl : l.len <= 1000000) (hr : r.len <= 1000000) :
  Calls prog 283 #[.agg #[.string v, .string n0, .int .i64 c0], .string k, ld l, ld r] w λe w' => e = .returned (.agg #[.string v, .string (nm (.node l k v r)), .int .i64 ((Tr.T.len (.node l k v r) : Nat) : Int)]) /\ Below w.heap.size w w' := above_any v n0 c0 k l r w hD hk hv hl hr
structure Late (w : World) (b : Nat) (k v n : ByteArray) (c : Int) (g : Nat) (W : World) : Prop where
 bel : Below w.heap.size w W
 c0 : W.cell? ⟨b, 0, none⟩ = some (.string k)
 c1 : W.cell? ⟨b, 1, none⟩ = some (.string (rk k))
 d0 : W.cell? ⟨g, 0, none⟩ = some (.string v)
 d1 : W.cell? ⟨g, 1, none⟩ = some (.string n)
 d2 : W.cell? ⟨g, 2, none⟩ = some (.int .i64 c)
section
variable {w : World} {b : Nat} {l0 : Tt} {k v : ByteArray} {r0 : Tt} {pl0 pr0 pl pr : Option Nat} {l r : Tt} {W : World} {n : ByteArray} {c : Int}
theorem late_new (h : Giv b l0 k v r0 pl0 pr0 pl pr l r w) (hb : Below w.heap.size w W) : Late w b k v n c W.heap.size (W.alloc (.cells #[.string v, .string n, .int .i64 c] 112)) :=
 ⟨balloc _ hb, (h.kept (balloc _ hb)).node.c0, (h.kept (balloc _ hb)).node.c1, cell_alloc _ _ _ 0, cell_alloc _ _ _ 1, cell_alloc _ _ _ 2⟩
theorem late_set {g : Nat} (h : Giv b l0 k v r0 pl0 pr0 pl pr l r w) (hz : Zed w g W) (hb : Below w.heap.size w W) : Late w b k v n c g (((W.setCell ⟨g, 0, none⟩ (.string v)).setCell ⟨g, 1, none⟩ (.string n)).setCell ⟨g, 2, none⟩ (.int .i64 c)) := by
 have hb' := bset hz.new (.string v) (.string n) (.int .i64 c) hb
 obtain ⟨_, z0, z1, z2, _⟩ := hz.facts
 exact ⟨hb', (h.kept hb').node.c0, (h.kept hb').node.c1, by go_simp, by go_simp, by go_simp⟩
end
theorem late_use {w : World} {b : Nat} {k v n : ByteArray} {c : Int} {g : Nat} {W : World} {P : Program} {C : Code} {Q : Exit -> Act -> World -> Prop} {a : Act} (h : Late w b k v n c g W) (hp : ∀ w5, Late w b k v n c g w5 -> C.wp P Q a w5) : C.wp P Q a W := hp W h
theorem grown_new {w W : World} {b : Nat} {l0 : Tt} {k v : ByteArray} {r0 : Tt} {pl0 pr0 pl pr : Option Nat} {l r : Tt} (h : Giv b l0 k v r0 pl0 pr0 pl pr l r w) (hk : k.size <= 100) (hv : v.size <= 10000) (hb : Below w.heap.size w W) :
  Grown (.node l k v r) w (.returned (.pointer (some ⟨W.heap.size, 0, none⟩))) (W.alloc (.cells #[.string k, .string (rk k), .string v, .string (nm (.node l k v r)), .int .i64 ((Tr.T.len (.node l k v r) : Nat) : Int), pv pl, pv pr] 156)).drew :=
 have h1 := (balloc (.cells #[.string k, .string (rk k), .string v, .string (nm (.node l k v r)), .int .i64 ((Tr.T.len (.node l k v r) : Nat) : Int), pv pl, pv pr] 156) hb).drew
 ⟨W.heap.size, rfl, ⟨W.heap.size, pl, pr, rfl, (congrArg (·[W.heap.size]?) (heap_drew _)).trans (heap_alloc_new W _), hk, hv, h.left.below h1, h.right.below h1⟩, h1⟩
theorem grow_any {w : World} {b : Nat} {l0 : Tt} {k v : ByteArray} {r0 : Tt} {pl0 pr0 pl pr : Option Nat} {l r : Tt} (h : Giv b l0 k v r0 pl0 pr0 pl pr l r w) (hl : l.len <= 1000000) (hr : r.len <= 1000000) :
  Calls prog 178 #[.pointer (some ⟨b, 0, none⟩), pv pl, pv pr] w (Grown (.node l k v r) w) := by
 have HG := hid h
 have HN := hid h.node
 have c5 := h.node.c5
 have c6 := h.node.c6
 have e5 := eql_tree h.left h.node.left
 have e6 := eql_tree h.right h.node.right
 by_cases hs : samep pl pl0 = true /\ samep pr pr0 = true
 ·obtain ⟨h1, h2⟩ := hs
  obtain rfl := samep_eq.1 h1
  obtain rfl := samep_eq.1 h2
  obtain rfl := h.left.inj h.node.left
  obtain rfl := h.right.inj h.node.right
  clear h
  go_enter func178, ntmps178
  go_wp2_with fail
  go_ret
  exact ⟨b, rfl, HG.out.node.tree, Below.refl _ _⟩
 ·have HR : samep pl pl0 = false \/ (samep pl pl0 = true /\ samep pr pr0 = false) := by
   cases x : samep pl pl0
   ·exact .inl rfl
   ·cases y : samep pr pr0
    ·exact .inr ⟨rfl, rfl⟩
    ·exact absurd ⟨x, y⟩ hs
  have hgd := (Below.refl w.heap.size w).drew
  clear h hs
  have hz := zero51
  have hm := method_above
  go_enter func178, ntmps178
  rcases HR with h1 | ⟨h1, h2⟩
  ·go_wp2_with fail
   go_region_held3 (λW => W.cell? ⟨b, 0, none⟩ = some (.string k) /\ W.cell? ⟨b, 1, none⟩ = some (.string (rk k)) /\ W.cell? ⟨b, 2, none⟩ = some (.string v) /\ W.cell? ⟨b, 3, none⟩ = some (.string (nm (.node l0 k v r0))) /\ W.cell? ⟨b, 4, none⟩ = some (.int .i64 ((Tr.T.len (.node l0 k v r0) : Nat) : Int)) /\ Below w.heap.size w W)
    (first | exact Giv.all HG.out (by assumption) | exact Giv.all HG.out (balloc _ (by assumption)) | exact Giv.all HG.out (balloc _ (getb (by assumption))) | exact Giv.all HG.out (bset hzg _ _ _ (by assumption)))
    (first
    | (go_at_call 50; (with_reducible refine (loadOf_any (Giv.left (HG.out.kept (getb (by assumption))))).mono ?_); rintro e w1 ⟨rfl, hw1⟩; have hb1 := btrans hw1 (getb (by assumption)); (first | (have zed := zed_newd hw1 (Below.refl _ _)) | (have zed := zed_new hw1 (by assumption); obtain ⟨hzg, zc0, zc1, zc2, zf0, zf1, zf2⟩ := zed.facts) | (have zed := zed_old hw1 (by assumption); obtain ⟨hzg, zc0, zc1, zc2, zf0, zf1, zf2⟩ := zed.facts) | skip))
    | (go_at_call 50; (with_reducible refine (loadOf_any (Giv.right (HG.out.kept (getb (by assumption))))).mono ?_); rintro e w1 ⟨rfl, hw1⟩; have hb1 := btrans hw1 (getb (by assumption)); (first | (have zed := zed_newd hw1 (Below.refl _ _); obtain ⟨hzg, zc0, zc1, zc2, zf0, zf1, zf2⟩ := zed.facts) | (have zed := zed_new hw1 (by assumption)) | (have zed := zed_old hw1 (by assumption)) | skip))
    | (go_at_call 283; (with_reducible refine (above_lit v _ _ k l r _ (Giv.dg (HG.out.kept (getb (by assumption)))) HN.out.key HN.out.val hl hr).mono ?_); rintro e w3 ⟨rfl, hw3⟩; have hb3 := btrans hw3 (getb (by assumption)); (first | (have zed := zed_newd hw3 (Below.refl _ _); obtain ⟨hzg, zc0, zc1, zc2, zf0, zf1, zf2⟩ := zed.facts) | (have zed := zed_new hw3 (by assumption); obtain ⟨hzg, zc0, zc1, zc2, zf0, zf1, zf2⟩ := zed.facts) | (have zed := zed_old hw3 (by assumption); obtain ⟨hzg, zc0, zc1, zc2, zf0, zf1, zf2⟩ := zed.facts) | skip)))
   all_goals go_wp2_with fail
   all_goals (first | refine late_use (late_new (n := nm (.node l k v r)) (c := ((Tr.T.len (.node l k v r) : Nat) : Int)) HG.out (by assumption)) ?_ | refine late_use (late_set (n := nm (.node l k v r)) (c := ((Tr.T.len (.node l k v r) : Nat) : Int)) HG.out (by assumption) (by assumption)) ?_)
   all_goals
    intro w5 hL
    have d0 := hL.c0
    have d1 := hL.c1
    have d2 := hL.d0
    have d3 := hL.d1
    have d4 := hL.d2
    have HL := hid hL.bel
    clear hL
    go_still_tail 12, (by kernel_rfl)
    go_wp2_with fail
    go_ret
    exact grown_new HG.out HN.out.key HN.out.val HL.out
  ·go_wp2_with fail
   go_region_held3 (λW => W.cell? ⟨b, 0, none⟩ = some (.string k) /\ W.cell? ⟨b, 1, none⟩ = some (.string (rk k)) /\ W.cell? ⟨b, 2, none⟩ = some (.string v) /\ W.cell? ⟨b, 3, none⟩ = some (.string (nm (.node l0 k v r0))) /\ W.cell? ⟨b, 4, none⟩ = some (.int .i64 ((Tr.T.len (.node l0 k v r0) : Nat) : Int)) /\ Below w.heap.size w W)
    (first | exact Giv.all HG.out (by assumption) | exact Giv.all HG.out (balloc _ (by assumption)) | exact Giv.all HG.out (balloc _ (getb (by assumption))) | exact Giv.all HG.out (bset hzg _ _ _ (by assumption)))
    (first
    | (go_at_call 50; (with_reducible refine (loadOf_any (Giv.left (HG.out.kept (getb (by assumption))))).mono ?_); rintro e w1 ⟨rfl, hw1⟩; have hb1 := btrans hw1 (getb (by assumption)); (first | (have zed := zed_newd hw1 (Below.refl _ _)) | (have zed := zed_new hw1 (by assumption); obtain ⟨hzg, zc0, zc1, zc2, zf0, zf1, zf2⟩ := zed.facts) | (have zed := zed_old hw1 (by assumption); obtain ⟨hzg, zc0, zc1, zc2, zf0, zf1, zf2⟩ := zed.facts) | skip))
    | (go_at_call 50; (with_reducible refine (loadOf_any (Giv.right (HG.out.kept (getb (by assumption))))).mono ?_); rintro e w1 ⟨rfl, hw1⟩; have hb1 := btrans hw1 (getb (by assumption)); (first | (have zed := zed_newd hw1 (Below.refl _ _); obtain ⟨hzg, zc0, zc1, zc2, zf0, zf1, zf2⟩ := zed.facts) | (have zed := zed_new hw1 (by assumption)) | (have zed := zed_old hw1 (by assumption)) | skip))
    | (go_at_call 283; (with_reducible refine (above_lit v _ _ k l r _ (Giv.dg (HG.out.kept (getb (by assumption)))) HN.out.key HN.out.val hl hr).mono ?_); rintro e w3 ⟨rfl, hw3⟩; have hb3 := btrans hw3 (getb (by assumption)); (first | (have zed := zed_newd hw3 (Below.refl _ _); obtain ⟨hzg, zc0, zc1, zc2, zf0, zf1, zf2⟩ := zed.facts) | (have zed := zed_new hw3 (by assumption); obtain ⟨hzg, zc0, zc1, zc2, zf0, zf1, zf2⟩ := zed.facts) | (have zed := zed_old hw3 (by assumption); obtain ⟨hzg, zc0, zc1, zc2, zf0, zf1, zf2⟩ := zed.facts) | skip)))
   all_goals go_wp2_with fail
   all_goals (first | refine late_use (late_new (n := nm (.node l k v r)) (c := ((Tr.T.len (.node l k v r) : Nat) : Int)) HG.out (by assumption)) ?_ | refine late_use (late_set (n := nm (.node l k v r)) (c := ((Tr.T.len (.node l k v r) : Nat) : Int)) HG.out (by assumption) (by assumption)) ?_)
   all_goals
    intro w5 hL
    have d0 := hL.c0
    have d1 := hL.c1
    have d2 := hL.d0
    have d3 := hL.d1
    have d4 := hL.d2
    have HL := hid hL.bel
    clear hL
    go_still_tail 12, (by kernel_rfl)
    go_wp2_with fail
    go_ret
    exact grown_new HG.out HN.out.key HN.out.val HL.out
end Go.Proofs.YthbajmlmjjfgpaaGreatDoor.T8
namespace Go.Proofs.YthbajmlmjjfgpaaGreatDoor.T8
open Go.RowKit Go.Less Sha
attribute [local go_sem 9000] sem_eql sem_neq sem_lss sem_leq sem_gtr sem_geq
def Parted (x : Tt × Tt) (w : World) (e : Ending) (w' : World) : Prop := ∃ pa pb, e = .returned (.tuple #[pv pa, pv pb]) /\ Tree w' pa x.1 /\ Tree w' pb x.2 /\ Below w.heap.size w w'
def Treed (t : Tt) (w : World) (e : Ending) (w' : World) : Prop := ∃ p, e = .returned (pv p) /\ Tree w' p t /\ Below w.heap.size w w'
theorem two {w : World} {b : Nat} {l : Tt} {k v : ByteArray} {r : Tt} {pl pr : Option Nat} {W : World} (h : Node w b l k v r pl pr) (hb : Below w.heap.size w W) : W.cell? ⟨b, 5, none⟩ = some (pv pl) /\ W.cell? ⟨b, 6, none⟩ = some (pv pr) /\ Below w.heap.size w W := ⟨(h.below hb).c5, (h.below hb).c6, hb⟩
theorem split_more {l r : Tt} {k v x : ByteArray} (h : less k x = true) : (Tr.T.node l k v r).split less x = (.node l k v (r.split less x).1, (r.split less x).2) := by
 conv => lhs; unfold Tr.T.split
 rw [if_pos h]
theorem split_less {l r : Tt} {k v x : ByteArray} (h : less k x = false) : (Tr.T.node l k v r).split less x = ((l.split less x).1, .node (l.split less x).2 k v r) := by
 conv => lhs; unfold Tr.T.split
 rw [if_neg (by simp [h])]
theorem split_any (x : ByteArray) : ∀ (t : Tt) (p : Option Nat) (w : World), Tree w p t -> Dg w -> t.len <= 100000 -> Calls prog 197 #[pv p, .string x] w (Parted (t.split less x) w) := by
 intro t
 induction t with
 | leaf =>
  intro p w hT hD hn
  obtain rfl : p = none := hT
  clear hD hn
  show Calls prog 197 #[.pointer none, .string x] w _
  go_enter func197, ntmps197
  go_wp2_with fail
  go_ret2
  exact ⟨none, none, rfl, rfl, rfl, Below.refl _ _⟩
 | node l k v r ihl ihr =>
  intro p w hT hD hn
  obtain ⟨b, pl, pr, rfl, hN⟩ := tree_node hT
  simp only [Tr.T.len] at hn
  have HI := hid (ihl pl w hN.left hD (by omega))
  have HJ := hid (ihr pr w hN.right hD (by omega))
  have HN := hid hN
  have HD := hid hD
  have hs1 := Tr.split_len (lt := less) l x
  have hs2 := Tr.split_len (lt := less) r x
  have HS := hid (show (l.split less x).2.len <= 1000000 /\ (r.split less x).1.len <= 1000000 /\ l.len <= 1000000 /\ r.len <= 1000000 from ⟨by omega, by omega, by omega, by omega⟩)
  have c0 := hN.c0
  have c5 := hN.c5
  have c6 := hN.c6
  have hb := hN.lt
  clear hT hD hN ihl ihr hs1 hs2 hn
  show Calls prog 197 #[.pointer (some ⟨b, 0, none⟩), .string x] w _
  cases hx : less k x
  ·rw [split_less hx]
   go_enter func197, ntmps197
   go_wp2_with fail
   refine HI.out.mono ?_
   rintro e w1 ⟨pa, pb, rfl, ha, hp, hw1⟩
   have c6' := (hw1.cell (p := ⟨b, 6, none⟩) hb).trans c6
   have HA := hid ha
   have HP := hid hp
   have HW := hid hw1
   clear ha hp hw1
   dsimp only
   go_wp2_with fail
   refine (grow_any ⟨HN.out.below HW.out, HP.out, HN.out.right.below HW.out, HD.out.below HW.out⟩ HS.out.1 HS.out.2.2.2).mono ?_
   rintro e w2 ⟨b2, rfl, hg, hw2⟩
   have HG := hid hg
   have HW2 := hid hw2
   clear hg hw2
   dsimp only
   go_wp2_with fail
   go_ret2
   exact ⟨pa, some b2, rfl, HA.out.below HW2.out, HG.out, btrans HW2.out HW.out⟩
  ·rw [split_more hx]
   go_enter func197, ntmps197
   go_wp2_with fail
   refine HJ.out.mono ?_
   rintro e w1 ⟨pa, pb, rfl, ha, hp, hw1⟩
   have c5' := (hw1.cell (p := ⟨b, 5, none⟩) hb).trans c5
   have HA := hid ha
   have HP := hid hp
   have HW := hid hw1
   clear ha hp hw1
   dsimp only
   go_wp2_with fail
   refine (grow_any ⟨HN.out.below HW.out, HN.out.left.below HW.out, HA.out, HD.out.below HW.out⟩ HS.out.2.2.1 HS.out.2.1).mono ?_
   rintro e w2 ⟨b2, rfl, hg, hw2⟩
   have HG := hid hg
   have HW2 := hid hw2
   clear hg hw2
   dsimp only
   go_wp2_with fail
   go_ret2
   exact ⟨some b2, pb, rfl, HG.out, HP.out.below HW2.out, btrans HW2.out HW.out⟩
abbrev mrg (a b : Tt) : Tt := Tr.T.merge less less rk a b
theorem merge_any : ∀ (n : Nat) (t u : Tt) (p q : Option Nat) (w : World), t.len + u.len <= n -> n <= 100000 -> Tree w p t -> Tree w q u -> Dg w -> Calls prog 179 #[pv p, pv q] w (Treed (mrg t u) w) := by
 intro n
 induction n with
 | zero =>
  intro t u p q w hn _ hT hU _
  cases t with
  | node l k v r => simp only [Tr.T.len] at hn; omega
  | leaf =>
   obtain rfl : p = none := hT
   have HU := hid hU
   have hm : mrg .leaf u = u := Tr.T.merge_leaf ..
   rw [hm]
   clear hn hU hm
   show Calls prog 179 #[.pointer none, pv q] w _
   go_enter func179, ntmps179
   go_wp2_with fail
   go_ret
   exact ⟨q, rfl, HU.out, Below.refl _ _⟩
 | succ n ih =>
  intro t u p q w hn hle hT hU hD
  cases t with
  | leaf =>
   obtain rfl : p = none := hT
   have HU := hid hU
   have hm : mrg .leaf u = u := Tr.T.merge_leaf ..
   rw [hm]
   clear hn hU hm ih hle hD
   show Calls prog 179 #[.pointer none, pv q] w _
   go_enter func179, ntmps179
   go_wp2_with fail
   go_ret
   exact ⟨q, rfl, HU.out, Below.refl _ _⟩
  | node l k v r =>
   cases u with
   | leaf =>
    obtain ⟨b, pl, pr, rfl, hN⟩ := tree_node hT
    obtain rfl : q = none := hU
    have HT := hid hT
    have hm : mrg (.node l k v r) .leaf = .node l k v r := Tr.T.merge_node_leaf ..
    rw [hm]
    clear hn hT hm ih hle hD hN
    show Calls prog 179 #[.pointer (some ⟨b, 0, none⟩), .pointer none] w _
    go_enter func179, ntmps179
    go_wp2_with fail
    go_ret
    exact ⟨some b, rfl, HT.out, Below.refl _ _⟩
   | node l' k' v' r' =>
    obtain ⟨b, pl, pr, rfl, hN⟩ := tree_node hT
    obtain ⟨b', pl', pr', rfl, hN'⟩ := tree_node hU
    simp only [Tr.T.len] at hn
    have HA := hid (ahead_any hN hN')
    have HN := hid hN
    have HN' := hid hN'
    have HD := hid hD
    have HT := hid hT
    have HU := hid hU
    cases ha : ahd k k'
    ·have hm : mrg (.node l k v r) (.node l' k' v' r') = .node (mrg (.node l k v r) l') k' v' r' := Tr.T.merge_behind less less rk ha ..
     rw [hm]
     have hml : (mrg (.node l k v r) l').len = l.len + 1 + r.len + l'.len := Tr.merge_len ..
     have HI := hid (show ∀ W, Below w.heap.size w W -> Calls prog 179 #[.pointer (some ⟨b, 0, none⟩), pv pl'] W (Treed (mrg (.node l k v r) l') W) from λW (hb : Below w.heap.size w W) => ih (.node l k v r) l' (some b) pl' W (by simp only [Tr.T.len]; omega) (by omega) (HT.out.below hb) (HN'.out.left.below hb) (HD.out.below hb))
     have HG := hid (λW p1 (hb : Below w.heap.size w W) (h : Tree W p1 (mrg (.node l k v r) l')) => grow_any (w := W) (l := mrg (.node l k v r) l') ⟨HN'.out.below hb, h, HN'.out.right.below hb, HD.out.below hb⟩ (by omega) (by omega))
     generalize mrg (.node l k v r) l' = m at *
     clear hn hle ih hT hU hD hN hN' hm hml
     show Calls prog 179 #[.pointer (some ⟨b, 0, none⟩), .pointer (some ⟨b', 0, none⟩)] w _
     go_enter func179, ntmps179
     go_wp2_with fail
     refine HA.out.mono ?_
     rintro e w1 ⟨rfl, hw1⟩
     rw [ha]
     have hB := hw1.drew
     dsimp only
     go_wp2_with fail
     go_region_held3 (λW => W.cell? ⟨b', 5, none⟩ = some (pv pl') /\ W.cell? ⟨b', 6, none⟩ = some (pv pr') /\ Below w.heap.size w W)
      (first | exact two HN'.out (by assumption))
      (first
      | (go_at_call 179; (with_reducible refine (HI.out _ (by assumption)).mono ?_); rintro e w2 ⟨p2, rfl, hm2, hw2⟩; have hb2 := btrans hw2 (by assumption))
      | (go_at_call 178; (with_reducible refine (HG.out _ _ (by assumption) hm2).mono ?_); rintro e w3 ⟨b3, rfl, hm3, hw3⟩; have hb3 := btrans hw3 (by assumption)))
     go_wp2_with fail
     go_ret
     exact ⟨some b3, rfl, hm3, by assumption⟩
    ·have hm : mrg (.node l k v r) (.node l' k' v' r') = .node l k v (mrg r (.node l' k' v' r')) := Tr.T.merge_ahead less less rk ha ..
     rw [hm]
     have hml : (mrg r (.node l' k' v' r')).len = r.len + (l'.len + 1 + r'.len) := Tr.merge_len ..
     have HI := hid (show ∀ W, Below w.heap.size w W -> Calls prog 179 #[pv pr, .pointer (some ⟨b', 0, none⟩)] W (Treed (mrg r (.node l' k' v' r')) W) from λW (hb : Below w.heap.size w W) => ih r (.node l' k' v' r') pr (some b') W (by simp only [Tr.T.len]; omega) (by omega) (HN.out.right.below hb) (HU.out.below hb) (HD.out.below hb))
     have HG := hid (λW p1 (hb : Below w.heap.size w W) (h : Tree W p1 (mrg r (.node l' k' v' r'))) => grow_any (w := W) (r := mrg r (.node l' k' v' r')) ⟨HN.out.below hb, HN.out.left.below hb, h, HD.out.below hb⟩ (by omega) (by omega))
     generalize mrg r (.node l' k' v' r') = m at *
     clear hn hle ih hT hU hD hN hN' hm hml
     show Calls prog 179 #[.pointer (some ⟨b, 0, none⟩), .pointer (some ⟨b', 0, none⟩)] w _
     go_enter func179, ntmps179
     go_wp2_with fail
     refine HA.out.mono ?_
     rintro e w1 ⟨rfl, hw1⟩
     rw [ha]
     have hB := hw1.drew
     dsimp only
     go_wp2_with fail
     go_region_held3 (λW => W.cell? ⟨b, 5, none⟩ = some (pv pl) /\ W.cell? ⟨b, 6, none⟩ = some (pv pr) /\ Below w.heap.size w W)
      (first | exact two HN.out (by assumption))
      (first
      | (go_at_call 179; (with_reducible refine (HI.out _ (by assumption)).mono ?_); rintro e w2 ⟨p2, rfl, hm2, hw2⟩; have hb2 := btrans hw2 (by assumption))
      | (go_at_call 178; (with_reducible refine (HG.out _ _ (by assumption) hm2).mono ?_); rintro e w3 ⟨b3, rfl, hm3, hw3⟩; have hb3 := btrans hw3 (by assumption)))
     go_wp2_with fail
     go_ret
     exact ⟨some b3, rfl, hm3, by assumption⟩
end Go.Proofs.YthbajmlmjjfgpaaGreatDoor.T8
namespace Go.Proofs.YthbajmlmjjfgpaaGreatDoor.T8
open Go.RowKit Go.Less Sha
attribute [local go_sem 9000] sem_eql sem_neq sem_lss sem_leq sem_gtr sem_geq
abbrev tput (t : Tt) (x y : ByteArray) : Tt := t.put less less rk x y
abbrev tdrop (t : Tt) (x : ByteArray) : Tt := t.drop less less rk x
section
variable {l r : Tt} {k v x y : ByteArray}
theorem put_above (h : ahd x k = true) : tput (.node l k v r) x y = .node ((Tr.T.node l k v r).split less x).1 x y ((Tr.T.node l k v r).split less x).2 := by
 conv => lhs; unfold tput Tr.T.put
 rw [if_pos (show Tr.ahead less less rk x k = true from h)]
theorem put_lesser (h : ahd x k = false) (h2 : less x k = true) : tput (.node l k v r) x y = .node (tput l x y) k v r := by
 conv => lhs; unfold tput Tr.T.put
 rw [if_neg (λe => by rw [show ahd x k = true from e] at h; cases h), if_pos h2]
theorem put_greater (h : ahd x k = false) (h2 : less x k = false) (h3 : less k x = true) : tput (.node l k v r) x y = .node l k v (tput r x y) := by
 conv => lhs; unfold tput Tr.T.put
 rw [if_neg (λe => by rw [show ahd x k = true from e] at h; cases h), if_neg (by simp [h2]), if_pos h3]
theorem put_same (h : ahd x k = false) (h2 : less x k = false) (h3 : less k x = false) : tput (.node l k v r) x y = .node l x y r := by
 conv => lhs; unfold tput Tr.T.put
 rw [if_neg (λe => by rw [show ahd x k = true from e] at h; cases h), if_neg (by simp [h2]), if_neg (by simp [h3])]
theorem drop_lesser (h2 : less x k = true) : tdrop (.node l k v r) x = .node (tdrop l x) k v r := by
 conv => lhs; unfold tdrop Tr.T.drop
 rw [if_pos h2]
theorem drop_greater (h2 : less x k = false) (h3 : less k x = true) : tdrop (.node l k v r) x = .node l k v (tdrop r x) := by
 conv => lhs; unfold tdrop Tr.T.drop
 rw [if_neg (by simp [h2]), if_pos h3]
theorem drop_same (h2 : less x k = false) (h3 : less k x = false) : tdrop (.node l k v r) x = mrg l r := by
 conv => lhs; unfold tdrop Tr.T.drop
 rw [if_neg (by simp [h2]), if_neg (by simp [h3])]
end
theorem put_any (x y : ByteArray) (bw : Nat) : ∀ (t : Tt) (p : Option Nat) (w : World), Tree w p t -> Node w bw .leaf x y .leaf none none -> Dg w -> t.len <= 10000 -> Calls prog 170 #[pv p, .pointer (some ⟨bw, 0, none⟩)] w (Treed (tput t x y) w) := by
 intro t
 induction t with
 | leaf =>
  intro p w hT hW hD hn
  obtain rfl : p = none := hT
  have HW := hid hW
  have hm : tput .leaf x y = .node .leaf x y .leaf := rfl
  rw [hm]
  clear hW hD hn hm
  show Calls prog 170 #[.pointer none, .pointer (some ⟨bw, 0, none⟩)] w _
  go_enter func170, ntmps170
  go_wp2_with fail
  go_ret
  exact ⟨some bw, rfl, HW.out.tree, Below.refl _ _⟩
 | node l k v r ihl ihr =>
  intro p w hT hW hD hn
  obtain ⟨b, pl, pr, rfl, hN⟩ := tree_node hT
  simp only [Tr.T.len] at hn
  have HA := hid (ahead_any hW hN)
  have hlt := hN.lt
  have hltw := hW.lt
  have c0 := hN.c0
  have d0 := hW.c0
  have HN := hid hN
  have HW := hid hW
  have HD := hid hD
  have HT := hid hT
  cases ha : ahd x k
  ·cases h2 : less x k
   ·cases h3 : less k x
    ·
     rw [put_same ha h2 h3]
     have HG := hid (λW (hb : Below w.heap.size w W) => grow_any (w := W) (l := l) (r := r) ⟨HW.out.below hb, HN.out.left.below hb, HN.out.right.below hb, HD.out.below hb⟩ (by omega) (by omega))
     clear hn ihl ihr hT hD hN hW
     show Calls prog 170 #[.pointer (some ⟨b, 0, none⟩), .pointer (some ⟨bw, 0, none⟩)] w _
     go_enter func170, ntmps170
     go_wp2_with fail
     refine HA.out.mono ?_
     rintro e w1 ⟨rfl, hw1⟩
     rw [ha]
     have c0' := (hw1.cell (p := ⟨b, 0, none⟩) hlt).trans c0
     have d0' := (hw1.cell (p := ⟨bw, 0, none⟩) hltw).trans d0
     dsimp only
     go_wp2_with fail
     go_quiet (fail)
     go_wp2_with fail
     go_quiet (fail)
     go_wp2_with fail
     have hB : ∀ n, Below w.heap.size w (w1.drewN n) := bdn hw1
     have hBd : ∀ n, Below w.heap.size w (w1.drewN n).drew := λn => (bdn hw1 n).drew
     have hBdd : ∀ n m, Below w.heap.size w ((w1.drewN n).drewN m).drew := λn m => (bdn (bdn hw1 n) m).drew
     go_region_held3 (λW => W.cell? ⟨b, 5, none⟩ = some (pv pl) /\ W.cell? ⟨b, 6, none⟩ = some (pv pr) /\ Below w.heap.size w W)
      (first | exact two HN.out (by assumption) | exact two HN.out (hB _) | exact two HN.out (hBd _) | exact two HN.out (hBdd _ _))
      ((go_at_call 178; (with_reducible refine (HG.out _ (by first | assumption | exact hB _)).mono ?_); rintro e w3 ⟨b3, rfl, hm3, hw3⟩; have hb3 := btrans hw3 (by first | assumption | exact hB _)))
     go_wp2_with fail
     go_ret
     exact ⟨some b3, rfl, hm3, by assumption⟩
    ·rw [put_greater ha h2 h3]
     have hml : (tput r x y).len <= r.len + 1 := Tr.tput_len r x y
     have HI := hid (show ∀ W, Below w.heap.size w W -> Calls prog 170 #[pv pr, .pointer (some ⟨bw, 0, none⟩)] W (Treed (tput r x y) W) from λW hb => ihr pr W (HN.out.right.below hb) (HW.out.below hb) (HD.out.below hb) (by omega))
     have HG := hid (λW p1 (hb : Below w.heap.size w W) (h : Tree W p1 (tput r x y)) => grow_any (w := W) (l := l) (r := tput r x y) ⟨HN.out.below hb, HN.out.left.below hb, h, HD.out.below hb⟩ (by omega) (by omega))
     generalize tput r x y = m at *
     clear hml
     clear hn ihl ihr hT hD hN hW
     show Calls prog 170 #[.pointer (some ⟨b, 0, none⟩), .pointer (some ⟨bw, 0, none⟩)] w _
     go_enter func170, ntmps170
     go_wp2_with fail
     refine HA.out.mono ?_
     rintro e w1 ⟨rfl, hw1⟩
     rw [ha]
     have c0' := (hw1.cell (p := ⟨b, 0, none⟩) hlt).trans c0
     have d0' := (hw1.cell (p := ⟨bw, 0, none⟩) hltw).trans d0
     dsimp only
     go_wp2_with fail
     go_quiet (fail)
     go_wp2_with fail
     go_quiet (fail)
     go_wp2_with fail
     have hB : ∀ n, Below w.heap.size w (w1.drewN n) := bdn hw1
     have hBd : ∀ n, Below w.heap.size w (w1.drewN n).drew := λn => (bdn hw1 n).drew
     have hBdd : ∀ n m, Below w.heap.size w ((w1.drewN n).drewN m).drew := λn m => (bdn (bdn hw1 n) m).drew
     go_region_held3 (λW => W.cell? ⟨b, 5, none⟩ = some (pv pl) /\ W.cell? ⟨b, 6, none⟩ = some (pv pr) /\ Below w.heap.size w W)
      (first | exact two HN.out (by assumption) | exact two HN.out (hB _) | exact two HN.out (hBd _) | exact two HN.out (hBdd _ _))
      (first
      | (go_at_call 170; (with_reducible refine (HI.out _ (by first | assumption | exact hB _)).mono ?_); rintro e w2 ⟨p2, rfl, hm2, hw2⟩; have hb2 := btrans hw2 (by first | assumption | exact hB _))
      | (go_at_call 178; (with_reducible refine (HG.out _ _ (by assumption) hm2).mono ?_); rintro e w3 ⟨b3, rfl, hm3, hw3⟩; have hb3 := btrans hw3 (by assumption)))
     go_wp2_with fail
     go_ret
     exact ⟨some b3, rfl, hm3, by assumption⟩
   ·rw [put_lesser ha h2]
    have hml : (tput l x y).len <= l.len + 1 := Tr.tput_len l x y
    have HI := hid (show ∀ W, Below w.heap.size w W -> Calls prog 170 #[pv pl, .pointer (some ⟨bw, 0, none⟩)] W (Treed (tput l x y) W) from λW hb => ihl pl W (HN.out.left.below hb) (HW.out.below hb) (HD.out.below hb) (by omega))
    have HG := hid (λW p1 (hb : Below w.heap.size w W) (h : Tree W p1 (tput l x y)) => grow_any (w := W) (l := tput l x y) (r := r) ⟨HN.out.below hb, h, HN.out.right.below hb, HD.out.below hb⟩ (by omega) (by omega))
    generalize tput l x y = m at *
    clear hml
    clear hn ihl ihr hT hD hN hW
    show Calls prog 170 #[.pointer (some ⟨b, 0, none⟩), .pointer (some ⟨bw, 0, none⟩)] w _
    go_enter func170, ntmps170
    go_wp2_with fail
    refine HA.out.mono ?_
    rintro e w1 ⟨rfl, hw1⟩
    rw [ha]
    have c0' := (hw1.cell (p := ⟨b, 0, none⟩) hlt).trans c0
    have d0' := (hw1.cell (p := ⟨bw, 0, none⟩) hltw).trans d0
    dsimp only
    go_wp2_with fail
    go_quiet (fail)
    go_wp2_with fail
    have hB : ∀ n, Below w.heap.size w (w1.drewN n) := bdn hw1
    have hBd : ∀ n, Below w.heap.size w (w1.drewN n).drew := λn => (bdn hw1 n).drew
    have hBdd : ∀ n m, Below w.heap.size w ((w1.drewN n).drewN m).drew := λn m => (bdn (bdn hw1 n) m).drew
    go_region_held3 (λW => W.cell? ⟨b, 5, none⟩ = some (pv pl) /\ W.cell? ⟨b, 6, none⟩ = some (pv pr) /\ Below w.heap.size w W)
     (first | exact two HN.out (by assumption) | exact two HN.out (hB _) | exact two HN.out (hBd _) | exact two HN.out (hBdd _ _))
     (first
     | (go_at_call 170; (with_reducible refine (HI.out _ (by first | assumption | exact hB _)).mono ?_); rintro e w2 ⟨p2, rfl, hm2, hw2⟩; have hb2 := btrans hw2 (by first | assumption | exact hB _))
     | (go_at_call 178; (with_reducible refine (HG.out _ _ (by assumption) hm2).mono ?_); rintro e w3 ⟨b3, rfl, hm3, hw3⟩; have hb3 := btrans hw3 (by assumption)))
    go_wp2_with fail
    go_ret
    exact ⟨some b3, rfl, hm3, by assumption⟩
  ·rw [put_above ha]
   have hsl := Tr.split_len (lt := less) (Tr.T.node l k v r) x
   simp only [Tr.T.len] at hsl
   have HI := hid (λW (hb : Below w.heap.size w W) => show Calls prog 197 #[.pointer (some ⟨b, 0, none⟩), .string x] W (Parted ((Tr.T.node l k v r).split less x) W) from split_any x (.node l k v r) (some b) W (HT.out.below hb) (HD.out.below hb) (by simp only [Tr.T.len]; omega))
   generalize (Tr.T.node l k v r).split less x = m at *
   have HG := hid (λW p1 p2 (hb : Below w.heap.size w W) (h1 : Tree W p1 m.1) (h2 : Tree W p2 m.2) => grow_any (w := W) (l := m.1) (r := m.2) ⟨HW.out.below hb, h1, h2, HD.out.below hb⟩ (by omega) (by omega))
   clear hsl
   clear hn ihl ihr hT hD hN hW
   show Calls prog 170 #[.pointer (some ⟨b, 0, none⟩), .pointer (some ⟨bw, 0, none⟩)] w _
   go_enter func170, ntmps170
   go_wp2_with fail
   refine HA.out.mono ?_
   rintro e w1 ⟨rfl, hw1⟩
   rw [ha]
   have d0' := (hw1.cell (p := ⟨bw, 0, none⟩) hltw).trans d0
   dsimp only
   go_wp2_with fail
   refine (HI.out _ hw1).mono ?_
   rintro e w2 ⟨pa, pb, rfl, ha2, hb2, hw2⟩
   have hB := btrans hw2 hw1
   have HA2 := hid ha2
   have HB2 := hid hb2
   clear ha2 hb2
   dsimp only
   go_wp2_with fail
   refine (HG.out _ _ _ hB HA2.out HB2.out).mono ?_
   rintro e w3 ⟨b3, rfl, hm3, hw3⟩
   have hb3 := btrans hw3 hB
   dsimp only
   go_wp2_with fail
   go_ret
   exact ⟨some b3, rfl, hm3, by assumption⟩
theorem drop_any (x : ByteArray) : ∀ (t : Tt) (p : Option Nat) (w : World), Tree w p t -> Dg w -> t.len <= 10000 -> Calls prog 145 #[pv p, .string x] w (Treed (tdrop t x) w) := by
 intro t
 induction t with
 | leaf =>
  intro p w hT hD hn
  obtain rfl : p = none := hT
  have hm : tdrop .leaf x = .leaf := rfl
  rw [hm]
  clear hD hn hm
  show Calls prog 145 #[.pointer none, .string x] w _
  go_enter func145, ntmps145
  go_wp2_with fail
  go_ret
  exact ⟨none, rfl, rfl, Below.refl _ _⟩
 | node l k v r ihl ihr =>
  intro p w hT hD hn
  obtain ⟨b, pl, pr, rfl, hN⟩ := tree_node hT
  simp only [Tr.T.len] at hn
  have c0 := hN.c0
  have HN := hid hN
  have HD := hid hD
  cases h2 : less x k
  ·cases h3 : less k x
   ·
    rw [drop_same h2 h3]
    have HG := hid (λW (hb : Below w.heap.size w W) => merge_any (l.len + r.len) l r pl pr W (Nat.le_refl _) (by omega) (HN.out.left.below hb) (HN.out.right.below hb) (HD.out.below hb))
    clear hn ihl ihr hT hD hN
    show Calls prog 145 #[.pointer (some ⟨b, 0, none⟩), .string x] w _
    go_enter func145, ntmps145
    go_wp2_with fail
    have hB : ∀ n, Below w.heap.size w (w.drewN n) := bdn (Below.refl _ _)
    have hB1 := (Below.refl w.heap.size w).drew
    have hBd : ∀ n, Below w.heap.size w (w.drewN n).drew := λn => (bdn (Below.refl _ _) n).drew
    have hBdd : ∀ n m, Below w.heap.size w ((w.drewN n).drewN m).drew := λn m => (bdn (bdn (Below.refl _ _) n) m).drew
    go_region_held3 (λW => W.cell? ⟨b, 5, none⟩ = some (pv pl) /\ W.cell? ⟨b, 6, none⟩ = some (pv pr) /\ Below w.heap.size w W)
     (first | exact two HN.out (by assumption) | exact two HN.out (hB _) | exact two HN.out (hBd _) | exact two HN.out (hBdd _ _))
     ((go_at_call 179; (with_reducible refine (HG.out _ (by first | assumption | exact hB _)).mono ?_); rintro e w3 ⟨p3, rfl, hm3, hw3⟩; have hb3 := btrans hw3 (by first | assumption | exact hB _)))
    go_wp2_with fail
    go_ret
    exact ⟨p3, rfl, hm3, by assumption⟩
   ·rw [drop_greater h2 h3]
    have hml : (tdrop r x).len <= r.len := Tr.drop_len r x
    have HI := hid (show ∀ W, Below w.heap.size w W -> Calls prog 145 #[pv pr, .string x] W (Treed (tdrop r x) W) from λW hb => ihr pr W (HN.out.right.below hb) (HD.out.below hb) (by omega))
    have HG := hid (λW p1 (hb : Below w.heap.size w W) (h : Tree W p1 (tdrop r x)) => grow_any (w := W) (l := l) (r := tdrop r x) ⟨HN.out.below hb, HN.out.left.below hb, h, HD.out.below hb⟩ (by omega) (by omega))
    generalize tdrop r x = m at *
    clear hml
    clear hn ihl ihr hT hD hN
    show Calls prog 145 #[.pointer (some ⟨b, 0, none⟩), .string x] w _
    go_enter func145, ntmps145
    go_wp2_with fail
    have hB : ∀ n, Below w.heap.size w (w.drewN n) := bdn (Below.refl _ _)
    have hB1 := (Below.refl w.heap.size w).drew
    have hBd : ∀ n, Below w.heap.size w (w.drewN n).drew := λn => (bdn (Below.refl _ _) n).drew
    have hBdd : ∀ n m, Below w.heap.size w ((w.drewN n).drewN m).drew := λn m => (bdn (bdn (Below.refl _ _) n) m).drew
    go_region_held3 (λW => W.cell? ⟨b, 5, none⟩ = some (pv pl) /\ W.cell? ⟨b, 6, none⟩ = some (pv pr) /\ Below w.heap.size w W)
     (first | exact two HN.out (by assumption) | exact two HN.out (hB _) | exact two HN.out (hBd _) | exact two HN.out (hBdd _ _))
     (first
     | (go_at_call 145; (with_reducible refine (HI.out _ (by first | assumption | exact hB _)).mono ?_); rintro e w2 ⟨p2, rfl, hm2, hw2⟩; have hb2 := btrans hw2 (by first | assumption | exact hB _))
     | (go_at_call 178; (with_reducible refine (HG.out _ _ (by assumption) hm2).mono ?_); rintro e w3 ⟨b3, rfl, hm3, hw3⟩; have hb3 := btrans hw3 (by assumption)))
    go_wp2_with fail
    go_ret
    exact ⟨some b3, rfl, hm3, by assumption⟩
  ·rw [drop_lesser h2]
   have hml : (tdrop l x).len <= l.len := Tr.drop_len l x
   have HI := hid (show ∀ W, Below w.heap.size w W -> Calls prog 145 #[pv pl, .string x] W (Treed (tdrop l x) W) from λW hb => ihl pl W (HN.out.left.below hb) (HD.out.below hb) (by omega))
   have HG := hid (λW p1 (hb : Below w.heap.size w W) (h : Tree W p1 (tdrop l x)) => grow_any (w := W) (l := tdrop l x) (r := r) ⟨HN.out.below hb, h, HN.out.right.below hb, HD.out.below hb⟩ (by omega) (by omega))
   generalize tdrop l x = m at *
   clear hml
   clear hn ihl ihr hT hD hN
   show Calls prog 145 #[.pointer (some ⟨b, 0, none⟩), .string x] w _
   go_enter func145, ntmps145
   go_wp2_with fail
   have hB : ∀ n, Below w.heap.size w (w.drewN n) := bdn (Below.refl _ _)
   have hB1 := (Below.refl w.heap.size w).drew
   have hBd : ∀ n, Below w.heap.size w (w.drewN n).drew := λn => (bdn (Below.refl _ _) n).drew
   have hBdd : ∀ n m, Below w.heap.size w ((w.drewN n).drewN m).drew := λn m => (bdn (bdn (Below.refl _ _) n) m).drew
   go_region_held3 (λW => W.cell? ⟨b, 5, none⟩ = some (pv pl) /\ W.cell? ⟨b, 6, none⟩ = some (pv pr) /\ Below w.heap.size w W)
    (first | exact two HN.out (by assumption) | exact two HN.out (hB _) | exact two HN.out (hBd _) | exact two HN.out (hBdd _ _))
    (first
    | (go_at_call 145; (with_reducible refine (HI.out _ (by first | assumption | exact hB _)).mono ?_); rintro e w2 ⟨p2, rfl, hm2, hw2⟩; have hb2 := btrans hw2 (by first | assumption | exact hB _))
    | (go_at_call 178; (with_reducible refine (HG.out _ _ (by assumption) hm2).mono ?_); rintro e w3 ⟨b3, rfl, hm3, hw3⟩; have hb3 := btrans hw3 (by assumption)))
   go_wp2_with fail
   go_ret
   exact ⟨some b3, rfl, hm3, by assumption⟩
end Go.Proofs.YthbajmlmjjfgpaaGreatDoor.T8
namespace Go.Proofs.YthbajmlmjjfgpaaGreatDoor.T8
open Go.Shelf
def ren316 : Go.Shelf.Ren := ⟨λ| 316 => 95 | n => n, λ| 9 => 9 | 3 => 3 | 4 => 4 | 37 => 91 | 0 => 0 | 127 => 162 | 5 => 5 | n => n, λ| n => n⟩
theorem laysM316 : Go.Proofs.LaysM.n316 prog ren316 := {
 mixed := by kernel_rfl
 f316 := func95.trans (congrArg some (by kernel_rfl))
 t0 := underlying0
 a0 := Tryz.isAgg0
 z0 := Tryz.sizeOf0
 v0 := Tryz.zeroValue0
 t3 := underlying3
 a3 := Tryz.isAgg3
 z3 := Tryz.sizeOf3
 v3 := Tryz.zeroValue3
 t4 := underlying4
 a4 := Tryz.isAgg4
 z4 := Tryz.sizeOf4
 v4 := Tryz.zeroValue4
 t9 := underlying9
 a9 := Tryz.isAgg9
 z9 := Tryz.sizeOf9
 v9 := Tryz.zeroValue9
 t37 := underlying91
 a37 := Tryz.isAgg91
 z37 := Tryz.sizeOf91
 v37 := Tryz.zeroValue91
 t127 := underlying162
 a127 := Tryz.isAgg162
 z127 := Tryz.sizeOf162
 v127 := Tryz.zeroValue162
 t5 := underlying5
 a5 := Tryz.isAgg5
 z5 := Tryz.sizeOf5
 v5 := Tryz.zeroValue5
 i0 := by kernel_rfl
 i3 := by kernel_rfl
 i4 := by kernel_rfl
 i5 := by kernel_rfl
 i9 := by kernel_rfl
 i37 := by kernel_rfl
 i127 := by kernel_rfl }
open Go.RowKit in
theorem stringslite_Clone (s : ByteArray) (w : World) (hlim : s.size <= 281474976710656) :
  Calls prog 95 #[.string s] w λe w' => e = .returned (.string s) /\ Below w.heap.size w w' := Any.stringslite_Clone laysM316 s w hlim
open Go.RowKit in
theorem clone_any (s : ByteArray) (w : World) (hlim : s.size <= 281474976710656) :
  Calls prog 47 #[.string s] w λe w' => e = .returned (.string s) /\ Below w.heap.size w w' := by
 go_enter func47, ntmps47
 go_wp2_with fail
 refine (stringslite_Clone s w hlim).mono ?_
 rintro e w' ⟨rfl, hw⟩
 dsimp only
 go_wp2_with fail
 go_ret
 exact ⟨rfl, hw⟩
end Go.Proofs.YthbajmlmjjfgpaaGreatDoor.T8
