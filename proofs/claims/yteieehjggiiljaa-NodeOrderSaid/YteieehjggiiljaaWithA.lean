/- The program's With. -/
import Derived.Test.YteieehjggiiljaaWout
import Derived.Test.YteieehjggiiljaaRight
import Derived.Test.YteieehjggiiljaaRefWith
namespace Go.Proofs.Yteieehjggiiljaa
set_option maxRecDepth 100000
open Go.RowKit Go.Less
attribute [local go_sem 9000] sem_eql sem_neq sem_lss sem_leq sem_gtr sem_geq
theorem rightName_any (s : ByteArray) (w : World) (hs : s.size ≤ 140737488355328) : Calls Try.prog 29 #[.string s] w fun e w' => e = .returned (.bool (Nm.right s.data.toList)) ∧ Below w.heap.size w w' := by
  go_enter Try.func29, Try.ntmps29
  go_wp2_with fail
  refine (right_any s _ hs).mono ?_
  rintro e w1 ⟨rfl, hB⟩
  dsimp only
  go_wp2_with fail
  go_ret
  exact ⟨rfl, hB⟩
/-- The boxes of With: the node's, the name's, the result's. -/
structure BW (w : World) (cs : Array Value) (nm : ByteArray) (W : World) : Prop where
  br : BR w w.heap.size (w.heap.size + 2) cs W
  nmc : W.heap[w.heap.size + 1]? = some (.cells #[.string nm] 9 (0, 0))
theorem BW.kept {w : World} {cs : Array Value} {nm : ByteArray} {W W' : World} (h : BW w cs nm W) (hb : Below W.heap.size W W') : BW w cs nm W' :=
  ⟨h.br.kept hb, (hb.block _ (lt_of_obj h.nmc)).trans h.nmc⟩
theorem BW.grown {w : World} {cs : Array Value} {nm : ByteArray} {W W' : World} {row : Option Nat} (h : BW w cs nm W) (hg : W.grownBy W' row) (hrow : ∀ k, row = some k → w.heap.size + 3 ≤ k) : BW w cs nm W' :=
  ⟨h.br.grown hg (fun k hk => by have := hrow k hk; exact ⟨by omega, by omega, by omega⟩), grown_obj hg h.nmc (fun e => by have := hrow _ e.symm; omega)⟩
theorem BW.set4 {w : World} {v0 v1 v2 v3 v4 : Value} {nm : ByteArray} {W : World} (h : BW w #[v0, v1, v2, v3, v4] nm W) (v : Value) : BW w #[v0, v1, v2, v3, v] nm (W.setCell ⟨w.heap.size, 4, none⟩ v) :=
  ⟨h.br.set4 v, by rw [heap_setCell_other W ⟨w.heap.size, 4, none⟩ (w.heap.size + 1) _ (by show w.heap.size + 1 ≠ w.heap.size; omega)]; exact h.nmc⟩
theorem BW.set5 {w : World} {x0 x1 x2 x3 x4 : Value} {nm : ByteArray} {W : World} (h : BW w #[x0, x1, x2, x3, x4] nm W) (v0 v1 v2 v3 v4 : Value) :
    BW w #[v0, v1, v2, v3, v4] nm (((((W.setCell ⟨w.heap.size, 0, none⟩ v0).setCell ⟨w.heap.size, 1, none⟩ v1).setCell ⟨w.heap.size, 2, none⟩ v2).setCell ⟨w.heap.size, 3, none⟩ v3).setCell ⟨w.heap.size, 4, none⟩ v4) := by
  have hne : w.heap.size + 1 ≠ w.heap.size := by omega
  refine ⟨h.br.set5 v0 v1 v2 v3 v4, ?_⟩
  rw [heap_setCell_other _ ⟨w.heap.size, 4, none⟩ _ _ hne, heap_setCell_other _ ⟨w.heap.size, 3, none⟩ _ _ hne, heap_setCell_other _ ⟨w.heap.size, 2, none⟩ _ _ hne, heap_setCell_other _ ⟨w.heap.size, 1, none⟩ _ _ hne, heap_setCell_other _ ⟨w.heap.size, 0, none⟩ _ _ hne]
  exact h.nmc
theorem getBW {w : World} {v u : Value} {cs : Array Value} {nm : ByteArray} {W : World} (h : W.cell? ⟨w.heap.size, 4, none⟩ = some v ∧ W.cell? ⟨w.heap.size + 1, 0, none⟩ = some u ∧ BW w cs nm W) : BW w cs nm W := h.2.2
theorem BW.all {w : World} {v0 v1 v2 v3 v4 : Value} {nm : ByteArray} {W : World} (h : BW w #[v0, v1, v2, v3, v4] nm W) : W.cell? ⟨w.heap.size, 4, none⟩ = some v4 ∧ W.cell? ⟨w.heap.size + 1, 0, none⟩ = some (.string nm) ∧ BW w #[v0, v1, v2, v3, v4] nm W :=
  ⟨cell_obj h.br.box 4, cell_obj h.nmc 0, h⟩
theorem bw_start (w : World) (v0 v1 v2 v3 v4 : Value) (nm : ByteArray) : BW w #[v0, v1, v2, v3, v4] nm (((w.alloc (.cells #[v0, v1, v2, v3, v4] 24)).alloc (.cells #[.string nm] 9)).alloc (.cells #[.int .i64 0, .int .i64 0, .string ⟨#[]⟩, .string ⟨#[]⟩, .slice none 0 0] 24)) := by
  have hb := below_one ((w.alloc (.cells #[v0, v1, v2, v3, v4] 24)).alloc (.cells #[.string nm] 9)) (.cells #[.int .i64 0, .int .i64 0, .string ⟨#[]⟩, .string ⟨#[]⟩, .slice none 0 0] 24)
  have hb0 := ((Below.refl _ w).alloc (Nat.le_refl _) (.cells #[v0, v1, v2, v3, v4] 24)).alloc (by simp) (.cells #[.string nm] 9)
  have h2 := heap_alloc_new ((w.alloc (.cells #[v0, v1, v2, v3, v4] 24)).alloc (.cells #[.string nm] 9)) (.cells #[.int .i64 0, .int .i64 0, .string ⟨#[]⟩, .string ⟨#[]⟩, .slice none 0 0] 24)
  rw [show ((w.alloc (.cells #[v0, v1, v2, v3, v4] 24)).alloc (.cells #[.string nm] 9)).heap.size = w.heap.size + 2 from by simp] at h2
  exact ⟨⟨(hb.block _ (lt_of_obj (two0 w _ _))).trans (two0 _ _ _), h2, ⟨Nat.le_refl _, by omega, by omega⟩, hb0.trans (hb.mono hb0.size)⟩, (hb.block _ (lt_of_obj (two1 w _ _))).trans (two1 _ _ _)⟩
theorem ne_own {b : Nat} {ao : Option Addr} {n c : Nat} {l : List En} {w : World} (h : Own b (.slice ao n c) l w) : some w.heap.size ≠ (Value.slice ao n c).ownBlock := fun e => by
  have := (World.ownsRow.lt h _ e.symm).2
  omega
/-- With, closed: where the entry stands. -/
theorem withE_name {m : Int} {d t : ByteArray} {l : List En} {nm : ByteArray} {i : Int} (h : Nm.right nm.data.toList = false) : Nd.withE less Nm.right ⟨2, m, d, t, l⟩ nm i = (Nd.none0, 14) := by
  unfold Nd.withE; rw [if_neg (by simp), if_pos (show Nm.right (Nd.bs nm) = false from h)]
theorem withE_there {m : Int} {d t : ByteArray} {l : List En} {nm : ByteArray} {i : Int} (h : Nm.right nm.data.toList = true) (h2 : (Nd.find l nm).isSome = true) : Nd.withE less Nm.right ⟨2, m, d, t, l⟩ nm i = (Nd.none0, 5) := by
  unfold Nd.withE; rw [if_neg (by simp), if_neg (by show ¬ Nm.right nm.data.toList = false; rw [h]; simp), if_pos h2]
theorem withE_long {m : Int} {d t : ByteArray} {l : List En} {nm : ByteArray} {i : Int} (h : Nm.right nm.data.toList = true) (h2 : (Nd.find l nm).isSome = false) (h3 : 64 ≤ l.length) : Nd.withE less Nm.right ⟨2, m, d, t, l⟩ nm i = (Nd.none0, 3) := by
  unfold Nd.withE; rw [if_neg (by simp), if_neg (by show ¬ Nm.right nm.data.toList = false; rw [h]; simp), if_neg (by rw [h2]; simp), if_pos h3]
theorem withE_yes {m : Int} {d t : ByteArray} {l : List En} {nm : ByteArray} {i : Int} (h : Nm.right nm.data.toList = true) (h2 : (Nd.find l nm).isSome = false) (h3 : ¬ 64 ≤ l.length) : Nd.withE less Nm.right ⟨2, m, d, t, l⟩ nm i = (⟨2, m, d, t, l.take (Nd.place (notLs nm) l) ++ (nm, i) :: l.drop (Nd.place (notLs nm) l)⟩, 0) := by
  unfold Nd.withE; rw [if_neg (by simp), if_neg (by show ¬ Nm.right nm.data.toList = false; rw [h]; simp), if_neg (by rw [h2]; simp), if_neg h3]
  show (Nd.Node.mk 2 m d t (Nd.ins less l nm i), (0 : Int)) = _
  rw [Nd.ins_place]; rfl
end Go.Proofs.Yteieehjggiiljaa
