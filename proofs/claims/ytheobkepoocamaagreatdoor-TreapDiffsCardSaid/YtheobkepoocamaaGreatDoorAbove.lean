/- The method above: what a key carries on top of two trees. -/
import Derived.Test.YtheobkepoocamaaGreatDoorLook
import Derived.Test.YtheobkepoocamaaGreatDoorSum
namespace Go.Proofs.YtheobkepoocamaaGreatDoor
set_option maxRecDepth 100000
open Go.RowKit Go.Less Sha
theorem IOk.lt {w : World} (h : IOk w) : 1 < w.heap.size := by
  have := h 0 (by omega)
  rcases Nat.lt_or_ge 1 w.heap.size with h1 | h1
  · exact h1
  · simp [World.cell?, Array.getElem?_eq_none h1] at this
theorem IOk.below {w w' : World} (h : IOk w) (hb : Below w.heap.size w w') : IOk w' := fun j hj => (hb.cell (p := ⟨1, j, none⟩) h.lt).trans (h j hj)
/-- The program's tables lie where it has them. -/
structure Dg (w : World) : Prop where
  k : KOk w
  i : IOk w
theorem Dg.below {w w' : World} (h : Dg w) (hb : Below w.heap.size w w') : Dg w' := ⟨h.k.below hb, h.i.below hb⟩
theorem cell_alloc (w : World) (cs : Array Value) (t : TypeId) (j : Nat) : (w.alloc (.cells cs t)).cell? ⟨w.heap.size, j, none⟩ = cs[j]? := World.cell?_alloc_new w cs t j
theorem size_data (d : ByteArray) : d.data.toList.length = d.size := Array.length_toList
/-- The name of a tree is made. -/
theorem join_four (k v a b : ByteArray) (w : World) (g : Nat) (hg : g = w.heap.size) (hD : Dg w) (hk : k.size ≤ 100) (hv : v.size ≤ 200) (ha : a.size ≤ 32) (hb : b.size ≤ 32) :
    Calls Tryz.prog 63 #[bv 1, .slice (some ⟨g, 0, none⟩) 4 4] (w.alloc (.cells #[.string k, .string v, .string a, .string b] 9)) fun e w' => e = .returned (.string (jn k v a b)) ∧ Below w.heap.size w w' := by
  subst hg
  have hB := below_one w (.cells #[.string k, .string v, .string a, .string b] 9)
  have hS : Strs (some ⟨w.heap.size, 0, none⟩) 4 [k, v, a, b] (w.alloc (.cells #[.string k, .string v, .string a, .string b] 9)) :=
    ⟨rfl, fun i hi => ⟨w.heap.size, 0, rfl, by
      rw [Nat.zero_add, cell_alloc]
      match i, hi with
      | 0, _ => rfl
      | 1, _ => rfl
      | 2, _ => rfl
      | 3, _ => rfl⟩⟩
  refine (join_any 1 (some ⟨w.heap.size, 0, none⟩) 4 4 [k, v, a, b] _ (hD.k.below hB) (hD.i.below hB) hS ?_ (by omega)).mono ?_
  · simp only [joined, List.flatMap_cons, List.flatMap_nil, List.length_append, num_length, size_data, List.length_nil]; omega
  · rintro e w' ⟨rfl, h⟩
    exact ⟨rfl, hB.trans (h.mono hB.size)⟩
/-- A key's rank is made. -/
theorem join_rank (k : ByteArray) (w : World) (g : Nat) (hg : g = w.heap.size) (hD : Dg w) (hk : k.size ≤ 100) :
    Calls Tryz.prog 63 #[bv 2, .slice (some ⟨g, 0, none⟩) 1 1] (w.alloc (.cells #[.string k] 9)) fun e w' => e = .returned (.string (rk k)) ∧ Below w.heap.size w w' := by
  subst hg
  have hB := below_one w (.cells #[.string k] 9)
  have hS : Strs (some ⟨w.heap.size, 0, none⟩) 1 [k] (w.alloc (.cells #[.string k] 9)) :=
    ⟨rfl, fun i hi => ⟨w.heap.size, 0, rfl, by
      rw [Nat.zero_add, cell_alloc]
      match i, hi with
      | 0, _ => rfl⟩⟩
  refine (join_any 2 (some ⟨w.heap.size, 0, none⟩) 1 1 [k] _ (hD.k.below hB) (hD.i.below hB) hS ?_ (by omega)).mono ?_
  · simp only [joined, List.flatMap_cons, List.flatMap_nil, List.length_append, num_length, size_data, List.length_nil]; omega
  · rintro e w' ⟨rfl, h⟩
    exact ⟨rfl, hB.trans (h.mono hB.size)⟩
def vl : Tt → ByteArray
  | .leaf => ⟨#[]⟩
  | .node _ _ v _ => v
theorem ld_eq (t : Tt) : ld t = .agg #[.string (vl t), .string (nm t), .int .i64 ((Tr.T.len t : Nat) : Int)] := by cases t <;> rfl
set_option maxHeartbeats 1000000 in
theorem above_any (v n0 : ByteArray) (c0 : Int) (k : ByteArray) (l r : Tt) (w : World) (hD : Dg w) (hk : k.size ≤ 100) (hv : v.size ≤ 200) (hl : l.len ≤ 1000000) (hr : r.len ≤ 1000000) :
    Calls Tryz.prog 122 #[.agg #[.string v, .string n0, .int .i64 c0], .string k, ld l, ld r] w fun e w' => e = .returned (ld (.node l k v r)) ∧ Below w.heap.size w w' := by
  rw [ld_eq l, ld_eq r, ld_eq (.node l k v r), nm_node]
  rw [show vl (.node l k v r) = v from rfl]
  have HN := Lib.hid (show (((Tr.T.node l k v r).len : Nat) : Int) = (l.len : Int) + 1 + (r.len : Int) by simp only [Tr.T.len]; omega)
  have HJ := Lib.hid (fun W g hg (hD : Dg W) => join_four k v (nm l) (nm r) W g hg hD hk hv (nm_size l) (nm_size r))
  rw [HN.out]
  generalize l.len = cl at *
  generalize r.len = cr at *
  generalize nm l = nl at *
  generalize nm r = nr at *
  generalize vl l = a1 at *
  generalize vl r = a2 at *
  have hz := zero51
  have HD := Lib.hid hD
  clear hD HN
  generalize jn k v nl nr = nn at *
  go_enter Tryz.func122, Tryz.ntmps122
  go_wp2_with fail
  have hB := (((below_one w (.cells #[.string v, .string n0, .int .i64 c0] 51)).alloc (by simp) (.cells #[.string a1, .string nl, .int .i64 (cl : Int)] 51)).alloc (by simp; omega) (.cells #[.string a2, .string nr, .int .i64 (cr : Int)] 51)).alloc (by simp; omega) (.cells #[.string ⟨#[]⟩, .string ⟨#[]⟩, .int .i64 0] 51)
  refine (HJ.out _ _ (by simp) (HD.out.below hB)).mono ?_
  rintro e w1 ⟨rfl, hw1⟩
  have q := fun b o h => hw1.cell (p := ⟨b, o, none⟩) h
  have f := fun b o h => hw1.frozen (p := ⟨b, o, none⟩) h
  have c00 := (q w.heap.size 0 (by simp; omega)).trans (c := some (.string v)) (by go_simp)
  have c01 := (q w.heap.size 1 (by simp; omega)).trans (c := some (.string n0)) (by go_simp)
  have c02 := (q w.heap.size 2 (by simp; omega)).trans (c := some (.int .i64 c0)) (by go_simp)
  have c12 := (q (w.heap.size + 1) 2 (by simp)).trans (c := some (.int .i64 (cl : Int))) (by go_simp)
  have c22 := (q (w.heap.size + 1 + 1) 2 (by simp)).trans (c := some (.int .i64 (cr : Int))) (by go_simp)
  have c30 := (q (w.heap.size + 1 + 1 + 1) 0 (by simp)).trans (c := some (.string ⟨#[]⟩)) (by go_simp)
  have c31 := (q (w.heap.size + 1 + 1 + 1) 1 (by simp)).trans (c := some (.string ⟨#[]⟩)) (by go_simp)
  have c32 := (q (w.heap.size + 1 + 1 + 1) 2 (by simp)).trans (c := some (.int .i64 0)) (by go_simp)
  have f0 := fun o => (f w.heap.size o (by simp; omega)).trans (c := false) (by go_simp)
  have f3 := fun o => (f (w.heap.size + 1 + 1 + 1) o (by simp)).trans (c := false) (by go_simp)
  clear q f
  dsimp only
  have HB := Lib.hid (hB.trans (hw1.mono hB.size))
  go_wp2_with fail
  refine bodyPost_ret (v := .agg #[.string v, .string nn, .int .i64 ((cl : Int) + 1 + (cr : Int))]) (by simp [results, Tryz.results122, go_sem, c30, c31, c32]) rfl ⟨rfl, ?_⟩
  exact ((((HB.out.setCell (Nat.le_refl _) _).setCell (Nat.le_refl _) _).setCell (by simp; omega) _).setCell (by simp; omega) _).setCell (by simp; omega) _
end Go.Proofs.YtheobkepoocamaaGreatDoor
