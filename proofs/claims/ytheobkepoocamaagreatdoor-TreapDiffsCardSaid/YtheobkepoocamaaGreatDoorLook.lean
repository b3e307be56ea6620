/- treeOf, mapOf, ahead, find, loadOf. -/
import Derived.Test.YtheobkepoocamaaGreatDoorMem
namespace Go.Proofs.YtheobkepoocamaaGreatDoor
set_option maxRecDepth 100000
open Go.RowKit Go.Less
attribute [local go_sem 9000] sem_eql sem_neq sem_lss sem_leq sem_gtr sem_geq
/-- A pointer to a tree is answered, nothing turned. -/
def Points (t : Tt) (w : World) (e : Ending) (w' : World) : Prop := ∃ p, e = .returned (pv p) ∧ Tree w p t ∧ w = w'
set_option maxHeartbeats 400000 in
theorem treeOf_any {w : World} {m : Option Nat} {t : Tt} (h : IsMap w m t) : Calls Tryz.prog 21 #[pv m] w (Points t w) := by
  cases m with
  | none =>
    show Calls Tryz.prog 21 #[.pointer none] w _
    go_enter Tryz.func21, Tryz.ntmps21
    go_wp2_with fail
    go_ret
    exact ⟨none, rfl, h.symm ▸ rfl, rfl⟩
  | some b =>
    obtain ⟨p, h1, h2⟩ := h
    have c0 : w.cell? ⟨b, 0, none⟩ = some (pv p) := by simp [World.cell?, h1]
    have H := Lib.hid h2
    clear h1 h2
    show Calls Tryz.prog 21 #[.pointer (some ⟨b, 0, none⟩)] w _
    go_enter Tryz.func21, Tryz.ntmps21
    go_wp2_with fail
    go_ret
    exact ⟨p, rfl, H.out, rfl⟩
set_option maxHeartbeats 400000 in
/-- The map of no keys is nil. -/
theorem mapOf_any {w : World} {p : Option Nat} {t : Tt} (h : Tree w p t) : Calls Tryz.prog 30 #[pv p] w fun e w' => ∃ m, e = .returned (pv m) ∧ IsMap w' m t ∧ Below w.heap.size w w' := by
  cases p with
  | none =>
    obtain rfl := tree_none h
    show Calls Tryz.prog 30 #[.pointer none] w _
    go_enter Tryz.func30, Tryz.ntmps30
    go_wp2_with fail
    go_ret
    exact ⟨none, rfl, rfl, Below.refl _ _⟩
  | some b =>
    have H := Lib.hid h
    clear h
    show Calls Tryz.prog 30 #[.pointer (some ⟨b, 0, none⟩)] w _
    have hb : ∀ w : World, (Instr.build 75 #[(0, .pointer (some ⟨b, 0, none⟩))]).run Tryz.prog w = .ok (.agg #[.pointer (some ⟨b, 0, none⟩)]) w := fun _ => by kernel_rfl
    go_enter Tryz.func30, Tryz.ntmps30
    go_wp2_with fail
    go_ret
    have hw := below_one w (.cells #[.pointer (some ⟨b, 0, none⟩)] 75)
    exact ⟨some w.heap.size, rfl, ⟨some b, heap_alloc_new w _, H.out.below hw⟩, hw⟩
/-- What a tree's top carries. -/
def ld : Tt → Value
  | .leaf => .agg #[.string ⟨#[]⟩, .string ⟨#[]⟩, .int .i64 0]
  | .node l k v r => .agg #[.string v, .string (nm (.node l k v r)), .int .i64 ((Tr.T.len (.node l k v r) : Nat) : Int)]
theorem zero51 : ∀ w : World, (zeroValue 51).run Tryz.prog w = .ok (.agg #[.string ⟨#[]⟩, .string ⟨#[]⟩, .int .i64 0]) w := fun _ => by kernel_rfl
set_option maxHeartbeats 400000 in
theorem loadOf_any {w : World} {p : Option Nat} {t : Tt} (h : Tree w p t) : Calls Tryz.prog 38 #[pv p] w fun e w' => e = .returned (ld t) ∧ Below w.heap.size w w' := by
  have hz := zero51
  cases t with
  | leaf =>
    obtain rfl : p = none := h
    show Calls Tryz.prog 38 #[.pointer none] w _
    go_enter Tryz.func38, Tryz.ntmps38
    go_wp2_with fail
    refine bodyPost_ret (v := ld .leaf) (by simp [results, Tryz.results38, go_sem, ld]) rfl ⟨rfl, ?_⟩
    exact (below_one w _).alloc (by simp) _
  | node l k v r =>
    obtain ⟨b, pl, pr, rfl, hN⟩ := tree_node h
    have c2 := hN.c2
    have c3 := hN.c3
    have c4 := hN.c4
    have hlt := hN.lt
    clear hN h
    show Calls Tryz.prog 38 #[.pointer (some ⟨b, 0, none⟩)] w _
    go_enter Tryz.func38, Tryz.ntmps38
    go_wp2_with fail
    refine bodyPost_ret (v := ld (.node l k v r)) (by simp [results, Tryz.results38, go_sem, ld]) rfl ⟨rfl, ?_⟩
    exact below_one w _
/-- Does a key stand above another one? -/
def ahd (a b : ByteArray) : Bool := Tr.ahead less less rk a b
theorem ahd_alike {a b : ByteArray} (h : alike (rk a) (rk b) = true) : ahd a b = less a b := by
  unfold ahd Tr.ahead; rw [if_pos (alike_eq.1 h)]
theorem ahd_unlike {a b : ByteArray} (h : alike (rk a) (rk b) = false) : ahd a b = less (rk b) (rk a) := by
  unfold ahd Tr.ahead
  rw [if_neg (fun e => by rw [alike_eq.2 e] at h; cases h)]
theorem bdn {B : Nat} {w w1 : World} (h : Below B w w1) (n : Nat) : Below B w (w1.drewN n) := by
  induction n with
  | zero => exact h
  | succ n ih => exact ih.drew
set_option maxHeartbeats 400000 in
theorem ahead_any {w : World} {b b' : Nat} {l r l' r' : Tt} {k v k' v' : ByteArray} {pl pr pl' pr' : Option Nat} (hN : Node w b l k v r pl pr) (hN' : Node w b' l' k' v' r' pl' pr') :
    Calls Tryz.prog 43 #[.pointer (some ⟨b, 0, none⟩), .pointer (some ⟨b', 0, none⟩)] w fun e w' => e = .returned (.bool (ahd k k')) ∧ Below w.heap.size w w' := by
  have c0 := hN.c0
  have c1 := hN.c1
  have c0' := hN'.c0
  have c1' := hN'.c1
  clear hN hN'
  cases hr : alike (rk k) (rk k')
  · have HA := Lib.hid (ahd_unlike hr)
    go_enter Tryz.func43, Tryz.ntmps43
    go_wp2_with fail
    go_quiet (fail)
    go_wp2_with fail
    go_quiet (fail)
    go_wp2_with fail
    go_ret
    exact ⟨by rw [HA.out]; rfl, bdn (bdn (Below.refl _ _) _) _⟩
  · have HA := Lib.hid (ahd_alike hr)
    go_enter Tryz.func43, Tryz.ntmps43
    go_wp2_with fail
    go_quiet (fail)
    go_wp2_with fail
    go_quiet (fail)
    go_wp2_with fail
    go_ret
    exact ⟨by rw [HA.out]; rfl, bdn (bdn (Below.refl _ _) _) _⟩
theorem find_here {l r : Tt} {k v x : ByteArray} (h : alike k x = true) : (Tr.T.node l k v r).find less x = .node l k v r := by unfold Tr.T.find; rw [if_pos (alike_eq.1 h)]
theorem find_left {l r : Tt} {k v x : ByteArray} (h : alike k x = false) (h2 : less x k = true) : (Tr.T.node l k v r).find less x = l.find less x := by
  conv => lhs; unfold Tr.T.find
  rw [if_neg (fun e => by rw [alike_eq.2 e] at h; cases h), if_pos h2]
theorem find_right {l r : Tt} {k v x : ByteArray} (h : alike k x = false) (h2 : less x k = false) : (Tr.T.node l k v r).find less x = r.find less x := by
  conv => lhs; unfold Tr.T.find
  rw [if_neg (fun e => by rw [alike_eq.2 e] at h; cases h), if_neg (by simp [h2])]
set_option maxHeartbeats 1000000 in
theorem find_any {w : World} {p : Option Nat} {t : Tt} (h : Tree w p t) (x : ByteArray) : Calls Tryz.prog 23 #[pv p, .string x] w (Points (t.find less x) w) := by
  have HT := Lib.hid h
  go_enter Tryz.func23, Tryz.ntmps23
  go_wp2_with fail
  go_loopg [0] t.len (fun g p' wr => w = wr ∧ ∃ (q : Option Nat) (u : Tt), p' = pv q ∧ Tree w q u ∧ u.len = g ∧ u.find less x = t.find less x)
  case atStart => exact ⟨rfl, p, t, rfl, HT.out, rfl, rfl⟩
  case round =>
    obtain ⟨rfl, q, u, rfl, hu, hg, hf⟩ := hrel
    have HF := Lib.hid hf
    clear hf h
    cases u with
    | leaf =>
      obtain rfl : q = none := hu
      have HL := Lib.hid (show Tr.T.find less (.leaf : Tt) x = .leaf from rfl)
      clear hg
      simp only [pv, ap]
      go_wp2_with fail
      go_ret
      exact ⟨none, rfl, by rw [← HF.out]; rfl, rfl⟩
    | node l k v r =>
      obtain ⟨b, pl, pr, rfl, hN⟩ := tree_node hu
      have HN := Lib.hid hN
      have HG := Lib.hid hg
      have c0 := hN.c0
      have c5 := hN.c5
      have c6 := hN.c6
      clear hN hu hg
      simp only [pv, ap]
      cases hx : alike k x
      · cases hl : less x k
        · have HR := Lib.hid (find_right (l := l) (r := r) (v := v) hx hl)
          go_wp2_with fail
          go_roundg r.len
          case rel => exact ⟨rfl, pr, r, rfl, HN.out.right, rfl, HR.out.symm.trans HF.out⟩
          case measure => have := HG.out; simp only [Tr.T.len] at this; omega
        · have HR := Lib.hid (find_left (l := l) (r := r) (v := v) hx hl)
          go_wp2_with fail
          go_roundg l.len
          case rel => exact ⟨rfl, pl, l, rfl, HN.out.left, rfl, HR.out.symm.trans HF.out⟩
          case measure => have := HG.out; simp only [Tr.T.len] at this; omega
      · have HR := Lib.hid (find_here (l := l) (r := r) (v := v) hx)
        go_wp2_with fail
        go_ret
        exact ⟨some b, rfl, by rw [← HF.out, HR.out]; exact HN.out.tree, rfl⟩
end Go.Proofs.YtheobkepoocamaaGreatDoor
