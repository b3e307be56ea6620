/- Layer 11, a part of the proofs: no statement of its own. -/
import Derived.ScopeJumps
import Derived.Test.YthehblmjloohiaaGreatDoorM14
namespace Go.Proofs.YthehblmjloohiaaGreatDoor
set_option maxRecDepth 100000
open Go.RowKit
attribute [local go_sem 9000] sem_stralike sem_strnot
theorem hasTwo_all (s : ByteArray) : (s.data.toList.all fun x => x != 47 && x != 0) = !hasTwo s := by
 unfold hasTwo
 induction s.data.toList with
 | nil => rfl
 | cons x l ih =>
  rw [List.all_cons, List.any_cons, ih]
  have h : (x != 47 && x != 0) = !two x.toNat := by
   have h : ∀ k : Fin 256, (UInt8.ofNat k.val != 47 && UInt8.ofNat k.val != 0) = !two (UInt8.ofNat k.val).toNat := by decide +kernel
   have := h ⟨x.toNat, x.toNat_lt⟩
   simpa using this
  rw [h, Bool.not_or]
theorem rightly_is (s : ByteArray) (h1 : talike s ⟨#[]⟩ = false) (h2 : s.size ≤ 16) (h3 : talike s ⟨#[46]⟩ = false) (h4 : talike s ⟨#[46, 46]⟩ = false) : Nm.right s.data.toList = !hasTwo s := by
 have hne : ∀ l : List UInt8, talike s ⟨l.toArray⟩ = false → s.data.toList ≠ l := fun l h e => by
  unfold talike at h
  have h := of_decide_eq_false h
  exact h (Go.WideShapes.bytes_inj e)
 have hl : s.data.toList.length = s.size := Array.length_toList
 unfold Nm.right
 rw [hasTwo_all, hl]
 have e1 : decide (1 ≤ s.size) = true := decide_eq_true (by
  have := hne [] h1
  rcases Nat.eq_zero_or_pos s.size with h | h
  ·exact absurd (List.eq_nil_of_length_eq_zero (hl.trans h)) this
  ·exact h)
 have e2 : decide (s.size ≤ 16) = true := decide_eq_true h2
 have e3 : (s.data.toList != [46]) = true := bne_iff_ne.2 (hne [46] h3)
 have e4 : (s.data.toList != [46, 46]) = true := bne_iff_ne.2 (hne [46, 46] h4)
 rw [e1, e2, e3, e4]
 simp
theorem rightly_no (s : ByteArray) (h : talike s ⟨#[]⟩ = true ∨ 16 < s.size ∨ talike s ⟨#[46]⟩ = true ∨ talike s ⟨#[46, 46]⟩ = true) : Nm.right s.data.toList = false := by
 have he : ∀ t, talike s t = true → s = t := fun t h => of_decide_eq_true h
 rcases h with h | h | h | h
 ·rw [he _ h]; rfl
 ·have hl : s.data.toList.length = s.size := Array.length_toList
  unfold Nm.right
  rw [hl, show decide (s.size ≤ 16) = false from decide_eq_false (by omega)]
  simp
 ·rw [he _ h]; decide
 ·rw [he _ h]; decide
theorem right_any (s : ByteArray) (w : World) (hs : s.size ≤ 140737488355328) : Calls Tryz.prog 172 #[.string s] w fun e w' => e = .returned (.bool (Nm.right s.data.toList)) ∧ Below w.heap.size w w' := by
 have hsi : (s.size : Int) ≤ 140737488355328 := by omega
 have HN := Lib.hid (rightly_no s)
 have HY := Lib.hid (rightly_is s)
 generalize hR : Nm.right s.data.toList = R at *
 clear hR
 cases h1 : talike s ⟨#[]⟩ with
 | true =>
  obtain rfl := HN.out (.inl h1)
  clear HN HY
  go_enter Tryz.func172, Tryz.ntmps172
  go_wp2_with fail
  go_ret
  exact ⟨rfl, Below.refl _ _⟩
 | false =>
  by_cases h2 : s.size ≤ 16
  ·have h2i : ¬ (16 : Int) < (s.size : Int) := by omega
   cases h3 : talike s ⟨#[46]⟩ with
   | true =>
    obtain rfl := HN.out (.inr (.inr (.inl h3)))
    clear HN HY
    go_enter Tryz.func172, Tryz.ntmps172
    go_wp2_with fail
    go_ret
    exact ⟨rfl, Below.refl _ _⟩
   | false =>
    cases h4 : talike s ⟨#[46, 46]⟩ with
    | true =>
     obtain rfl := HN.out (.inr (.inr (.inr h4)))
     clear HN HY
     go_enter Tryz.func172, Tryz.ntmps172
     go_wp2_with fail
     go_ret
     exact ⟨rfl, Below.refl _ _⟩
    | false =>
     obtain rfl := HY.out h1 h2 h3 h4
     have HC := Lib.hid (contains_any s w (by omega))
     clear HN HY
     go_enter Tryz.func172, Tryz.ntmps172
     go_wp2_with fail
     refine HC.out.mono ?_
     rintro e w1 ⟨rfl, hB⟩
     dsimp only
     go_wp2_with fail
     go_ret
     exact ⟨rfl, hB⟩
  ·have h2i : (16 : Int) < (s.size : Int) := by omega
   obtain rfl := HN.out (.inr (.inl (by omega)))
   clear HN HY
   go_enter Tryz.func172, Tryz.ntmps172
   go_wp2_with fail
   go_ret
   exact ⟨rfl, Below.refl _ _⟩
end Go.Proofs.YthehblmjloohiaaGreatDoor

namespace Go.Proofs.YthehblmjloohiaaGreatDoor
set_option maxRecDepth 100000
open Go.RowKit Go.Less
attribute [local go_sem 9000] sem_eql sem_neq sem_lss sem_leq sem_gtr sem_geq
theorem rightName_any (s : ByteArray) (w : World) (hs : s.size ≤ 140737488355328) : Calls Tryz.prog 181 #[.string s] w fun e w' => e = .returned (.bool (Nm.right s.data.toList)) ∧ Below w.heap.size w w' := by
 go_enter Tryz.func181, Tryz.ntmps181
 go_wp2_with fail
 refine (right_any s _ hs).mono ?_
 rintro e w1 ⟨rfl, hB⟩
 dsimp only
 go_wp2_with fail
 go_ret
 exact ⟨rfl, hB⟩
structure BW (w : World) (cs : Array Value) (nm : ByteArray) (W : World) : Prop where
 br : BR w w.heap.size (w.heap.size + 2) cs W
 nmc : W.heap[w.heap.size + 1]? = some (.cells #[.string nm] 9 (0, 0))
theorem BW.kept {w : World} {cs : Array Value} {nm : ByteArray} {W W' : World} (h : BW w cs nm W) (hb : Below W.heap.size W W') : BW w cs nm W' :=
 ⟨h.br.kept hb, (hb.block _ (lt_of_obj h.nmc)).trans h.nmc⟩
theorem BW.grown {w : World} {cs : Array Value} {nm : ByteArray} {W W' : World} {row : Option Nat} (h : BW w cs nm W) (hg : W.grownBy W' row) (hrow : ∀ k, row = some k → w.heap.size + 3 ≤ k) : BW w cs nm W' :=
 ⟨h.br.grown hg (fun k hk => by have := hrow k hk; exact ⟨by omega, by omega, by omega⟩), grown_obj hg h.nmc (fun e => by have := hrow _ e.symm; omega)⟩
theorem BW.set4 {w : World} {v0 v1 v2 v3 v4 : Value} {nm : ByteArray} {W : World} (h : BW w #[v0, v1, v2, v3, v4] nm W) (v : Value) : BW w #[v0, v1, v2, v3, v] nm (W.setCell ⟨w.heap.size, 4, none⟩ v) :=
 ⟨h.br.set4 v, by rw [heap_setCell_other W ⟨w.heap.size, 4, none⟩ (w.heap.size + 1) _ (by show w.heap.size + 1 ≠ w.heap.size; omega)]; exact h.nmc⟩
theorem BW.set5 {w : World} {x0 x1 x2 x3 x4 : Value} {nm : ByteArray} {W : World} (h : BW w #[x0, x1, x2, x3, x4] nm W) (v0 v1 v2 v3 v4 : Value) :
  BW w #[v0, v1, v2, v3, v4] nm (((((W.setCell ⟨w.heap.size, 0, none⟩ v0).setCell ⟨w.heap.size, 1, none⟩ v1).setCell ⟨w.heap.size, 2, none⟩ v2).setCell ⟨w.heap.size, 3, none⟩ v3).setCell ⟨w.heap.size, 4, none⟩ v4) := by
 have hne : w.heap.size + 1 ≠ w.heap.size := by omega
 refine ⟨h.br.set5 v0 v1 v2 v3 v4, ?_⟩
 rw [heap_setCell_other _ ⟨w.heap.size, 4, none⟩ _ _ hne, heap_setCell_other _ ⟨w.heap.size, 3, none⟩ _ _ hne, heap_setCell_other _ ⟨w.heap.size, 2, none⟩ _ _ hne, heap_setCell_other _ ⟨w.heap.size, 1, none⟩ _ _ hne, heap_setCell_other _ ⟨w.heap.size, 0, none⟩ _ _ hne]
 exact h.nmc
theorem getBW {w : World} {v u : Value} {cs : Array Value} {nm : ByteArray} {W : World} (h : W.cell? ⟨w.heap.size, 4, none⟩ = some v ∧ W.cell? ⟨w.heap.size + 1, 0, none⟩ = some u ∧ BW w cs nm W) : BW w cs nm W := h.2.2
theorem BW.all {w : World} {v0 v1 v2 v3 v4 : Value} {nm : ByteArray} {W : World} (h : BW w #[v0, v1, v2, v3, v4] nm W) : W.cell? ⟨w.heap.size, 4, none⟩ = some v4 ∧ W.cell? ⟨w.heap.size + 1, 0, none⟩ = some (.string nm) ∧ BW w #[v0, v1, v2, v3, v4] nm W :=
 ⟨cell_obj h.br.box 4, cell_obj h.nmc 0, h⟩
theorem bw_start (w : World) (v0 v1 v2 v3 v4 : Value) (nm : ByteArray) : BW w #[v0, v1, v2, v3, v4] nm (((w.alloc (.cells #[v0, v1, v2, v3, v4] 43)).alloc (.cells #[.string nm] 9)).alloc (.cells #[.int .i64 0, .int .i64 0, .string ⟨#[]⟩, .string ⟨#[]⟩, .slice none 0 0] 43)) := by
 have hb := below_one ((w.alloc (.cells #[v0, v1, v2, v3, v4] 43)).alloc (.cells #[.string nm] 9)) (.cells #[.int .i64 0, .int .i64 0, .string ⟨#[]⟩, .string ⟨#[]⟩, .slice none 0 0] 43)
 have hb0 := ((Below.refl _ w).alloc (Nat.le_refl _) (.cells #[v0, v1, v2, v3, v4] 43)).alloc (by simp) (.cells #[.string nm] 9)
 have h2 := heap_alloc_new ((w.alloc (.cells #[v0, v1, v2, v3, v4] 43)).alloc (.cells #[.string nm] 9)) (.cells #[.int .i64 0, .int .i64 0, .string ⟨#[]⟩, .string ⟨#[]⟩, .slice none 0 0] 43)
 rw [show ((w.alloc (.cells #[v0, v1, v2, v3, v4] 43)).alloc (.cells #[.string nm] 9)).heap.size = w.heap.size + 2 from by simp] at h2
 exact ⟨⟨(hb.block _ (lt_of_obj (two0 w _ _))).trans (two0 _ _ _), h2, ⟨Nat.le_refl _, by omega, by omega⟩, hb0.trans (hb.mono hb0.size)⟩, (hb.block _ (lt_of_obj (two1 w _ _))).trans (two1 _ _ _)⟩
theorem ne_own {b : Nat} {ao : Option Addr} {n c : Nat} {l : List En} {w : World} (h : Own b (.slice ao n c) l w) : some w.heap.size ≠ (Value.slice ao n c).ownBlock := fun e => by
 have := (World.ownsRow.lt h _ e.symm).2
 omega
theorem withE_name {m : Int} {d t : ByteArray} {l : List En} {nm : ByteArray} {i : Int} (h : Nm.right nm.data.toList = false) : Nd.withE less Nm.right ⟨2, m, d, t, l⟩ nm i = (Nd.none0, 14) := by
 unfold Nd.withE; rw [if_neg (by simp), if_pos (show Nm.right (Nd.bs nm) = false from h)]
theorem withE_there {m : Int} {d t : ByteArray} {l : List En} {nm : ByteArray} {i : Int} (h : Nm.right nm.data.toList = true) (h2 : (Nd.find l nm).isSome = true) : Nd.withE less Nm.right ⟨2, m, d, t, l⟩ nm i = (Nd.none0, 5) := by
 unfold Nd.withE; rw [if_neg (by simp), if_neg (by show ¬ Nm.right nm.data.toList = false; rw [h]; simp), if_pos h2]
theorem withE_long {m : Int} {d t : ByteArray} {l : List En} {nm : ByteArray} {i : Int} (h : Nm.right nm.data.toList = true) (h2 : (Nd.find l nm).isSome = false) (h3 : 64 ≤ l.length) : Nd.withE less Nm.right ⟨2, m, d, t, l⟩ nm i = (Nd.none0, 3) := by
 unfold Nd.withE; rw [if_neg (by simp), if_neg (by show ¬ Nm.right nm.data.toList = false; rw [h]; simp), if_neg (by rw [h2]; simp), if_pos h3]
theorem withE_yes {m : Int} {d t : ByteArray} {l : List En} {nm : ByteArray} {i : Int} (h : Nm.right nm.data.toList = true) (h2 : (Nd.find l nm).isSome = false) (h3 : ¬ 64 ≤ l.length) : Nd.withE less Nm.right ⟨2, m, d, t, l⟩ nm i = (⟨2, m, d, t, l.take (Nd.place (notLs nm) l) ++ (nm, i) :: l.drop (Nd.place (notLs nm) l)⟩, 0) := by
 unfold Nd.withE; rw [if_neg (by simp), if_neg (by show ¬ Nm.right nm.data.toList = false; rw [h]; simp), if_neg (by rw [h2]; simp), if_neg h3]
 show (Nd.Node.mk 2 m d t (Nd.ins less l nm i), (0 : Int)) = _
 rw [Nd.ins_place]; rfl
end Go.Proofs.YthehblmjloohiaaGreatDoor

namespace Go.Proofs.YthehblmjloohiaaGreatDoor
set_option maxRecDepth 100000
open Go.RowKit Go.Less
attribute [local go_sem 9000] sem_eql sem_neq sem_lss sem_leq sem_gtr sem_geq
def rte (l : List En) : Bool := decide (l.length ≤ 64) && ndg l
set_option maxHeartbeats 4000000 in
theorem rightEntries_any (a : Option Addr) (n cap : Nat) (l : List En) (w : World) (hE : Ents a n l w) (hn : n ≤ 1000000) (hs : ∀ j, j < n → (l.getD j z0).1.size ≤ 100000) :
  Calls Tryz.prog 153 #[.slice a n cap] w (Samed (rte l) w) := by
 have HNL := Lib.hid hE.count
 have hni : (n : Int) ≤ 1000000 := by omega
 have HE := Lib.hid (fun W (hb : Below w.heap.size w W) => hE.below hb)
 have HS := Lib.hid hs
 have HF := Lib.hid (show ∀ b W, rte l = b → Below w.heap.size w W → Samed (rte l) w (.returned (.bool b)) W from fun b W h hb => by rw [h]; exact ⟨rfl, hb⟩)
 clear hE hs
 by_cases e3 : 64 < n
 ·have HR := Lib.hid (show rte l = false by unfold rte; rw [decide_eq_false (p := l.length ≤ 64) (by have := HNL.out; omega)]; rfl)
  have e3i : (64 : Int) < (n : Int) := by omega
  clear e3
  go_enter Tryz.func153, Tryz.ntmps153
  go_wp2_with fail
  go_ret
  exact HF.out _ _ HR.out (Below.refl _ _)
 have HP2 := Lib.hid (show rte l = ndg l by unfold rte; rw [decide_eq_true (by have := HNL.out; omega)]; rfl)
 have e3i : ¬ (64 : Int) < (n : Int) := by omega
 clear e3
 go_enter Tryz.func153, Tryz.ntmps153
 go_wp2_with fail
 go_loopw [10] (fun i wr => (∃ j : Nat, j ≤ n ∧ i = .int .i64 j ∧ ndg (l.take j) = true) ∧ Below w.heap.size w wr) (fun i _ => n - (intOf i).toNat)
 case atStart => exact ⟨⟨0, Nat.zero_le _, rfl, rfl⟩, Below.refl _ _⟩
 case round =>
  obtain ⟨⟨j, hj, rfl, hg⟩, hb⟩ := hrel
  have HB := Lib.hid hb
  by_cases hlt : j < n
  ·have j0 : (j : Int) < (n : Int) := by omega
   have hj0 : (0 : Int) ≤ (j : Int) := by omega
   have hjl : j < l.length := by rw [← HNL.out]; exact hlt
   obtain ⟨b, off, rfl, c0, c1⟩ := (HE.out _ hb).cell j hlt
   have hsz := HS.out j hlt
   obtain ⟨x, hxe⟩ : ∃ x, x = l.getD j z0 := ⟨_, rfl⟩
   rw [← hxe] at c0 c1 hsz
   have HM := Lib.hid (fun ho ha => ndg_more hjl hg hxe ho ha)
   have HBad := Lib.hid (fun ho => ndg_bad hjl hxe ho)
   have HLow := Lib.hid (fun ha => ndg_low hjl hxe ha)
   have HAft := Lib.hid (fun h0 => after_succ hjl h0 x)
   have HRx := Lib.hid (fun W => rightName_any x.1 W (by omega))
   have HO := Lib.hid (nm_ok x)
   clear hxe hg hsz
   have HNw := Lib.hid (heap_alloc_new wr (oc x))
   have HBA := Lib.hid (show Below w.heap.size w (wr.alloc (oc x)) from hb.alloc hb.size _)
   cases hr : Nm.right x.1.data.toList
   ·rw [hr] at HRx HO
    have HR := Lib.hid (show rte l = false by rw [HP2.out, HBad.out (by rw [HO.out]; rfl)])
    clear HM HBad HLow HAft HO HP2 hr
    go_wp2_with fail
    refine (HRx.out _).mono ?_
    rintro e w2 ⟨rfl, hw2⟩
    have e0 : w2.cell? ⟨wr.heap.size, 0, none⟩ = some (.string x.1) := (hw2.cell (p := ⟨wr.heap.size, 0, none⟩) (lt_of_obj HNw.out)).trans (cell_obj HNw.out 0)
    have e1 : w2.cell? ⟨wr.heap.size, 1, none⟩ = some (.int .i64 x.2) := (hw2.cell (p := ⟨wr.heap.size, 1, none⟩) (lt_of_obj HNw.out)).trans (cell_obj HNw.out 1)
    have HB2 := Lib.hid (HBA.out.trans (hw2.mono HBA.out.size))
    clear hw2
    dsimp only
    go_wp2_with fail
    go_ret
    exact HF.out _ _ HR.out HB2.out
   rw [hr] at HRx HO
   clear hr
   by_cases i1 : x.2 < 1
   ·have HR := Lib.hid (show rte l = false by rw [HP2.out, HBad.out (by rw [HO.out, decide_eq_false (p := 1 ≤ x.2) (by omega)]; rfl)])
    clear HM HBad HLow HAft HO HP2
    go_wp2_with fail
    refine (HRx.out _).mono ?_
    rintro e w2 ⟨rfl, hw2⟩
    have e0 : w2.cell? ⟨wr.heap.size, 0, none⟩ = some (.string x.1) := (hw2.cell (p := ⟨wr.heap.size, 0, none⟩) (lt_of_obj HNw.out)).trans (cell_obj HNw.out 0)
    have e1 : w2.cell? ⟨wr.heap.size, 1, none⟩ = some (.int .i64 x.2) := (hw2.cell (p := ⟨wr.heap.size, 1, none⟩) (lt_of_obj HNw.out)).trans (cell_obj HNw.out 1)
    have HB2 := Lib.hid (HBA.out.trans (hw2.mono HBA.out.size))
    clear hw2
    dsimp only
    go_wp2_with fail
    go_ret
    exact HF.out _ _ HR.out HB2.out
   have d1 : decide (x.2 < 1) = false := decide_eq_false i1
   by_cases i2 : 2147483647 < x.2
   ·have d2 : decide (2147483647 < x.2) = true := decide_eq_true i2
    have HR := Lib.hid (show rte l = false by rw [HP2.out, HBad.out (by rw [HO.out, decide_eq_false (p := x.2 ≤ 2147483647) (by omega)]; simp)])
    clear HM HBad HLow HAft HO HP2
    go_wp2_with fail
    refine (HRx.out _).mono ?_
    rintro e w2 ⟨rfl, hw2⟩
    have e0 : w2.cell? ⟨wr.heap.size, 0, none⟩ = some (.string x.1) := (hw2.cell (p := ⟨wr.heap.size, 0, none⟩) (lt_of_obj HNw.out)).trans (cell_obj HNw.out 0)
    have e1 : w2.cell? ⟨wr.heap.size, 1, none⟩ = some (.int .i64 x.2) := (hw2.cell (p := ⟨wr.heap.size, 1, none⟩) (lt_of_obj HNw.out)).trans (cell_obj HNw.out 1)
    have HB2 := Lib.hid (HBA.out.trans (hw2.mono HBA.out.size))
    clear hw2
    dsimp only
    go_wp2_with fail
    go_ret
    exact HF.out _ _ HR.out HB2.out
   have HK := Lib.hid (show Nd.entOk Nm.right x = true by rw [HO.out, decide_eq_true (p := 1 ≤ x.2) (by omega), decide_eq_true (p := x.2 ≤ 2147483647) (by omega)]; rfl)
   have d2 : decide (2147483647 < x.2) = false := decide_eq_false i2
   clear HO HBad
   by_cases hj1 : j = 0
   ·have hjb : decide (0 < j) = false := decide_eq_false (by omega)
    have HG := Lib.hid (HM.out HK.out (by rw [hj1]; exact after_zero l x))
    clear HM HLow HAft HK hj1
    go_wp2_with fail
    refine (HRx.out _).mono ?_
    rintro e w2 ⟨rfl, hw2⟩
    have e0 : w2.cell? ⟨wr.heap.size, 0, none⟩ = some (.string x.1) := (hw2.cell (p := ⟨wr.heap.size, 0, none⟩) (lt_of_obj HNw.out)).trans (cell_obj HNw.out 0)
    have e1 : w2.cell? ⟨wr.heap.size, 1, none⟩ = some (.int .i64 x.2) := (hw2.cell (p := ⟨wr.heap.size, 1, none⟩) (lt_of_obj HNw.out)).trans (cell_obj HNw.out 1)
    have HB2 := Lib.hid (HBA.out.trans (hw2.mono HBA.out.size))
    clear hw2
    dsimp only
    go_wp2_with fail
    go_quiet (fail)
    go_wp2_with fail
    exact ⟨⟨⟨j + 1, by omega, by go_num, HG.out⟩, bdn HB2.out _⟩, by simp [intOf]; omega⟩
   obtain ⟨i, rfl⟩ : ∃ i, j = i + 1 := ⟨j - 1, by omega⟩
   obtain ⟨b', off', eb, p0, p1⟩ := (HE.out _ hb).cell i (by omega)
   obtain ⟨rfl, rfl⟩ : b' = b ∧ off' = off := by cases eb; exact ⟨rfl, rfl⟩
   have HA2 := Lib.hid (HAft.out (by omega))
   rw [show i + 1 - 1 = i from rfl] at HA2
   obtain ⟨y, hye⟩ : ∃ y, y = l.getD i z0 := ⟨_, rfl⟩
   rw [← hye] at p0 p1 HA2
   clear hye HAft eb hj1
   have hi0 : (0 : Int) ≤ (i : Int) := by omega
   have hin : (i : Int) < (n : Int) := by omega
   have hwr : IntKind.i64.wrap (i : Int) = (i : Int) := IntWalk.i64_in _ (by omega)
   have q0 : (wr.alloc (oc x)).cell? ⟨b', off' + i * 2, none⟩ = some (.string y.1) := (((Below.refl _ wr).alloc (Nat.le_refl _) _).cell (p := ⟨b', off' + i * 2, none⟩) (block_lt_of_cell p0)).trans p0
   cases hly : less y.1 x.1
   ·rw [hly] at HA2
    have HR := Lib.hid (show rte l = false by rw [HP2.out, HLow.out HA2.out])
    clear HM HLow HP2 HK HA2
    go_wp2_with fail
    refine (HRx.out _).mono ?_
    rintro e w2 ⟨rfl, hw2⟩
    have e0 : w2.cell? ⟨wr.heap.size, 0, none⟩ = some (.string x.1) := (hw2.cell (p := ⟨wr.heap.size, 0, none⟩) (lt_of_obj HNw.out)).trans (cell_obj HNw.out 0)
    have e1 : w2.cell? ⟨wr.heap.size, 1, none⟩ = some (.int .i64 x.2) := (hw2.cell (p := ⟨wr.heap.size, 1, none⟩) (lt_of_obj HNw.out)).trans (cell_obj HNw.out 1)
    have HB2 := Lib.hid (HBA.out.trans (hw2.mono HBA.out.size))
    have q2 : w2.cell? ⟨b', off' + i * 2, none⟩ = some (.string y.1) := (hw2.cell (p := ⟨b', off' + i * 2, none⟩) (block_lt_of_cell q0)).trans q0
    clear hw2
    dsimp only
    go_wp2_with fail
    go_quiet (fail)
    go_wp2_with fail
    go_ret
    exact HF.out _ _ HR.out (bdn HB2.out _)
   ·rw [hly] at HA2
    have HG := Lib.hid (HM.out HK.out HA2.out)
    clear HM HLow HK HA2
    go_wp2_with fail
    refine (HRx.out _).mono ?_
    rintro e w2 ⟨rfl, hw2⟩
    have e0 : w2.cell? ⟨wr.heap.size, 0, none⟩ = some (.string x.1) := (hw2.cell (p := ⟨wr.heap.size, 0, none⟩) (lt_of_obj HNw.out)).trans (cell_obj HNw.out 0)
    have e1 : w2.cell? ⟨wr.heap.size, 1, none⟩ = some (.int .i64 x.2) := (hw2.cell (p := ⟨wr.heap.size, 1, none⟩) (lt_of_obj HNw.out)).trans (cell_obj HNw.out 1)
    have HB2 := Lib.hid (HBA.out.trans (hw2.mono HBA.out.size))
    have q2 : w2.cell? ⟨b', off' + i * 2, none⟩ = some (.string y.1) := (hw2.cell (p := ⟨b', off' + i * 2, none⟩) (block_lt_of_cell q0)).trans q0
    clear hw2
    dsimp only
    go_wp2_with fail
    go_quiet (fail)
    go_wp2_with fail
    exact ⟨⟨⟨i + 1 + 1, by omega, by go_num, HG.out⟩, bdn HB2.out _⟩, by simp [intOf]; omega⟩
  ·obtain rfl : j = n := by omega
   have HR := Lib.hid (show rte l = true by rw [HP2.out]; rw [HNL.out, List.take_length] at hg; exact hg)
   clear hg hb
   go_wp2_with fail
   go_ret
   exact HF.out _ _ HR.out HB.out
end Go.Proofs.YthehblmjloohiaaGreatDoor

namespace Go.Proofs.YthehblmjloohiaaGreatDoor
set_option maxRecDepth 100000
open Go.RowKit Go.Less
attribute [local go_sem 9000] sem_eql sem_neq sem_lss sem_leq sem_gtr sem_geq
theorem scope_fwd {P : Program} {a : Act} {w : World} {Q : Exit → Act → World → Prop} {c rest : Code} (l : Nat) (hf : findLabel c l = some (Code.skip.seq rest))
  (first : c.wp P (Exit.jump l (fun a' w' => rest.wp P (Exit.jump l (fun _ _ => False) Q) a' w') Q) a w) : (Code.scope c).wp P Q a w :=
 wp_scope_jumps l (fun a' w' => rest.wp P (Exit.jump l (fun _ _ => False) Q) a' w') (fun _ _ => 0) hf first
  (fun a w hj => wp_seq (wp_skip (Code.wp_mono (fun e a w h => by cases e <;> first | exact h | exact h.2.elim) hj)))
theorem ndr_P (k m : Int) (d t : ByteArray) (l : List En) : ndr k m d t l = (decide (0 ≤ m) && decide (m ≤ 511) &&
  (if k = 1 then decide (d.size ≤ 4096) && isE t && decide (l.length = 0) else if k = 2 then isE d && isE t && rte l else decide (k = 3) && isE d && !isE t && decide (t.size ≤ 64) && decide (l.length = 0))) := Nd.right_P _
theorem ndr_low {k m : Int} {d t : ByteArray} {l : List En} (h : m < 0 ∨ 511 < m) : ndr k m d t l = false := by
 rw [ndr_P]
 rcases h with h | h
 ·rw [decide_eq_false (by omega)]; rfl
 ·rw [decide_eq_false (p := m ≤ 511) (by omega)]; simp
theorem ndr_in {k m : Int} {d t : ByteArray} {l : List En} (h0 : ¬ m < 0) (h1 : ¬ 511 < m) : ndr k m d t l = (if k = 1 then decide (d.size ≤ 4096) && isE t && decide (l.length = 0) else if k = 2 then isE d && isE t && rte l else decide (k = 3) && isE d && !isE t && decide (t.size ≤ 64) && decide (l.length = 0)) := by
 rw [ndr_P, decide_eq_true (show 0 ≤ m by omega), decide_eq_true (show m ≤ 511 by omega)]; rfl
set_option maxHeartbeats 4000000 in
theorem node_any (k m : Int) (d t : ByteArray) (a : Option Addr) (n cap : Nat) (l : List En) (w : World) (hE : Ents a n l w) (hn : n ≤ 1000000) (hs : ∀ j, j < n → (l.getD j z0).1.size ≤ 100000) :
  Calls Tryz.prog 117 #[nv k m d t a n cap] w (Samed (ndr k m d t l) w) := by
 have HNL := Lib.hid hE.count
 have HB0 := Lib.hid (show ∀ x : Obj, Below w.heap.size w (w.alloc x) from fun x => (Below.refl _ w).alloc (Nat.le_refl _) _)
 have HF := Lib.hid (show ∀ b W, ndr k m d t l = b → Below w.heap.size w W → Samed (ndr k m d t l) w (.returned (.bool b)) W from fun b W h hb => by rw [h]; exact ⟨rfl, hb⟩)
 have HRe := Lib.hid (show ∀ W, Below w.heap.size w W → Calls Tryz.prog 153 #[.slice a n cap] W (Samed (rte l) W) from fun W hb => rightEntries_any a n cap l W (hE.below hb) hn hs)
 have HZ := Lib.hid (show decide (l.length = 0) = decide (n = 0) by rw [← HNL.out])
 have HT := Lib.hid (show alike t ⟨#[]⟩ = isE t from rfl)
 have HD := Lib.hid (show alike d ⟨#[]⟩ = isE d from rfl)
 clear hE hs
 by_cases e1 : m < 0
 ·have HR := Lib.hid (ndr_low (k := k) (d := d) (t := t) (l := l) (.inl e1))
  go_enter Tryz.func117, Tryz.ntmps117
  go_wp2_with fail
  refine scope_fwd 0 rfl ?_
  go_wp2_with fail
  simp only [Exit.jump]
  go_ret
  exact HF.out _ _ HR.out (HB0.out _)
 by_cases e2 : 511 < m
 ·have HR := Lib.hid (ndr_low (k := k) (d := d) (t := t) (l := l) (.inr e2))
  go_enter Tryz.func117, Tryz.ntmps117
  go_wp2_with fail
  refine scope_fwd 0 rfl ?_
  go_wp2_with fail
  simp only [Exit.jump]
  go_ret
  exact HF.out _ _ HR.out (HB0.out _)
 have HI := Lib.hid (ndr_in (k := k) (d := d) (t := t) (l := l) e1 e2)
 by_cases k1 : k = 1
 ·subst k1
  rw [if_pos rfl] at HI
  rcases Nat.lt_or_ge 4096 d.size with hd | hd
  ·have hdi : (4096 : Int) < (d.size : Int) := by omega
   have HR := Lib.hid (HI.out.trans (show _ = false by rw [decide_eq_false (p := d.size ≤ 4096) (by omega)]; rfl))
   clear hd
   go_enter Tryz.func117, Tryz.ntmps117
   go_wp2_with fail
   refine scope_fwd 0 rfl ?_
   go_wp2_with fail
   refine wp_goto ?_
   refine ⟨rfl, ?_⟩
   go_wp2_with fail
   simp only [Exit.jump]
   go_ret
   exact HF.out _ _ HR.out (HB0.out _)
  have hdi : (d.size : Int) ≤ 4096 := by omega
  cases tE : alike t ⟨#[]⟩
  ·have HR := Lib.hid (HI.out.trans (show _ = false by rw [← HT.out, tE]; simp))
   clear hd
   go_enter Tryz.func117, Tryz.ntmps117
   go_wp2_with fail
   refine scope_fwd 0 rfl ?_
   go_wp2_with fail
   refine wp_goto ?_
   refine ⟨rfl, ?_⟩
   go_wp2_with fail
   simp only [Exit.jump]
   go_ret
   exact HF.out _ _ HR.out (HB0.out _)
  have HR := Lib.hid (show ndr 1 m d t l = decide ((n : Int) = 0) by rw [HI.out, decide_eq_true hd, ← HT.out, tE, HZ.out]; simp)
  clear hd
  go_enter Tryz.func117, Tryz.ntmps117
  go_wp2_with fail
  refine scope_fwd 0 rfl ?_
  go_wp2_with fail
  refine wp_goto ?_
  refine ⟨rfl, ?_⟩
  go_wp2_with fail
  simp only [Exit.jump]
  go_ret
  exact HF.out _ _ HR.out (HB0.out _)
 by_cases k2 : k = 2
 ·subst k2
  rw [if_neg (by omega), if_pos rfl] at HI
  cases dE : alike d ⟨#[]⟩
  ·have HR := Lib.hid (HI.out.trans (show _ = false by rw [← HD.out, dE]; simp))
   go_enter Tryz.func117, Tryz.ntmps117
   go_wp2_with fail
   refine scope_fwd 1 rfl ?_
   go_wp2_with fail
   refine wp_goto ?_
   refine ⟨rfl, ?_⟩
   go_wp2_with fail
   simp only [Exit.jump]
   go_ret
   exact HF.out _ _ HR.out (HB0.out _)
  cases tE : alike t ⟨#[]⟩
  ·have HR := Lib.hid (HI.out.trans (show _ = false by rw [← HT.out, tE]; simp))
   go_enter Tryz.func117, Tryz.ntmps117
   go_wp2_with fail
   refine scope_fwd 1 rfl ?_
   go_wp2_with fail
   refine wp_goto ?_
   refine ⟨rfl, ?_⟩
   go_wp2_with fail
   simp only [Exit.jump]
   go_ret
   exact HF.out _ _ HR.out (HB0.out _)
  have HR := Lib.hid (show ndr 2 m d t l = rte l by rw [HI.out, ← HD.out, dE, ← HT.out, tE]; rfl)
  go_enter Tryz.func117, Tryz.ntmps117
  go_wp2_with fail
  refine scope_fwd 1 rfl ?_
  go_wp2_with fail
  refine wp_goto ?_
  refine ⟨rfl, ?_⟩
  go_wp2_with fail
  refine (HRe.out _ (HB0.out _)).mono ?_
  rintro e w1 ⟨rfl, hw1⟩
  have HB1 := Lib.hid ((HB0.out _).trans (hw1.mono (HB0.out _).size))
  clear hw1
  dsimp only
  go_wp2_with fail
  simp only [Exit.jump]
  go_ret
  exact HF.out _ _ HR.out HB1.out
 by_cases k3 : k = 3
 ·subst k3
  rw [if_neg (by omega), if_neg (by omega), decide_eq_true rfl, Bool.true_and] at HI
  cases dE : alike d ⟨#[]⟩
  ·have HR := Lib.hid (HI.out.trans (show _ = false by rw [← HD.out, dE]; simp))
   go_enter Tryz.func117, Tryz.ntmps117
   go_wp2_with fail
   refine scope_fwd 2 rfl ?_
   go_wp2_with fail
   refine wp_goto ?_
   refine ⟨rfl, ?_⟩
   go_wp2_with fail
   simp only [Exit.jump]
   go_ret
   exact HF.out _ _ HR.out (HB0.out _)
  cases tE : alike t ⟨#[]⟩
  case true =>
   have HR := Lib.hid (HI.out.trans (show _ = false by rw [← HT.out, tE]; simp))
   go_enter Tryz.func117, Tryz.ntmps117
   go_wp2_with fail
   refine scope_fwd 2 rfl ?_
   go_wp2_with fail
   refine wp_goto ?_
   refine ⟨rfl, ?_⟩
   go_wp2_with fail
   simp only [Exit.jump]
   go_ret
   exact HF.out _ _ HR.out (HB0.out _)
  rcases Nat.lt_or_ge 64 t.size with h2 | h2
  ·have h2i : (64 : Int) < (t.size : Int) := by omega
   have HR := Lib.hid (HI.out.trans (show _ = false by rw [decide_eq_false (p := t.size ≤ 64) (by omega)]; simp))
   clear h2
   go_enter Tryz.func117, Tryz.ntmps117
   go_wp2_with fail
   refine scope_fwd 2 rfl ?_
   go_wp2_with fail
   refine wp_goto ?_
   refine ⟨rfl, ?_⟩
   go_wp2_with fail
   simp only [Exit.jump]
   go_ret
   exact HF.out _ _ HR.out (HB0.out _)
  have h2i : (t.size : Int) ≤ 64 := by omega
  have HR := Lib.hid (show ndr 3 m d t l = decide ((n : Int) = 0) by rw [HI.out, ← HD.out, dE, ← HT.out, tE, decide_eq_true h2, HZ.out]; simp)
  clear h2
  go_enter Tryz.func117, Tryz.ntmps117
  go_wp2_with fail
  refine scope_fwd 2 rfl ?_
  go_wp2_with fail
  refine wp_goto ?_
  refine ⟨rfl, ?_⟩
  go_wp2_with fail
  simp only [Exit.jump]
  go_ret
  exact HF.out _ _ HR.out (HB0.out _)
 have HR := Lib.hid (HI.out.trans (show _ = false by rw [if_neg k1, if_neg k2, decide_eq_false k3]; rfl))
 go_enter Tryz.func117, Tryz.ntmps117
 go_wp2_with fail
 refine scope_fwd 0 rfl ?_
 go_wp2_with fail
 simp only [Exit.jump]
 go_ret
 exact HF.out _ _ HR.out (HB0.out _)
end Go.Proofs.YthehblmjloohiaaGreatDoor

namespace Go.Proofs.YthehblmjloohiaaGreatDoor
set_option maxRecDepth 100000
open Go.RowKit Go.Less
attribute [local go_sem 9000] sem_eql sem_neq sem_lss sem_leq sem_gtr sem_geq sem_shr64 run_c8
theorem run_bytes3 (w : World) (a b c : UInt8) : (convert 137 9 (.slice (some ⟨w.heap.size, 0, none⟩) 3 3)).run Tryz.prog (w.alloc (.cells #[.int .u8 (a.toNat : Int), .int .u8 (b.toNat : Int), .int .u8 (c.toNat : Int)] 5)) = .ok (.string ⟨#[a, b, c]⟩) (w.alloc (.cells #[.int .u8 (a.toNat : Int), .int .u8 (b.toNat : Int), .int .u8 (c.toNat : Int)] 5)) := by
 rw [run_convert_bytes_arg (P := Tryz.prog) (w.alloc (.cells #[.int .u8 (a.toNat : Int), .int .u8 (b.toNat : Int), .int .u8 (c.toNat : Int)] 5)) 137 5 Tryz.underlying137 Tryz.underlying5 w.heap.size 0 3 3 [(a.toNat : Int), b.toNat, c.toNat] rfl ?_ 9 Tryz.underlying9]
 ·simp [strOfNums]
 ·intro i hi
  rw [Nat.zero_add, World.cell?_alloc_new]
  match i, hi with
  | 0, _ => rfl
  | 1, _ => rfl
  | 2, _ => rfl
attribute [local go_sem 9000] run_bytes3
theorem head_is (k m : Nat) (d t : ByteArray) (l : List En) : (⟨#[u8z (k : Int), u8z (shn (m : Int) 8), u8z (m : Int)]⟩ : ByteArray) ++ d ++ t ++ lstr (flat l) = acc k m d t l := by
 unfold acc hdr flat
 apply ByteArray.ext
 apply Array.ext'
 simp only [ByteArray.data_append, Array.toList_append, numStr_data, num_one, num_two, lstr_data, u8z_sh, u8z_nat, Int.toNat_natCast, List.append_assoc, List.cons_append, List.nil_append]
theorem getPF3 {w : World} {cs : Array Value} {u v x : Value} {W : World} (h : W.cell? ⟨w.heap.size, 2, none⟩ = some u ∧ W.cell? ⟨w.heap.size, 3, none⟩ = some v ∧ W.cell? ⟨w.heap.size, 4, none⟩ = some x ∧ PF w cs W) : PF w cs W := h.2.2.2
theorem PF.all3 {w : World} {v0 v1 v2 v3 v4 : Value} {W : World} (h : PF w #[v0, v1, v2, v3, v4] W) : W.cell? ⟨w.heap.size, 2, none⟩ = some v2 ∧ W.cell? ⟨w.heap.size, 3, none⟩ = some v3 ∧ W.cell? ⟨w.heap.size, 4, none⟩ = some v4 ∧ PF w #[v0, v1, v2, v3, v4] W :=
 ⟨cell_obj h.box 2, cell_obj h.box 3, cell_obj h.box 4, h⟩
set_option maxHeartbeats 4000000 in
theorem print_any (k m : Int) (d t : ByteArray) (a : Option Addr) (n cap : Nat) (l : List En) (w : World) (hE : Ents a n l w) (hn : n ≤ 1000000) (hs : ∀ j, j < n → (l.getD j z0).1.size ≤ 100000) :
  Calls Tryz.prog 79 #[nv k m d t a n cap] w (Printed ⟨k, m, d, t, l⟩ w) := by
 have HNL := Lib.hid hE.count
 have HB0 := Lib.hid (show ∀ x : Obj, Below w.heap.size w (w.alloc x) from fun x => (Below.refl _ w).alloc (Nat.le_refl _) _)
 have HN := Lib.hid (node_any k m d t a n cap l (w.alloc (.cells #[.int .i64 k, .int .i64 m, .string d, .string t, .slice a n cap] 43)) (hE.below ((Below.refl _ w).alloc (Nat.le_refl _) _)) hn hs)
 unfold Samed at HN
 have HBX := Lib.hid (heap_alloc_new w (.cells #[.int .i64 k, .int .i64 m, .string d, .string t, .slice a n cap] 43))
 have HE := Lib.hid (fun W (hb : Below w.heap.size w W) => hE.below hb)
 clear hE hs
 cases hr : ndr k m d t l
 ·rw [hr] at HN
  have HR := Lib.hid (show prt ⟨k, m, d, t, l⟩ = (⟨#[]⟩, 2) by unfold prt; rw [if_neg]; intro h; unfold ndr at hr; rw [hr] at h; cases h)
  clear hr
  go_enter Tryz.func79, Tryz.ntmps79
  go_wp2_with fail
  refine HN.out.mono ?_
  rintro e w1 ⟨rfl, hb1⟩
  have HB := Lib.hid ((HB0.out _).trans (hb1.mono (HB0.out _).size))
  clear hb1
  dsimp only
  go_wp2_with fail
  go_ret2
  show Printed _ w _ _
  unfold Printed
  rw [HR.out]
  exact ⟨rfl, HB.out⟩
 ·rw [hr] at HN
  have hR := (Nd.right_iff _).1 hr
  have HR := Lib.hid (show prt ⟨k, m, d, t, l⟩ = (acc k m d t l, 0) by unfold prt; rw [if_pos (show Nd.right less Nm.right _ = true from hr), acc_text])
  have HSZ := Lib.hid (esz hR)
  have hk := kpos hR
  have hd := dsz hR
  have hm0 := hR.m0
  have hl64 := hR.len
  dsimp only at hk hd hm0 hl64 HSZ
  obtain ⟨kn, rfl⟩ : ∃ kn : Nat, k = kn := ⟨k.toNat, by omega⟩
  obtain ⟨mn, rfl⟩ : ∃ mn : Nat, m = mn := ⟨m.toNat, by omega⟩
  have HH := Lib.hid (head_is kn mn d t l)
  have hln : n ≤ 64 := by have := HNL.out; omega
  have HT := Lib.hid (fun W (hb : Below w.heap.size w W) => entriesText_any a n cap l W (HE.out W hb) hln HSZ.out)
  have hfl : (lstr (flat l)).size ≤ 2000 := by
   have h1 := flat_len (l := l) (fun x hx => (HSZ.out x hx).1)
   rw [lstr_size]; omega
  generalize lstr (flat l) = FL at HH HT hfl
  have s1 : ¬ 9223372036854775807 < 3 + d.size := by omega
  have s2 : ¬ 9223372036854775807 < 3 + d.size + t.size := by omega
  have s3 : ¬ 9223372036854775807 < 3 + d.size + t.size + FL.size := by omega
  clear hr hR hm0 hl64
  go_enter Tryz.func79, Tryz.ntmps79
  go_wp2_with fail
  refine HN.out.mono ?_
  rintro e w1 ⟨rfl, hb1⟩
  have HX1 := Lib.hid ((hb1.block _ (lt_of_obj HBX.out)).trans HBX.out)
  have HB1 := Lib.hid ((HB0.out _).trans (hb1.mono (HB0.out _).size))
  have x0 : w1.cell? ⟨w.heap.size, 0, none⟩ = some (.int .i64 (kn : Int)) := cell_obj HX1.out 0
  have x1 : w1.cell? ⟨w.heap.size, 1, none⟩ = some (.int .i64 (mn : Int)) := cell_obj HX1.out 1
  clear hb1 HN HBX
  dsimp only
  go_wp2_with fail
  have h3 : (⟨#[u8z (kn : Int), u8z (shn (mn : Int) 8), u8z (mn : Int)]⟩ : ByteArray).size = 3 := rfl
  have HP := Lib.hid (show PF w #[.int .i64 (kn : Int), .int .i64 (mn : Int), .string d, .string t, .slice a n cap] ((w1.alloc (.cells #[.int .u8 ((u8z (kn : Int)).toNat : Int), .int .u8 ((u8z (shn (mn : Int) 8)).toNat : Int), .int .u8 ((u8z (mn : Int)).toNat : Int)] 5)).drew) from
   PF.kept (w := w) ⟨HX1.out, HB1.out⟩ ((below_one w1 _).drew))
  generalize (⟨#[u8z (kn : Int), u8z (shn (mn : Int) 8), u8z (mn : Int)]⟩ : ByteArray) = H at HH h3 ⊢
  clear x0 x1
  go_region_held3 (fun W => W.cell? ⟨w.heap.size, 2, none⟩ = some (.string d) ∧ W.cell? ⟨w.heap.size, 3, none⟩ = some (.string t) ∧ W.cell? ⟨w.heap.size, 4, none⟩ = some (.slice a n cap) ∧ PF w #[.int .i64 (kn : Int), .int .i64 (mn : Int), .string d, .string t, .slice a n cap] W)
   (first | exact HP.out.all3 | exact pA.out.all3 | assumption)
   (first
    | (go_at_call 118; (with_reducible refine (HT.out _ (PF.below (getPF3 (by assumption)))).mono ?_); rintro e wA ⟨rfl, hA⟩; have pA := Lib.hid (PF.kept (getPF3 (by assumption)) hA); clear hA))
  go_wp2_with fail
  go_ret2
  show Printed _ w _ _
  unfold Printed
  rw [HR.out, ← HH.out]
  exact ⟨rfl, pA.out.below⟩
end Go.Proofs.YthehblmjloohiaaGreatDoor
