/- Layer 11, a part of the proofs: no statement of its own. -/
import Derived.Shelf.LaysM
import Derived.Shelf.Strconv.Clone
import Derived.WalkKit
import Derived.Below
import Derived.Test.YthehblmjloohiaaGreatDoorProg
import Derived.Test.YthehblmjloohiaaGreatDoorM04
namespace Go.Proofs.YthehblmjloohiaaGreatDoor.T8
set_option maxRecDepth 100000
open Go.RowKit Go.Less Sha
attribute [local go_sem 9000] sem_eql sem_neq sem_lss sem_leq sem_gtr sem_geq
def Parted (x : Tt × Tt) (w : World) (e : Ending) (w' : World) : Prop := ∃ pa pb, e = .returned (.tuple #[pv pa, pv pb]) ∧ Tree w' pa x.1 ∧ Tree w' pb x.2 ∧ Below w.heap.size w w'
def Treed (t : Tt) (w : World) (e : Ending) (w' : World) : Prop := ∃ p, e = .returned (pv p) ∧ Tree w' p t ∧ Below w.heap.size w w'
theorem two {w : World} {b : Nat} {l : Tt} {k v : ByteArray} {r : Tt} {pl pr : Option Nat} {W : World} (h : Node w b l k v r pl pr) (hb : Below w.heap.size w W) : W.cell? ⟨b, 5, none⟩ = some (pv pl) ∧ W.cell? ⟨b, 6, none⟩ = some (pv pr) ∧ Below w.heap.size w W := ⟨(h.below hb).c5, (h.below hb).c6, hb⟩
theorem split_more {l r : Tt} {k v x : ByteArray} (h : less k x = true) : (Tr.T.node l k v r).split less x = (.node l k v (r.split less x).1, (r.split less x).2) := by
 conv => lhs; unfold Tr.T.split
 rw [if_pos h]
theorem split_less {l r : Tt} {k v x : ByteArray} (h : less k x = false) : (Tr.T.node l k v r).split less x = ((l.split less x).1, .node (l.split less x).2 k v r) := by
 conv => lhs; unfold Tr.T.split
 rw [if_neg (by simp [h])]
set_option maxHeartbeats 2000000 in
theorem split_any (x : ByteArray) : ∀ (t : Tt) (p : Option Nat) (w : World), Tree w p t → Dg w → t.len ≤ 100000 → Calls Tryz.prog 114 #[pv p, .string x] w (Parted (t.split less x) w) := by
 intro t
 induction t with
 | leaf =>
  intro p w hT hD hn
  obtain rfl : p = none := hT
  clear hD hn
  show Calls Tryz.prog 114 #[.pointer none, .string x] w _
  go_enter Tryz.func114, Tryz.ntmps114
  go_wp2_with fail
  go_ret2
  exact ⟨none, none, rfl, rfl, rfl, Below.refl _ _⟩
 | node l k v r ihl ihr =>
  intro p w hT hD hn
  obtain ⟨b, pl, pr, rfl, hN⟩ := tree_node hT
  simp only [Tr.T.len] at hn
  have HI := Lib.hid (ihl pl w hN.left hD (by omega))
  have HJ := Lib.hid (ihr pr w hN.right hD (by omega))
  have HN := Lib.hid hN
  have HD := Lib.hid hD
  have hs1 := Tr.split_len (lt := less) l x
  have hs2 := Tr.split_len (lt := less) r x
  have HS := Lib.hid (show (l.split less x).2.len ≤ 1000000 ∧ (r.split less x).1.len ≤ 1000000 ∧ l.len ≤ 1000000 ∧ r.len ≤ 1000000 from ⟨by omega, by omega, by omega, by omega⟩)
  have c0 := hN.c0
  have c5 := hN.c5
  have c6 := hN.c6
  have hb := hN.lt
  clear hT hD hN ihl ihr hs1 hs2 hn
  show Calls Tryz.prog 114 #[.pointer (some ⟨b, 0, none⟩), .string x] w _
  cases hx : less k x
  ·rw [split_less hx]
   go_enter Tryz.func114, Tryz.ntmps114
   go_wp2_with fail
   refine HI.out.mono ?_
   rintro e w1 ⟨pa, pb, rfl, ha, hp, hw1⟩
   have c6' := (hw1.cell (p := ⟨b, 6, none⟩) hb).trans c6
   have HA := Lib.hid ha
   have HP := Lib.hid hp
   have HW := Lib.hid hw1
   clear ha hp hw1
   dsimp only
   go_wp2_with fail
   refine (grow_any ⟨HN.out.below HW.out, HP.out, HN.out.right.below HW.out, HD.out.below HW.out⟩ HS.out.1 HS.out.2.2.2).mono ?_
   rintro e w2 ⟨b2, rfl, hg, hw2⟩
   have HG := Lib.hid hg
   have HW2 := Lib.hid hw2
   clear hg hw2
   dsimp only
   go_wp2_with fail
   go_ret2
   exact ⟨pa, some b2, rfl, HA.out.below HW2.out, HG.out, btrans HW2.out HW.out⟩
  ·rw [split_more hx]
   go_enter Tryz.func114, Tryz.ntmps114
   go_wp2_with fail
   refine HJ.out.mono ?_
   rintro e w1 ⟨pa, pb, rfl, ha, hp, hw1⟩
   have c5' := (hw1.cell (p := ⟨b, 5, none⟩) hb).trans c5
   have HA := Lib.hid ha
   have HP := Lib.hid hp
   have HW := Lib.hid hw1
   clear ha hp hw1
   dsimp only
   go_wp2_with fail
   refine (grow_any ⟨HN.out.below HW.out, HN.out.left.below HW.out, HA.out, HD.out.below HW.out⟩ HS.out.2.2.1 HS.out.2.1).mono ?_
   rintro e w2 ⟨b2, rfl, hg, hw2⟩
   have HG := Lib.hid hg
   have HW2 := Lib.hid hw2
   clear hg hw2
   dsimp only
   go_wp2_with fail
   go_ret2
   exact ⟨some b2, pb, rfl, HG.out, HP.out.below HW2.out, btrans HW2.out HW.out⟩
abbrev mrg (a b : Tt) : Tt := Tr.T.merge less less rk a b
set_option maxHeartbeats 4000000 in
theorem merge_any : ∀ (n : Nat) (t u : Tt) (p q : Option Nat) (w : World), t.len + u.len ≤ n → n ≤ 100000 → Tree w p t → Tree w q u → Dg w → Calls Tryz.prog 209 #[pv p, pv q] w (Treed (mrg t u) w) := by
 intro n
 induction n with
 | zero =>
  intro t u p q w hn _ hT hU _
  cases t with
  | node l k v r => simp only [Tr.T.len] at hn; omega
  | leaf =>
   obtain rfl : p = none := hT
   have HU := Lib.hid hU
   have hm : mrg .leaf u = u := Tr.T.merge_leaf ..
   rw [hm]
   clear hn hU hm
   show Calls Tryz.prog 209 #[.pointer none, pv q] w _
   go_enter Tryz.func209, Tryz.ntmps209
   go_wp2_with fail
   go_ret
   exact ⟨q, rfl, HU.out, Below.refl _ _⟩
 | succ n ih =>
  intro t u p q w hn hle hT hU hD
  cases t with
  | leaf =>
   obtain rfl : p = none := hT
   have HU := Lib.hid hU
   have hm : mrg .leaf u = u := Tr.T.merge_leaf ..
   rw [hm]
   clear hn hU hm ih hle hD
   show Calls Tryz.prog 209 #[.pointer none, pv q] w _
   go_enter Tryz.func209, Tryz.ntmps209
   go_wp2_with fail
   go_ret
   exact ⟨q, rfl, HU.out, Below.refl _ _⟩
  | node l k v r =>
   cases u with
   | leaf =>
    obtain ⟨b, pl, pr, rfl, hN⟩ := tree_node hT
    obtain rfl : q = none := hU
    have HT := Lib.hid hT
    have hm : mrg (.node l k v r) .leaf = .node l k v r := Tr.T.merge_node_leaf ..
    rw [hm]
    clear hn hT hm ih hle hD hN
    show Calls Tryz.prog 209 #[.pointer (some ⟨b, 0, none⟩), .pointer none] w _
    go_enter Tryz.func209, Tryz.ntmps209
    go_wp2_with fail
    go_ret
    exact ⟨some b, rfl, HT.out, Below.refl _ _⟩
   | node l' k' v' r' =>
    obtain ⟨b, pl, pr, rfl, hN⟩ := tree_node hT
    obtain ⟨b', pl', pr', rfl, hN'⟩ := tree_node hU
    simp only [Tr.T.len] at hn
    have HA := Lib.hid (ahead_any hN hN')
    have hlt := hN.lt
    have hlt' := hN'.lt
    have c5 := hN.c5
    have c6 := hN.c6
    have c5' := hN'.c5
    have c6' := hN'.c6
    have HN := Lib.hid hN
    have HN' := Lib.hid hN'
    have HD := Lib.hid hD
    have HT := Lib.hid hT
    have HU := Lib.hid hU
    cases ha : ahd k k'
    ·have hm : mrg (.node l k v r) (.node l' k' v' r') = .node (mrg (.node l k v r) l') k' v' r' := Tr.T.merge_behind less less rk ha ..
     rw [hm]
     have hml : (mrg (.node l k v r) l').len = l.len + 1 + r.len + l'.len := Tr.merge_len ..
     have HI := Lib.hid (show ∀ W, Below w.heap.size w W → Calls Tryz.prog 209 #[.pointer (some ⟨b, 0, none⟩), pv pl'] W (Treed (mrg (.node l k v r) l') W) from fun W (hb : Below w.heap.size w W) => ih (.node l k v r) l' (some b) pl' W (by simp only [Tr.T.len]; omega) (by omega) (HT.out.below hb) (HN'.out.left.below hb) (HD.out.below hb))
     have HG := Lib.hid (fun W p1 (hb : Below w.heap.size w W) (h : Tree W p1 (mrg (.node l k v r) l')) => grow_any (w := W) (l := mrg (.node l k v r) l') ⟨HN'.out.below hb, h, HN'.out.right.below hb, HD.out.below hb⟩ (by omega) (by omega))
     generalize mrg (.node l k v r) l' = m at *
     clear hn hle ih hT hU hD hN hN' hm hml
     show Calls Tryz.prog 209 #[.pointer (some ⟨b, 0, none⟩), .pointer (some ⟨b', 0, none⟩)] w _
     go_enter Tryz.func209, Tryz.ntmps209
     go_wp2_with fail
     refine HA.out.mono ?_
     rintro e w1 ⟨rfl, hw1⟩
     rw [ha]
     have hB := hw1.drew
     dsimp only
     go_wp2_with fail
     go_region_held3 (fun W => W.cell? ⟨b', 5, none⟩ = some (pv pl') ∧ W.cell? ⟨b', 6, none⟩ = some (pv pr') ∧ Below w.heap.size w W)
      (first | exact two HN'.out (by assumption))
      (first
      | (go_at_call 209; (with_reducible refine (HI.out _ (by assumption)).mono ?_); rintro e w2 ⟨p2, rfl, hm2, hw2⟩; have hb2 := btrans hw2 (by assumption))
      | (go_at_call 115; (with_reducible refine (HG.out _ _ (by assumption) hm2).mono ?_); rintro e w3 ⟨b3, rfl, hm3, hw3⟩; have hb3 := btrans hw3 (by assumption)))
     go_wp2_with fail
     go_ret
     exact ⟨some b3, rfl, hm3, by assumption⟩
    ·have hm : mrg (.node l k v r) (.node l' k' v' r') = .node l k v (mrg r (.node l' k' v' r')) := Tr.T.merge_ahead less less rk ha ..
     rw [hm]
     have hml : (mrg r (.node l' k' v' r')).len = r.len + (l'.len + 1 + r'.len) := Tr.merge_len ..
     have HI := Lib.hid (show ∀ W, Below w.heap.size w W → Calls Tryz.prog 209 #[pv pr, .pointer (some ⟨b', 0, none⟩)] W (Treed (mrg r (.node l' k' v' r')) W) from fun W (hb : Below w.heap.size w W) => ih r (.node l' k' v' r') pr (some b') W (by simp only [Tr.T.len]; omega) (by omega) (HN.out.right.below hb) (HU.out.below hb) (HD.out.below hb))
     have HG := Lib.hid (fun W p1 (hb : Below w.heap.size w W) (h : Tree W p1 (mrg r (.node l' k' v' r'))) => grow_any (w := W) (r := mrg r (.node l' k' v' r')) ⟨HN.out.below hb, HN.out.left.below hb, h, HD.out.below hb⟩ (by omega) (by omega))
     generalize mrg r (.node l' k' v' r') = m at *
     clear hn hle ih hT hU hD hN hN' hm hml
     show Calls Tryz.prog 209 #[.pointer (some ⟨b, 0, none⟩), .pointer (some ⟨b', 0, none⟩)] w _
     go_enter Tryz.func209, Tryz.ntmps209
     go_wp2_with fail
     refine HA.out.mono ?_
     rintro e w1 ⟨rfl, hw1⟩
     rw [ha]
     have hB := hw1.drew
     dsimp only
     go_wp2_with fail
     go_region_held3 (fun W => W.cell? ⟨b, 5, none⟩ = some (pv pl) ∧ W.cell? ⟨b, 6, none⟩ = some (pv pr) ∧ Below w.heap.size w W)
      (first | exact two HN.out (by assumption))
      (first
      | (go_at_call 209; (with_reducible refine (HI.out _ (by assumption)).mono ?_); rintro e w2 ⟨p2, rfl, hm2, hw2⟩; have hb2 := btrans hw2 (by assumption))
      | (go_at_call 115; (with_reducible refine (HG.out _ _ (by assumption) hm2).mono ?_); rintro e w3 ⟨b3, rfl, hm3, hw3⟩; have hb3 := btrans hw3 (by assumption)))
     go_wp2_with fail
     go_ret
     exact ⟨some b3, rfl, hm3, by assumption⟩
end Go.Proofs.YthehblmjloohiaaGreatDoor.T8
namespace Go.Proofs.YthehblmjloohiaaGreatDoor.T8
set_option maxRecDepth 100000
open Go.RowKit Go.Less Sha
attribute [local go_sem 9000] sem_eql sem_neq sem_lss sem_leq sem_gtr sem_geq
abbrev tput (t : Tt) (x y : ByteArray) : Tt := t.put less less rk x y
abbrev tdrop (t : Tt) (x : ByteArray) : Tt := t.drop less less rk x
section
variable {l r : Tt} {k v x y : ByteArray}
theorem put_above (h : ahd x k = true) : tput (.node l k v r) x y = .node ((Tr.T.node l k v r).split less x).1 x y ((Tr.T.node l k v r).split less x).2 := by
 conv => lhs; unfold tput Tr.T.put
 rw [if_pos (show Tr.ahead less less rk x k = true from h)]
theorem put_lesser (h : ahd x k = false) (h2 : less x k = true) : tput (.node l k v r) x y = .node (tput l x y) k v r := by
 conv => lhs; unfold tput Tr.T.put
 rw [if_neg (fun e => by rw [show ahd x k = true from e] at h; cases h), if_pos h2]
theorem put_greater (h : ahd x k = false) (h2 : less x k = false) (h3 : less k x = true) : tput (.node l k v r) x y = .node l k v (tput r x y) := by
 conv => lhs; unfold tput Tr.T.put
 rw [if_neg (fun e => by rw [show ahd x k = true from e] at h; cases h), if_neg (by simp [h2]), if_pos h3]
theorem put_same (h : ahd x k = false) (h2 : less x k = false) (h3 : less k x = false) : tput (.node l k v r) x y = .node l x y r := by
 conv => lhs; unfold tput Tr.T.put
 rw [if_neg (fun e => by rw [show ahd x k = true from e] at h; cases h), if_neg (by simp [h2]), if_neg (by simp [h3])]
theorem drop_lesser (h2 : less x k = true) : tdrop (.node l k v r) x = .node (tdrop l x) k v r := by
 conv => lhs; unfold tdrop Tr.T.drop
 rw [if_pos h2]
theorem drop_greater (h2 : less x k = false) (h3 : less k x = true) : tdrop (.node l k v r) x = .node l k v (tdrop r x) := by
 conv => lhs; unfold tdrop Tr.T.drop
 rw [if_neg (by simp [h2]), if_pos h3]
theorem drop_same (h2 : less x k = false) (h3 : less k x = false) : tdrop (.node l k v r) x = mrg l r := by
 conv => lhs; unfold tdrop Tr.T.drop
 rw [if_neg (by simp [h2]), if_neg (by simp [h3])]
end
set_option maxHeartbeats 4000000 in
theorem put_any (x y : ByteArray) (bw : Nat) : ∀ (t : Tt) (p : Option Nat) (w : World), Tree w p t → Node w bw .leaf x y .leaf none none → Dg w → t.len ≤ 10000 → Calls Tryz.prog 76 #[pv p, .pointer (some ⟨bw, 0, none⟩)] w (Treed (tput t x y) w) := by
 intro t
 induction t with
 | leaf =>
  intro p w hT hW hD hn
  obtain rfl : p = none := hT
  have HW := Lib.hid hW
  have hm : tput .leaf x y = .node .leaf x y .leaf := rfl
  rw [hm]
  clear hW hD hn hm
  show Calls Tryz.prog 76 #[.pointer none, .pointer (some ⟨bw, 0, none⟩)] w _
  go_enter Tryz.func76, Tryz.ntmps76
  go_wp2_with fail
  go_ret
  exact ⟨some bw, rfl, HW.out.tree, Below.refl _ _⟩
 | node l k v r ihl ihr =>
  intro p w hT hW hD hn
  obtain ⟨b, pl, pr, rfl, hN⟩ := tree_node hT
  simp only [Tr.T.len] at hn
  have HA := Lib.hid (ahead_any hW hN)
  have hlt := hN.lt
  have hltw := hW.lt
  have c0 := hN.c0
  have d0 := hW.c0
  have HN := Lib.hid hN
  have HW := Lib.hid hW
  have HD := Lib.hid hD
  have HT := Lib.hid hT
  cases ha : ahd x k
  ·cases h2 : less x k
   ·cases h3 : less k x
    ·-- the same key
     rw [put_same ha h2 h3]
     have HG := Lib.hid (fun W (hb : Below w.heap.size w W) => grow_any (w := W) (l := l) (r := r) ⟨HW.out.below hb, HN.out.left.below hb, HN.out.right.below hb, HD.out.below hb⟩ (by omega) (by omega))
     clear hn ihl ihr hT hD hN hW
     show Calls Tryz.prog 76 #[.pointer (some ⟨b, 0, none⟩), .pointer (some ⟨bw, 0, none⟩)] w _
     go_enter Tryz.func76, Tryz.ntmps76
     go_wp2_with fail
     refine HA.out.mono ?_
     rintro e w1 ⟨rfl, hw1⟩
     rw [ha]
     have c0' := (hw1.cell (p := ⟨b, 0, none⟩) hlt).trans c0
     have d0' := (hw1.cell (p := ⟨bw, 0, none⟩) hltw).trans d0
     dsimp only
     go_wp2_with fail
     go_quiet (fail)
     go_wp2_with fail
     go_quiet (fail)
     go_wp2_with fail
     have hB : ∀ n, Below w.heap.size w (w1.drewN n) := bdn hw1
     have hBd : ∀ n, Below w.heap.size w (w1.drewN n).drew := fun n => (bdn hw1 n).drew
     have hBdd : ∀ n m, Below w.heap.size w ((w1.drewN n).drewN m).drew := fun n m => (bdn (bdn hw1 n) m).drew
     go_region_held3 (fun W => W.cell? ⟨b, 5, none⟩ = some (pv pl) ∧ W.cell? ⟨b, 6, none⟩ = some (pv pr) ∧ Below w.heap.size w W)
      (first | exact two HN.out (by assumption) | exact two HN.out (hB _) | exact two HN.out (hBd _) | exact two HN.out (hBdd _ _))
      ((go_at_call 115; (with_reducible refine (HG.out _ (by first | assumption | exact hB _)).mono ?_); rintro e w3 ⟨b3, rfl, hm3, hw3⟩; have hb3 := btrans hw3 (by first | assumption | exact hB _)))
     go_wp2_with fail
     go_ret
     exact ⟨some b3, rfl, hm3, by assumption⟩
    ·rw [put_greater ha h2 h3]
     have hml : (tput r x y).len ≤ r.len + 1 := Tr.tput_len r x y
     have HI := Lib.hid (show ∀ W, Below w.heap.size w W → Calls Tryz.prog 76 #[pv pr, .pointer (some ⟨bw, 0, none⟩)] W (Treed (tput r x y) W) from fun W hb => ihr pr W (HN.out.right.below hb) (HW.out.below hb) (HD.out.below hb) (by omega))
     have HG := Lib.hid (fun W p1 (hb : Below w.heap.size w W) (h : Tree W p1 (tput r x y)) => grow_any (w := W) (l := l) (r := tput r x y) ⟨HN.out.below hb, HN.out.left.below hb, h, HD.out.below hb⟩ (by omega) (by omega))
     generalize tput r x y = m at *
     clear hml
     clear hn ihl ihr hT hD hN hW
     show Calls Tryz.prog 76 #[.pointer (some ⟨b, 0, none⟩), .pointer (some ⟨bw, 0, none⟩)] w _
     go_enter Tryz.func76, Tryz.ntmps76
     go_wp2_with fail
     refine HA.out.mono ?_
     rintro e w1 ⟨rfl, hw1⟩
     rw [ha]
     have c0' := (hw1.cell (p := ⟨b, 0, none⟩) hlt).trans c0
     have d0' := (hw1.cell (p := ⟨bw, 0, none⟩) hltw).trans d0
     dsimp only
     go_wp2_with fail
     go_quiet (fail)
     go_wp2_with fail
     go_quiet (fail)
     go_wp2_with fail
     have hB : ∀ n, Below w.heap.size w (w1.drewN n) := bdn hw1
     have hBd : ∀ n, Below w.heap.size w (w1.drewN n).drew := fun n => (bdn hw1 n).drew
     have hBdd : ∀ n m, Below w.heap.size w ((w1.drewN n).drewN m).drew := fun n m => (bdn (bdn hw1 n) m).drew
     go_region_held3 (fun W => W.cell? ⟨b, 5, none⟩ = some (pv pl) ∧ W.cell? ⟨b, 6, none⟩ = some (pv pr) ∧ Below w.heap.size w W)
      (first | exact two HN.out (by assumption) | exact two HN.out (hB _) | exact two HN.out (hBd _) | exact two HN.out (hBdd _ _))
      (first
      | (go_at_call 76; (with_reducible refine (HI.out _ (by first | assumption | exact hB _)).mono ?_); rintro e w2 ⟨p2, rfl, hm2, hw2⟩; have hb2 := btrans hw2 (by first | assumption | exact hB _))
      | (go_at_call 115; (with_reducible refine (HG.out _ _ (by assumption) hm2).mono ?_); rintro e w3 ⟨b3, rfl, hm3, hw3⟩; have hb3 := btrans hw3 (by assumption)))
     go_wp2_with fail
     go_ret
     exact ⟨some b3, rfl, hm3, by assumption⟩
   ·rw [put_lesser ha h2]
    have hml : (tput l x y).len ≤ l.len + 1 := Tr.tput_len l x y
    have HI := Lib.hid (show ∀ W, Below w.heap.size w W → Calls Tryz.prog 76 #[pv pl, .pointer (some ⟨bw, 0, none⟩)] W (Treed (tput l x y) W) from fun W hb => ihl pl W (HN.out.left.below hb) (HW.out.below hb) (HD.out.below hb) (by omega))
    have HG := Lib.hid (fun W p1 (hb : Below w.heap.size w W) (h : Tree W p1 (tput l x y)) => grow_any (w := W) (l := tput l x y) (r := r) ⟨HN.out.below hb, h, HN.out.right.below hb, HD.out.below hb⟩ (by omega) (by omega))
    generalize tput l x y = m at *
    clear hml
    clear hn ihl ihr hT hD hN hW
    show Calls Tryz.prog 76 #[.pointer (some ⟨b, 0, none⟩), .pointer (some ⟨bw, 0, none⟩)] w _
    go_enter Tryz.func76, Tryz.ntmps76
    go_wp2_with fail
    refine HA.out.mono ?_
    rintro e w1 ⟨rfl, hw1⟩
    rw [ha]
    have c0' := (hw1.cell (p := ⟨b, 0, none⟩) hlt).trans c0
    have d0' := (hw1.cell (p := ⟨bw, 0, none⟩) hltw).trans d0
    dsimp only
    go_wp2_with fail
    go_quiet (fail)
    go_wp2_with fail
    have hB : ∀ n, Below w.heap.size w (w1.drewN n) := bdn hw1
    have hBd : ∀ n, Below w.heap.size w (w1.drewN n).drew := fun n => (bdn hw1 n).drew
    have hBdd : ∀ n m, Below w.heap.size w ((w1.drewN n).drewN m).drew := fun n m => (bdn (bdn hw1 n) m).drew
    go_region_held3 (fun W => W.cell? ⟨b, 5, none⟩ = some (pv pl) ∧ W.cell? ⟨b, 6, none⟩ = some (pv pr) ∧ Below w.heap.size w W)
     (first | exact two HN.out (by assumption) | exact two HN.out (hB _) | exact two HN.out (hBd _) | exact two HN.out (hBdd _ _))
     (first
     | (go_at_call 76; (with_reducible refine (HI.out _ (by first | assumption | exact hB _)).mono ?_); rintro e w2 ⟨p2, rfl, hm2, hw2⟩; have hb2 := btrans hw2 (by first | assumption | exact hB _))
     | (go_at_call 115; (with_reducible refine (HG.out _ _ (by assumption) hm2).mono ?_); rintro e w3 ⟨b3, rfl, hm3, hw3⟩; have hb3 := btrans hw3 (by assumption)))
    go_wp2_with fail
    go_ret
    exact ⟨some b3, rfl, hm3, by assumption⟩
  ·rw [put_above ha]
   have hsl := Tr.split_len (lt := less) (Tr.T.node l k v r) x
   simp only [Tr.T.len] at hsl
   have HI := Lib.hid (fun W (hb : Below w.heap.size w W) => show Calls Tryz.prog 114 #[.pointer (some ⟨b, 0, none⟩), .string x] W (Parted ((Tr.T.node l k v r).split less x) W) from split_any x (.node l k v r) (some b) W (HT.out.below hb) (HD.out.below hb) (by simp only [Tr.T.len]; omega))
   generalize (Tr.T.node l k v r).split less x = m at *
   have HG := Lib.hid (fun W p1 p2 (hb : Below w.heap.size w W) (h1 : Tree W p1 m.1) (h2 : Tree W p2 m.2) => grow_any (w := W) (l := m.1) (r := m.2) ⟨HW.out.below hb, h1, h2, HD.out.below hb⟩ (by omega) (by omega))
   clear hsl
   clear hn ihl ihr hT hD hN hW
   show Calls Tryz.prog 76 #[.pointer (some ⟨b, 0, none⟩), .pointer (some ⟨bw, 0, none⟩)] w _
   go_enter Tryz.func76, Tryz.ntmps76
   go_wp2_with fail
   refine HA.out.mono ?_
   rintro e w1 ⟨rfl, hw1⟩
   rw [ha]
   have d0' := (hw1.cell (p := ⟨bw, 0, none⟩) hltw).trans d0
   dsimp only
   go_wp2_with fail
   refine (HI.out _ hw1).mono ?_
   rintro e w2 ⟨pa, pb, rfl, ha2, hb2, hw2⟩
   have hB := btrans hw2 hw1
   have HA2 := Lib.hid ha2
   have HB2 := Lib.hid hb2
   clear ha2 hb2
   dsimp only
   go_wp2_with fail
   refine (HG.out _ _ _ hB HA2.out HB2.out).mono ?_
   rintro e w3 ⟨b3, rfl, hm3, hw3⟩
   have hb3 := btrans hw3 hB
   dsimp only
   go_wp2_with fail
   go_ret
   exact ⟨some b3, rfl, hm3, by assumption⟩
set_option maxHeartbeats 4000000 in
theorem drop_any (x : ByteArray) : ∀ (t : Tt) (p : Option Nat) (w : World), Tree w p t → Dg w → t.len ≤ 10000 → Calls Tryz.prog 186 #[pv p, .string x] w (Treed (tdrop t x) w) := by
 intro t
 induction t with
 | leaf =>
  intro p w hT hD hn
  obtain rfl : p = none := hT
  have hm : tdrop .leaf x = .leaf := rfl
  rw [hm]
  clear hD hn hm
  show Calls Tryz.prog 186 #[.pointer none, .string x] w _
  go_enter Tryz.func186, Tryz.ntmps186
  go_wp2_with fail
  go_ret
  exact ⟨none, rfl, rfl, Below.refl _ _⟩
 | node l k v r ihl ihr =>
  intro p w hT hD hn
  obtain ⟨b, pl, pr, rfl, hN⟩ := tree_node hT
  simp only [Tr.T.len] at hn
  have c0 := hN.c0
  have HN := Lib.hid hN
  have HD := Lib.hid hD
  cases h2 : less x k
  ·cases h3 : less k x
   ·-- the key
    rw [drop_same h2 h3]
    have HG := Lib.hid (fun W (hb : Below w.heap.size w W) => merge_any (l.len + r.len) l r pl pr W (Nat.le_refl _) (by omega) (HN.out.left.below hb) (HN.out.right.below hb) (HD.out.below hb))
    clear hn ihl ihr hT hD hN
    show Calls Tryz.prog 186 #[.pointer (some ⟨b, 0, none⟩), .string x] w _
    go_enter Tryz.func186, Tryz.ntmps186
    go_wp2_with fail
    have hB : ∀ n, Below w.heap.size w (w.drewN n) := bdn (Below.refl _ _)
    have hB1 := (Below.refl w.heap.size w).drew
    have hBd : ∀ n, Below w.heap.size w (w.drewN n).drew := fun n => (bdn (Below.refl _ _) n).drew
    have hBdd : ∀ n m, Below w.heap.size w ((w.drewN n).drewN m).drew := fun n m => (bdn (bdn (Below.refl _ _) n) m).drew
    go_region_held3 (fun W => W.cell? ⟨b, 5, none⟩ = some (pv pl) ∧ W.cell? ⟨b, 6, none⟩ = some (pv pr) ∧ Below w.heap.size w W)
     (first | exact two HN.out (by assumption) | exact two HN.out (hB _) | exact two HN.out (hBd _) | exact two HN.out (hBdd _ _))
     ((go_at_call 209; (with_reducible refine (HG.out _ (by first | assumption | exact hB _)).mono ?_); rintro e w3 ⟨p3, rfl, hm3, hw3⟩; have hb3 := btrans hw3 (by first | assumption | exact hB _)))
    go_wp2_with fail
    go_ret
    exact ⟨p3, rfl, hm3, by assumption⟩
   ·rw [drop_greater h2 h3]
    have hml : (tdrop r x).len ≤ r.len := Tr.drop_len r x
    have HI := Lib.hid (show ∀ W, Below w.heap.size w W → Calls Tryz.prog 186 #[pv pr, .string x] W (Treed (tdrop r x) W) from fun W hb => ihr pr W (HN.out.right.below hb) (HD.out.below hb) (by omega))
    have HG := Lib.hid (fun W p1 (hb : Below w.heap.size w W) (h : Tree W p1 (tdrop r x)) => grow_any (w := W) (l := l) (r := tdrop r x) ⟨HN.out.below hb, HN.out.left.below hb, h, HD.out.below hb⟩ (by omega) (by omega))
    generalize tdrop r x = m at *
    clear hml
    clear hn ihl ihr hT hD hN
    show Calls Tryz.prog 186 #[.pointer (some ⟨b, 0, none⟩), .string x] w _
    go_enter Tryz.func186, Tryz.ntmps186
    go_wp2_with fail
    have hB : ∀ n, Below w.heap.size w (w.drewN n) := bdn (Below.refl _ _)
    have hB1 := (Below.refl w.heap.size w).drew
    have hBd : ∀ n, Below w.heap.size w (w.drewN n).drew := fun n => (bdn (Below.refl _ _) n).drew
    have hBdd : ∀ n m, Below w.heap.size w ((w.drewN n).drewN m).drew := fun n m => (bdn (bdn (Below.refl _ _) n) m).drew
    go_region_held3 (fun W => W.cell? ⟨b, 5, none⟩ = some (pv pl) ∧ W.cell? ⟨b, 6, none⟩ = some (pv pr) ∧ Below w.heap.size w W)
     (first | exact two HN.out (by assumption) | exact two HN.out (hB _) | exact two HN.out (hBd _) | exact two HN.out (hBdd _ _))
     (first
     | (go_at_call 186; (with_reducible refine (HI.out _ (by first | assumption | exact hB _)).mono ?_); rintro e w2 ⟨p2, rfl, hm2, hw2⟩; have hb2 := btrans hw2 (by first | assumption | exact hB _))
     | (go_at_call 115; (with_reducible refine (HG.out _ _ (by assumption) hm2).mono ?_); rintro e w3 ⟨b3, rfl, hm3, hw3⟩; have hb3 := btrans hw3 (by assumption)))
    go_wp2_with fail
    go_ret
    exact ⟨some b3, rfl, hm3, by assumption⟩
  ·rw [drop_lesser h2]
   have hml : (tdrop l x).len ≤ l.len := Tr.drop_len l x
   have HI := Lib.hid (show ∀ W, Below w.heap.size w W → Calls Tryz.prog 186 #[pv pl, .string x] W (Treed (tdrop l x) W) from fun W hb => ihl pl W (HN.out.left.below hb) (HD.out.below hb) (by omega))
   have HG := Lib.hid (fun W p1 (hb : Below w.heap.size w W) (h : Tree W p1 (tdrop l x)) => grow_any (w := W) (l := tdrop l x) (r := r) ⟨HN.out.below hb, h, HN.out.right.below hb, HD.out.below hb⟩ (by omega) (by omega))
   generalize tdrop l x = m at *
   clear hml
   clear hn ihl ihr hT hD hN
   show Calls Tryz.prog 186 #[.pointer (some ⟨b, 0, none⟩), .string x] w _
   go_enter Tryz.func186, Tryz.ntmps186
   go_wp2_with fail
   have hB : ∀ n, Below w.heap.size w (w.drewN n) := bdn (Below.refl _ _)
   have hB1 := (Below.refl w.heap.size w).drew
   have hBd : ∀ n, Below w.heap.size w (w.drewN n).drew := fun n => (bdn (Below.refl _ _) n).drew
   have hBdd : ∀ n m, Below w.heap.size w ((w.drewN n).drewN m).drew := fun n m => (bdn (bdn (Below.refl _ _) n) m).drew
   go_region_held3 (fun W => W.cell? ⟨b, 5, none⟩ = some (pv pl) ∧ W.cell? ⟨b, 6, none⟩ = some (pv pr) ∧ Below w.heap.size w W)
    (first | exact two HN.out (by assumption) | exact two HN.out (hB _) | exact two HN.out (hBd _) | exact two HN.out (hBdd _ _))
    (first
    | (go_at_call 186; (with_reducible refine (HI.out _ (by first | assumption | exact hB _)).mono ?_); rintro e w2 ⟨p2, rfl, hm2, hw2⟩; have hb2 := btrans hw2 (by first | assumption | exact hB _))
    | (go_at_call 115; (with_reducible refine (HG.out _ _ (by assumption) hm2).mono ?_); rintro e w3 ⟨b3, rfl, hm3, hw3⟩; have hb3 := btrans hw3 (by assumption)))
   go_wp2_with fail
   go_ret
   exact ⟨some b3, rfl, hm3, by assumption⟩
end Go.Proofs.YthehblmjloohiaaGreatDoor.T8

namespace Go.Proofs.YthehblmjloohiaaGreatDoor.T8
set_option maxRecDepth 100000
open Go.Shelf
def ren316 : Go.Shelf.Ren := ⟨fun | 316 => 103 | n => n, fun | 9 => 9 | 3 => 3 | 4 => 4 | 37 => 137 | 0 => 0 | 127 => 198 | 5 => 5 | n => n, fun | n => n⟩
theorem laysM316 : Go.Proofs.LaysM.n316 Tryz.prog ren316 := {
 mixed := by kernel_rfl
 f316 := Tryz.func103.trans (congrArg some (by kernel_rfl))
 t0 := Tryz.underlying0
 a0 := Tryz.isAgg0
 z0 := Tryz.sizeOf0
 v0 := Tryz.zeroValue0
 t3 := Tryz.underlying3
 a3 := Tryz.isAgg3
 z3 := Tryz.sizeOf3
 v3 := Tryz.zeroValue3
 t4 := Tryz.underlying4
 a4 := Tryz.isAgg4
 z4 := Tryz.sizeOf4
 v4 := Tryz.zeroValue4
 t9 := Tryz.underlying9
 a9 := Tryz.isAgg9
 z9 := Tryz.sizeOf9
 v9 := Tryz.zeroValue9
 t37 := Tryz.underlying137
 a37 := Tryz.isAgg137
 z37 := Tryz.sizeOf137
 v37 := Tryz.zeroValue137
 t127 := Tryz.underlying198
 a127 := Tryz.isAgg198
 z127 := Tryz.sizeOf198
 v127 := Tryz.zeroValue198
 t5 := Tryz.underlying5
 a5 := Tryz.isAgg5
 z5 := Tryz.sizeOf5
 v5 := Tryz.zeroValue5
 i0 := by kernel_rfl
 i3 := by kernel_rfl
 i4 := by kernel_rfl
 i5 := by kernel_rfl
 i9 := by kernel_rfl
 i37 := by kernel_rfl
 i127 := by kernel_rfl }
open Go.RowKit in
theorem stringslite_Clone (s : ByteArray) (w : World) (hlim : s.size ≤ 281474976710656) :
  Calls Tryz.prog 103 #[.string s] w fun e w' => e = .returned (.string s) ∧ Below w.heap.size w w' := Any.stringslite_Clone laysM316 s w hlim
open Go.RowKit in
theorem clone_any (s : ByteArray) (w : World) (hlim : s.size ≤ 281474976710656) :
  Calls Tryz.prog 66 #[.string s] w fun e w' => e = .returned (.string s) ∧ Below w.heap.size w w' := by
 go_enter Tryz.func66, Tryz.ntmps66
 go_wp2_with fail
 refine (stringslite_Clone s w hlim).mono ?_
 rintro e w' ⟨rfl, hw⟩
 dsimp only
 go_wp2_with fail
 go_ret
 exact ⟨rfl, hw⟩
end Go.Proofs.YthehblmjloohiaaGreatDoor.T8

namespace Go.Proofs.YthehblmjloohiaaGreatDoor.T8
set_option maxRecDepth 100000
open Go.RowKit Go.Less Sha
theorem rank_at (k : ByteArray) (w : World) (g : Nat) (hc : w.cell? ⟨g, 0, none⟩ = some (.string k)) (hD : Dg w) (hk : k.size ≤ 100) :
  Calls Tryz.prog 152 #[.int .u8 2, .slice (some ⟨g, 0, none⟩) 1 1] w fun e w' => e = .returned (.string (rk k)) ∧ Below w.heap.size w w' := by
 have hS : Strs (some ⟨g, 0, none⟩) 1 [k] w :=
  ⟨rfl, fun i hi => ⟨g, 0, rfl, by
   match i, hi with
   | 0, _ => rw [Nat.zero_add]; exact hc⟩⟩
 refine (join_any 2 (some ⟨g, 0, none⟩) 1 1 [k] _ hD.k hD.i hS ?_ (by omega)).mono ?_
 ·simp only [joined, List.flatMap_cons, List.flatMap_nil, List.length_append, num_length, size_data, List.length_nil]; omega
 ·rintro e w' ⟨rfl, h⟩
  exact ⟨rfl, h⟩
theorem above_leaf (k v : ByteArray) (w : World) (hD : Dg w) (hk : k.size ≤ 100) (hv : v.size ≤ 10000) :
  Calls Tryz.prog 263 #[.agg #[.string v, .string ⟨#[]⟩, .int .i64 0], .string k, .agg #[.string ⟨#[]⟩, .string ⟨#[]⟩, .int .i64 0], .agg #[.string ⟨#[]⟩, .string ⟨#[]⟩, .int .i64 0]] w fun e w' => e = .returned (.agg #[.string v, .string (nm (.node .leaf k v .leaf)), .int .i64 1]) ∧ Below w.heap.size w w' := above_lit v ⟨#[]⟩ 0 k .leaf .leaf w hD hk hv (by decide) (by decide)
theorem getd {A B C D E F G : Prop} (h : A ∧ B ∧ C ∧ D ∧ E ∧ F ∧ G) : G := h.2.2.2.2.2.2
def Lf (w : World) (g z : Nat) (v : ByteArray) (W : World) : Prop :=
 W.cell? ⟨g, 0, none⟩ = some (.string v) ∧ W.cell? ⟨g, 1, none⟩ = some (.string ⟨#[]⟩) ∧ W.cell? ⟨g, 2, none⟩ = some (.int .i64 0) ∧ W.cell? ⟨z, 0, none⟩ = some (.string ⟨#[]⟩) ∧ W.cell? ⟨z, 1, none⟩ = some (.string ⟨#[]⟩) ∧ W.cell? ⟨z, 2, none⟩ = some (.int .i64 0) ∧ Below w.heap.size w W
theorem Lf.kept {w w1 W : World} {g z : Nat} {v : ByteArray} (hb : Below w1.heap.size w1 W) (h : Lf w g z v w1) : Lf w g z v W :=
 have q {x : Nat} {o : Nat} {y : Value} (hc : w1.cell? ⟨x, o, none⟩ = some y) : W.cell? ⟨x, o, none⟩ = some y := (hb.cell (p := ⟨x, o, none⟩) (block_lt_of_cell hc)).trans hc
 ⟨q h.1, q h.2.1, q h.2.2.1, q h.2.2.2.1, q h.2.2.2.2.1, q h.2.2.2.2.2.1, btrans hb h.2.2.2.2.2.2⟩
set_option maxHeartbeats 2000000 in
theorem leaf_any (k v : ByteArray) (w : World) (hD : Dg w) (hk : k.size ≤ 100) (hv : v.size ≤ 10000) :
  Calls Tryz.prog 116 #[.string k, .agg #[.string v, .string ⟨#[]⟩, .int .i64 0]] w (Grown (.node .leaf k v .leaf) w) := by
 have hz := zero51
 have hm := method_above
 have HC := Lib.hid (fun W => clone_any k W (by omega))
 have HD := Lib.hid hD
 have HA := Lib.hid (fun W hD => above_leaf k v W hD hk hv)
 clear hD
 go_enter Tryz.func116, Tryz.ntmps116
 go_wp2_with fail
 refine (HC.out _).mono ?_
 rintro e w1 ⟨rfl, hw1⟩
 have hB := balloc (.cells #[.string ⟨#[]⟩, .string ⟨#[]⟩, .int .i64 0] 122) (below_one w (.cells #[.string v, .string ⟨#[]⟩, .int .i64 0] 122))
 have hL : Lf w w.heap.size (w.heap.size + 1) v w1 := Lf.kept hw1 ⟨by go_simp, by go_simp, by go_simp, by go_simp, by go_simp, by go_simp, hB⟩
 clear hw1 hB
 have hL' := Lf.kept (Below.refl w1.heap.size w1).drew hL
 dsimp only
 go_wp2_with fail
 go_region_held3 (fun W => W.cell? ⟨w.heap.size, 0, none⟩ = some (.string v) ∧ W.cell? ⟨w.heap.size, 1, none⟩ = some (.string ⟨#[]⟩) ∧ W.cell? ⟨w.heap.size, 2, none⟩ = some (.int .i64 0) ∧ W.cell? ⟨w.heap.size + 1, 0, none⟩ = some (.string ⟨#[]⟩) ∧ W.cell? ⟨w.heap.size + 1, 1, none⟩ = some (.string ⟨#[]⟩) ∧ W.cell? ⟨w.heap.size + 1, 2, none⟩ = some (.int .i64 0) ∧ Below w.heap.size w W)
  (first | exact hL' | (have hq : Lf w w.heap.size (w.heap.size + 1) v _ := (by assumption); exact hq) | exact Lf.kept (below_one _ _) (by assumption))
  (first
  | (go_at_call 152; (with_reducible refine (rank_at k _ _ (by first | assumption | go_simp) (HD.out.below (getd (by assumption))) hk).mono ?_); rintro e w2 ⟨rfl, hw2⟩; have hl2 := Lf.kept hw2 (by assumption))
  | (go_at_call 263; (with_reducible refine (HA.out _ (HD.out.below (getd (by assumption)))).mono ?_); rintro e w3 ⟨rfl, hw3⟩; have hl3 := Lf.kept hw3 (by assumption)))
 go_wp2_with fail
 go_ret
 have hb := getd hl3
 have h1 := balloc (.cells #[.string k, .string (rk k), .string v, .string (nm (.node .leaf k v .leaf)), .int .i64 1, .pointer none, .pointer none] 151) hb
 exact ⟨w3.heap.size, rfl, ⟨w3.heap.size, none, none, rfl, heap_alloc_new w3 _, hk, hv, rfl, rfl⟩, h1⟩
set_option maxHeartbeats 1000000 in
theorem pair_any (k v : ByteArray) (w : World) (hD : Dg w) (hk : k.size ≤ 100) (hv : v.size ≤ 10000) :
  Calls Tryz.prog 77 #[.string k, .string v] w (Grown (.node .leaf k v .leaf) w) := by
 have HC := Lib.hid (clone_any v w (by omega))
 have HL := Lib.hid (fun W hD => leaf_any k v W hD hk hv)
 have hb51 : ∀ w : World, (Instr.build 122 #[(0, .string v)]).run Tryz.prog w = .ok (.agg #[.string v, .string ⟨#[]⟩, .int .i64 0]) w := fun _ => by kernel_rfl
 go_enter Tryz.func77, Tryz.ntmps77
 go_wp2_with fail
 refine HC.out.mono ?_
 rintro e w1 ⟨rfl, hw1⟩
 dsimp only
 go_wp2_with fail
 refine (HL.out _ (hD.below hw1)).mono ?_
 rintro e w2 ⟨b, rfl, hT, hw2⟩
 dsimp only
 go_wp2_with fail
 go_ret
 exact ⟨b, rfl, hT, btrans hw2 hw1⟩
end Go.Proofs.YthehblmjloohiaaGreatDoor.T8
