/- split, merge. put, drop. -/
import Derived.Test.YtheobkepoocamaaGreatDoorGrow
namespace Go.Proofs.YtheobkepoocamaaGreatDoor
set_option maxRecDepth 100000
open Go.RowKit Go.Less Sha
attribute [local go_sem 9000] sem_eql sem_neq sem_lss sem_leq sem_gtr sem_geq
/-- Two trees are answered. -/
def Parted (x : Tt × Tt) (w : World) (e : Ending) (w' : World) : Prop := ∃ pa pb, e = .returned (.tuple #[pv pa, pv pb]) ∧ Tree w' pa x.1 ∧ Tree w' pb x.2 ∧ Below w.heap.size w w'
/-- A tree is answered. -/
def Treed (t : Tt) (w : World) (e : Ending) (w' : World) : Prop := ∃ p, e = .returned (pv p) ∧ Tree w' p t ∧ Below w.heap.size w w'
theorem two {w : World} {b : Nat} {l : Tt} {k v : ByteArray} {r : Tt} {pl pr : Option Nat} {W : World} (h : Node w b l k v r pl pr) (hb : Below w.heap.size w W) : W.cell? ⟨b, 5, none⟩ = some (pv pl) ∧ W.cell? ⟨b, 6, none⟩ = some (pv pr) ∧ Below w.heap.size w W := ⟨(h.below hb).c5, (h.below hb).c6, hb⟩
theorem split_more {l r : Tt} {k v x : ByteArray} (h : less k x = true) : (Tr.T.node l k v r).split less x = (.node l k v (r.split less x).1, (r.split less x).2) := by
  conv => lhs; unfold Tr.T.split
  rw [if_pos h]
theorem split_less {l r : Tt} {k v x : ByteArray} (h : less k x = false) : (Tr.T.node l k v r).split less x = ((l.split less x).1, .node (l.split less x).2 k v r) := by
  conv => lhs; unfold Tr.T.split
  rw [if_neg (by simp [h])]
set_option maxHeartbeats 2000000 in
theorem split_any (x : ByteArray) : ∀ (t : Tt) (p : Option Nat) (w : World), Tree w p t → Dg w → t.len ≤ 100000 → Calls Tryz.prog 44 #[pv p, .string x] w (Parted (t.split less x) w) := by
  intro t
  induction t with
  | leaf =>
    intro p w hT hD hn
    obtain rfl : p = none := hT
    clear hD hn
    show Calls Tryz.prog 44 #[.pointer none, .string x] w _
    go_enter Tryz.func44, Tryz.ntmps44
    go_wp2_with fail
    go_ret2
    exact ⟨none, none, rfl, rfl, rfl, Below.refl _ _⟩
  | node l k v r ihl ihr =>
    intro p w hT hD hn
    obtain ⟨b, pl, pr, rfl, hN⟩ := tree_node hT
    simp only [Tr.T.len] at hn
    have HI := Lib.hid (ihl pl w hN.left hD (by omega))
    have HJ := Lib.hid (ihr pr w hN.right hD (by omega))
    have HN := Lib.hid hN
    have HD := Lib.hid hD
    have hs1 := Tr.split_len (lt := less) l x
    have hs2 := Tr.split_len (lt := less) r x
    have HS := Lib.hid (show (l.split less x).2.len ≤ 1000000 ∧ (r.split less x).1.len ≤ 1000000 ∧ l.len ≤ 1000000 ∧ r.len ≤ 1000000 from ⟨by omega, by omega, by omega, by omega⟩)
    have c0 := hN.c0
    have c5 := hN.c5
    have c6 := hN.c6
    have hb := hN.lt
    clear hT hD hN ihl ihr hs1 hs2 hn
    show Calls Tryz.prog 44 #[.pointer (some ⟨b, 0, none⟩), .string x] w _
    cases hx : less k x
    · rw [split_less hx]
      go_enter Tryz.func44, Tryz.ntmps44
      go_wp2_with fail
      refine HI.out.mono ?_
      rintro e w1 ⟨pa, pb, rfl, ha, hp, hw1⟩
      have c6' := (hw1.cell (p := ⟨b, 6, none⟩) hb).trans c6
      have HA := Lib.hid ha
      have HP := Lib.hid hp
      have HW := Lib.hid hw1
      clear ha hp hw1
      dsimp only
      go_wp2_with fail
      refine (grow_any ⟨HN.out.below HW.out, HP.out, HN.out.right.below HW.out, HD.out.below HW.out⟩ HS.out.1 HS.out.2.2.2).mono ?_
      rintro e w2 ⟨b2, rfl, hg, hw2⟩
      have HG := Lib.hid hg
      have HW2 := Lib.hid hw2
      clear hg hw2
      dsimp only
      go_wp2_with fail
      go_ret2
      exact ⟨pa, some b2, rfl, HA.out.below HW2.out, HG.out, btrans HW2.out HW.out⟩
    · rw [split_more hx]
      go_enter Tryz.func44, Tryz.ntmps44
      go_wp2_with fail
      refine HJ.out.mono ?_
      rintro e w1 ⟨pa, pb, rfl, ha, hp, hw1⟩
      have c5' := (hw1.cell (p := ⟨b, 5, none⟩) hb).trans c5
      have HA := Lib.hid ha
      have HP := Lib.hid hp
      have HW := Lib.hid hw1
      clear ha hp hw1
      dsimp only
      go_wp2_with fail
      refine (grow_any ⟨HN.out.below HW.out, HN.out.left.below HW.out, HA.out, HD.out.below HW.out⟩ HS.out.2.2.1 HS.out.2.1).mono ?_
      rintro e w2 ⟨b2, rfl, hg, hw2⟩
      have HG := Lib.hid hg
      have HW2 := Lib.hid hw2
      clear hg hw2
      dsimp only
      go_wp2_with fail
      go_ret2
      exact ⟨some b2, pb, rfl, HG.out, HP.out.below HW2.out, btrans HW2.out HW.out⟩
abbrev mrg (a b : Tt) : Tt := Tr.T.merge less less rk a b
set_option maxHeartbeats 4000000 in
theorem merge_any : ∀ (n : Nat) (t u : Tt) (p q : Option Nat) (w : World), t.len + u.len ≤ n → n ≤ 100000 → Tree w p t → Tree w q u → Dg w → Calls Tryz.prog 49 #[pv p, pv q] w (Treed (mrg t u) w) := by
  intro n
  induction n with
  | zero =>
    intro t u p q w hn _ hT hU _
    cases t with
    | node l k v r => simp only [Tr.T.len] at hn; omega
    | leaf =>
      obtain rfl : p = none := hT
      have HU := Lib.hid hU
      have hm : mrg .leaf u = u := Tr.T.merge_leaf ..
      rw [hm]
      clear hn hU hm
      show Calls Tryz.prog 49 #[.pointer none, pv q] w _
      go_enter Tryz.func49, Tryz.ntmps49
      go_wp2_with fail
      go_ret
      exact ⟨q, rfl, HU.out, Below.refl _ _⟩
  | succ n ih =>
    intro t u p q w hn hle hT hU hD
    cases t with
    | leaf =>
      obtain rfl : p = none := hT
      have HU := Lib.hid hU
      have hm : mrg .leaf u = u := Tr.T.merge_leaf ..
      rw [hm]
      clear hn hU hm ih hle hD
      show Calls Tryz.prog 49 #[.pointer none, pv q] w _
      go_enter Tryz.func49, Tryz.ntmps49
      go_wp2_with fail
      go_ret
      exact ⟨q, rfl, HU.out, Below.refl _ _⟩
    | node l k v r =>
      cases u with
      | leaf =>
        obtain ⟨b, pl, pr, rfl, hN⟩ := tree_node hT
        obtain rfl : q = none := hU
        have HT := Lib.hid hT
        have hm : mrg (.node l k v r) .leaf = .node l k v r := Tr.T.merge_node_leaf ..
        rw [hm]
        clear hn hT hm ih hle hD hN
        show Calls Tryz.prog 49 #[.pointer (some ⟨b, 0, none⟩), .pointer none] w _
        go_enter Tryz.func49, Tryz.ntmps49
        go_wp2_with fail
        go_ret
        exact ⟨some b, rfl, HT.out, Below.refl _ _⟩
      | node l' k' v' r' =>
        obtain ⟨b, pl, pr, rfl, hN⟩ := tree_node hT
        obtain ⟨b', pl', pr', rfl, hN'⟩ := tree_node hU
        simp only [Tr.T.len] at hn
        have HA := Lib.hid (ahead_any hN hN')
        have hlt := hN.lt
        have hlt' := hN'.lt
        have c5 := hN.c5
        have c6 := hN.c6
        have c5' := hN'.c5
        have c6' := hN'.c6
        have HN := Lib.hid hN
        have HN' := Lib.hid hN'
        have HD := Lib.hid hD
        have HT := Lib.hid hT
        have HU := Lib.hid hU
        cases ha : ahd k k'
        · have hm : mrg (.node l k v r) (.node l' k' v' r') = .node (mrg (.node l k v r) l') k' v' r' := Tr.T.merge_behind less less rk ha ..
          rw [hm]
          have hml : (mrg (.node l k v r) l').len = l.len + 1 + r.len + l'.len := Tr.merge_len ..
          have HI := Lib.hid (show ∀ W, Below w.heap.size w W → Calls Tryz.prog 49 #[.pointer (some ⟨b, 0, none⟩), pv pl'] W (Treed (mrg (.node l k v r) l') W) from fun W (hb : Below w.heap.size w W) => ih (.node l k v r) l' (some b) pl' W (by simp only [Tr.T.len]; omega) (by omega) (HT.out.below hb) (HN'.out.left.below hb) (HD.out.below hb))
          have HG := Lib.hid (fun W p1 (hb : Below w.heap.size w W) (h : Tree W p1 (mrg (.node l k v r) l')) => grow_any (w := W) (l := mrg (.node l k v r) l') ⟨HN'.out.below hb, h, HN'.out.right.below hb, HD.out.below hb⟩ (by omega) (by omega))
          generalize mrg (.node l k v r) l' = m at *
          clear hn hle ih hT hU hD hN hN' hm hml
          show Calls Tryz.prog 49 #[.pointer (some ⟨b, 0, none⟩), .pointer (some ⟨b', 0, none⟩)] w _
          go_enter Tryz.func49, Tryz.ntmps49
          go_wp2_with fail
          refine HA.out.mono ?_
          rintro e w1 ⟨rfl, hw1⟩
          rw [ha]
          have hB := hw1.drew
          dsimp only
          go_wp2_with fail
          go_region_held3 (fun W => W.cell? ⟨b', 5, none⟩ = some (pv pl') ∧ W.cell? ⟨b', 6, none⟩ = some (pv pr') ∧ Below w.heap.size w W)
            (first | exact two HN'.out (by assumption))
            (first
            | (go_at_call 49; (with_reducible refine (HI.out _ (by assumption)).mono ?_); rintro e w2 ⟨p2, rfl, hm2, hw2⟩; have hb2 := btrans hw2 (by assumption))
            | (go_at_call 45; (with_reducible refine (HG.out _ _ (by assumption) hm2).mono ?_); rintro e w3 ⟨b3, rfl, hm3, hw3⟩; have hb3 := btrans hw3 (by assumption)))
          go_wp2_with fail
          go_ret
          exact ⟨some b3, rfl, hm3, by assumption⟩
        · have hm : mrg (.node l k v r) (.node l' k' v' r') = .node l k v (mrg r (.node l' k' v' r')) := Tr.T.merge_ahead less less rk ha ..
          rw [hm]
          have hml : (mrg r (.node l' k' v' r')).len = r.len + (l'.len + 1 + r'.len) := Tr.merge_len ..
          have HI := Lib.hid (show ∀ W, Below w.heap.size w W → Calls Tryz.prog 49 #[pv pr, .pointer (some ⟨b', 0, none⟩)] W (Treed (mrg r (.node l' k' v' r')) W) from fun W (hb : Below w.heap.size w W) => ih r (.node l' k' v' r') pr (some b') W (by simp only [Tr.T.len]; omega) (by omega) (HN.out.right.below hb) (HU.out.below hb) (HD.out.below hb))
          have HG := Lib.hid (fun W p1 (hb : Below w.heap.size w W) (h : Tree W p1 (mrg r (.node l' k' v' r'))) => grow_any (w := W) (r := mrg r (.node l' k' v' r')) ⟨HN.out.below hb, HN.out.left.below hb, h, HD.out.below hb⟩ (by omega) (by omega))
          generalize mrg r (.node l' k' v' r') = m at *
          clear hn hle ih hT hU hD hN hN' hm hml
          show Calls Tryz.prog 49 #[.pointer (some ⟨b, 0, none⟩), .pointer (some ⟨b', 0, none⟩)] w _
          go_enter Tryz.func49, Tryz.ntmps49
          go_wp2_with fail
          refine HA.out.mono ?_
          rintro e w1 ⟨rfl, hw1⟩
          rw [ha]
          have hB := hw1.drew
          dsimp only
          go_wp2_with fail
          go_region_held3 (fun W => W.cell? ⟨b, 5, none⟩ = some (pv pl) ∧ W.cell? ⟨b, 6, none⟩ = some (pv pr) ∧ Below w.heap.size w W)
            (first | exact two HN.out (by assumption))
            (first
            | (go_at_call 49; (with_reducible refine (HI.out _ (by assumption)).mono ?_); rintro e w2 ⟨p2, rfl, hm2, hw2⟩; have hb2 := btrans hw2 (by assumption))
            | (go_at_call 45; (with_reducible refine (HG.out _ _ (by assumption) hm2).mono ?_); rintro e w3 ⟨b3, rfl, hm3, hw3⟩; have hb3 := btrans hw3 (by assumption)))
          go_wp2_with fail
          go_ret
          exact ⟨some b3, rfl, hm3, by assumption⟩
end Go.Proofs.YtheobkepoocamaaGreatDoor
namespace Go.Proofs.YtheobkepoocamaaGreatDoor
set_option maxRecDepth 100000
open Go.RowKit Go.Less Sha
attribute [local go_sem 9000] sem_eql sem_neq sem_lss sem_leq sem_gtr sem_geq
abbrev tput (t : Tt) (x y : ByteArray) : Tt := t.put less less rk x y
abbrev tdrop (t : Tt) (x : ByteArray) : Tt := t.drop less less rk x
section
variable {l r : Tt} {k v x y : ByteArray}
theorem put_above (h : ahd x k = true) : tput (.node l k v r) x y = .node ((Tr.T.node l k v r).split less x).1 x y ((Tr.T.node l k v r).split less x).2 := by
  conv => lhs; unfold tput Tr.T.put
  rw [if_pos (show Tr.ahead less less rk x k = true from h)]
theorem put_lesser (h : ahd x k = false) (h2 : less x k = true) : tput (.node l k v r) x y = .node (tput l x y) k v r := by
  conv => lhs; unfold tput Tr.T.put
  rw [if_neg (fun e => by rw [show ahd x k = true from e] at h; cases h), if_pos h2]
theorem put_greater (h : ahd x k = false) (h2 : less x k = false) (h3 : less k x = true) : tput (.node l k v r) x y = .node l k v (tput r x y) := by
  conv => lhs; unfold tput Tr.T.put
  rw [if_neg (fun e => by rw [show ahd x k = true from e] at h; cases h), if_neg (by simp [h2]), if_pos h3]
theorem put_same (h : ahd x k = false) (h2 : less x k = false) (h3 : less k x = false) : tput (.node l k v r) x y = .node l x y r := by
  conv => lhs; unfold tput Tr.T.put
  rw [if_neg (fun e => by rw [show ahd x k = true from e] at h; cases h), if_neg (by simp [h2]), if_neg (by simp [h3])]
theorem drop_lesser (h2 : less x k = true) : tdrop (.node l k v r) x = .node (tdrop l x) k v r := by
  conv => lhs; unfold tdrop Tr.T.drop
  rw [if_pos h2]
theorem drop_greater (h2 : less x k = false) (h3 : less k x = true) : tdrop (.node l k v r) x = .node l k v (tdrop r x) := by
  conv => lhs; unfold tdrop Tr.T.drop
  rw [if_neg (by simp [h2]), if_pos h3]
theorem drop_same (h2 : less x k = false) (h3 : less k x = false) : tdrop (.node l k v r) x = mrg l r := by
  conv => lhs; unfold tdrop Tr.T.drop
  rw [if_neg (by simp [h2]), if_neg (by simp [h3])]
end
set_option maxHeartbeats 4000000 in
theorem put_any (x y : ByteArray) (bw : Nat) : ∀ (t : Tt) (p : Option Nat) (w : World), Tree w p t → Node w bw .leaf x y .leaf none none → Dg w → t.len ≤ 10000 → Calls Tryz.prog 31 #[pv p, .pointer (some ⟨bw, 0, none⟩)] w (Treed (tput t x y) w) := by
  intro t
  induction t with
  | leaf =>
    intro p w hT hW hD hn
    obtain rfl : p = none := hT
    have HW := Lib.hid hW
    have hm : tput .leaf x y = .node .leaf x y .leaf := rfl
    rw [hm]
    clear hW hD hn hm
    show Calls Tryz.prog 31 #[.pointer none, .pointer (some ⟨bw, 0, none⟩)] w _
    go_enter Tryz.func31, Tryz.ntmps31
    go_wp2_with fail
    go_ret
    exact ⟨some bw, rfl, HW.out.tree, Below.refl _ _⟩
  | node l k v r ihl ihr =>
    intro p w hT hW hD hn
    obtain ⟨b, pl, pr, rfl, hN⟩ := tree_node hT
    simp only [Tr.T.len] at hn
    have HA := Lib.hid (ahead_any hW hN)
    have hlt := hN.lt
    have hltw := hW.lt
    have c0 := hN.c0
    have d0 := hW.c0
    have HN := Lib.hid hN
    have HW := Lib.hid hW
    have HD := Lib.hid hD
    have HT := Lib.hid hT
    cases ha : ahd x k
    · cases h2 : less x k
      · cases h3 : less k x
        · -- the same key
          rw [put_same ha h2 h3]
          have HG := Lib.hid (fun W (hb : Below w.heap.size w W) => grow_any (w := W) (l := l) (r := r) ⟨HW.out.below hb, HN.out.left.below hb, HN.out.right.below hb, HD.out.below hb⟩ (by omega) (by omega))
          clear hn ihl ihr hT hD hN hW
          show Calls Tryz.prog 31 #[.pointer (some ⟨b, 0, none⟩), .pointer (some ⟨bw, 0, none⟩)] w _
          go_enter Tryz.func31, Tryz.ntmps31
          go_wp2_with fail
          refine HA.out.mono ?_
          rintro e w1 ⟨rfl, hw1⟩
          rw [ha]
          have c0' := (hw1.cell (p := ⟨b, 0, none⟩) hlt).trans c0
          have d0' := (hw1.cell (p := ⟨bw, 0, none⟩) hltw).trans d0
          dsimp only
          go_wp2_with fail
          go_quiet (fail)
          go_wp2_with fail
          go_quiet (fail)
          go_wp2_with fail
          have hB : ∀ n, Below w.heap.size w (w1.drewN n) := bdn hw1
          have hBd : ∀ n, Below w.heap.size w (w1.drewN n).drew := fun n => (bdn hw1 n).drew
          have hBdd : ∀ n m, Below w.heap.size w ((w1.drewN n).drewN m).drew := fun n m => (bdn (bdn hw1 n) m).drew
          go_region_held3 (fun W => W.cell? ⟨b, 5, none⟩ = some (pv pl) ∧ W.cell? ⟨b, 6, none⟩ = some (pv pr) ∧ Below w.heap.size w W)
            (first | exact two HN.out (by assumption) | exact two HN.out (hB _) | exact two HN.out (hBd _) | exact two HN.out (hBdd _ _))
            ((go_at_call 45; (with_reducible refine (HG.out _ (by first | assumption | exact hB _)).mono ?_); rintro e w3 ⟨b3, rfl, hm3, hw3⟩; have hb3 := btrans hw3 (by first | assumption | exact hB _)))
          go_wp2_with fail
          go_ret
          exact ⟨some b3, rfl, hm3, by assumption⟩
        · rw [put_greater ha h2 h3]
          have hml : (tput r x y).len ≤ r.len + 1 := Tr.tput_len r x y
          have HI := Lib.hid (show ∀ W, Below w.heap.size w W → Calls Tryz.prog 31 #[pv pr, .pointer (some ⟨bw, 0, none⟩)] W (Treed (tput r x y) W) from fun W hb => ihr pr W (HN.out.right.below hb) (HW.out.below hb) (HD.out.below hb) (by omega))
          have HG := Lib.hid (fun W p1 (hb : Below w.heap.size w W) (h : Tree W p1 (tput r x y)) => grow_any (w := W) (l := l) (r := tput r x y) ⟨HN.out.below hb, HN.out.left.below hb, h, HD.out.below hb⟩ (by omega) (by omega))
          generalize tput r x y = m at *
          clear hml
          clear hn ihl ihr hT hD hN hW
          show Calls Tryz.prog 31 #[.pointer (some ⟨b, 0, none⟩), .pointer (some ⟨bw, 0, none⟩)] w _
          go_enter Tryz.func31, Tryz.ntmps31
          go_wp2_with fail
          refine HA.out.mono ?_
          rintro e w1 ⟨rfl, hw1⟩
          rw [ha]
          have c0' := (hw1.cell (p := ⟨b, 0, none⟩) hlt).trans c0
          have d0' := (hw1.cell (p := ⟨bw, 0, none⟩) hltw).trans d0
          dsimp only
          go_wp2_with fail
          go_quiet (fail)
          go_wp2_with fail
          go_quiet (fail)
          go_wp2_with fail
          have hB : ∀ n, Below w.heap.size w (w1.drewN n) := bdn hw1
          have hBd : ∀ n, Below w.heap.size w (w1.drewN n).drew := fun n => (bdn hw1 n).drew
          have hBdd : ∀ n m, Below w.heap.size w ((w1.drewN n).drewN m).drew := fun n m => (bdn (bdn hw1 n) m).drew
          go_region_held3 (fun W => W.cell? ⟨b, 5, none⟩ = some (pv pl) ∧ W.cell? ⟨b, 6, none⟩ = some (pv pr) ∧ Below w.heap.size w W)
            (first | exact two HN.out (by assumption) | exact two HN.out (hB _) | exact two HN.out (hBd _) | exact two HN.out (hBdd _ _))
            (first
            | (go_at_call 31; (with_reducible refine (HI.out _ (by first | assumption | exact hB _)).mono ?_); rintro e w2 ⟨p2, rfl, hm2, hw2⟩; have hb2 := btrans hw2 (by first | assumption | exact hB _))
            | (go_at_call 45; (with_reducible refine (HG.out _ _ (by assumption) hm2).mono ?_); rintro e w3 ⟨b3, rfl, hm3, hw3⟩; have hb3 := btrans hw3 (by assumption)))
          go_wp2_with fail
          go_ret
          exact ⟨some b3, rfl, hm3, by assumption⟩
      · rw [put_lesser ha h2]
        have hml : (tput l x y).len ≤ l.len + 1 := Tr.tput_len l x y
        have HI := Lib.hid (show ∀ W, Below w.heap.size w W → Calls Tryz.prog 31 #[pv pl, .pointer (some ⟨bw, 0, none⟩)] W (Treed (tput l x y) W) from fun W hb => ihl pl W (HN.out.left.below hb) (HW.out.below hb) (HD.out.below hb) (by omega))
        have HG := Lib.hid (fun W p1 (hb : Below w.heap.size w W) (h : Tree W p1 (tput l x y)) => grow_any (w := W) (l := tput l x y) (r := r) ⟨HN.out.below hb, h, HN.out.right.below hb, HD.out.below hb⟩ (by omega) (by omega))
        generalize tput l x y = m at *
        clear hml
        clear hn ihl ihr hT hD hN hW
        show Calls Tryz.prog 31 #[.pointer (some ⟨b, 0, none⟩), .pointer (some ⟨bw, 0, none⟩)] w _
        go_enter Tryz.func31, Tryz.ntmps31
        go_wp2_with fail
        refine HA.out.mono ?_
        rintro e w1 ⟨rfl, hw1⟩
        rw [ha]
        have c0' := (hw1.cell (p := ⟨b, 0, none⟩) hlt).trans c0
        have d0' := (hw1.cell (p := ⟨bw, 0, none⟩) hltw).trans d0
        dsimp only
        go_wp2_with fail
        go_quiet (fail)
        go_wp2_with fail
        have hB : ∀ n, Below w.heap.size w (w1.drewN n) := bdn hw1
        have hBd : ∀ n, Below w.heap.size w (w1.drewN n).drew := fun n => (bdn hw1 n).drew
        have hBdd : ∀ n m, Below w.heap.size w ((w1.drewN n).drewN m).drew := fun n m => (bdn (bdn hw1 n) m).drew
        go_region_held3 (fun W => W.cell? ⟨b, 5, none⟩ = some (pv pl) ∧ W.cell? ⟨b, 6, none⟩ = some (pv pr) ∧ Below w.heap.size w W)
          (first | exact two HN.out (by assumption) | exact two HN.out (hB _) | exact two HN.out (hBd _) | exact two HN.out (hBdd _ _))
          (first
          | (go_at_call 31; (with_reducible refine (HI.out _ (by first | assumption | exact hB _)).mono ?_); rintro e w2 ⟨p2, rfl, hm2, hw2⟩; have hb2 := btrans hw2 (by first | assumption | exact hB _))
          | (go_at_call 45; (with_reducible refine (HG.out _ _ (by assumption) hm2).mono ?_); rintro e w3 ⟨b3, rfl, hm3, hw3⟩; have hb3 := btrans hw3 (by assumption)))
        go_wp2_with fail
        go_ret
        exact ⟨some b3, rfl, hm3, by assumption⟩
    · rw [put_above ha]
      have hsl := Tr.split_len (lt := less) (Tr.T.node l k v r) x
      simp only [Tr.T.len] at hsl
      have HI := Lib.hid (fun W (hb : Below w.heap.size w W) => show Calls Tryz.prog 44 #[.pointer (some ⟨b, 0, none⟩), .string x] W (Parted ((Tr.T.node l k v r).split less x) W) from split_any x (.node l k v r) (some b) W (HT.out.below hb) (HD.out.below hb) (by simp only [Tr.T.len]; omega))
      generalize (Tr.T.node l k v r).split less x = m at *
      have HG := Lib.hid (fun W p1 p2 (hb : Below w.heap.size w W) (h1 : Tree W p1 m.1) (h2 : Tree W p2 m.2) => grow_any (w := W) (l := m.1) (r := m.2) ⟨HW.out.below hb, h1, h2, HD.out.below hb⟩ (by omega) (by omega))
      clear hsl
      clear hn ihl ihr hT hD hN hW
      show Calls Tryz.prog 31 #[.pointer (some ⟨b, 0, none⟩), .pointer (some ⟨bw, 0, none⟩)] w _
      go_enter Tryz.func31, Tryz.ntmps31
      go_wp2_with fail
      refine HA.out.mono ?_
      rintro e w1 ⟨rfl, hw1⟩
      rw [ha]
      have d0' := (hw1.cell (p := ⟨bw, 0, none⟩) hltw).trans d0
      dsimp only
      go_wp2_with fail
      refine (HI.out _ hw1).mono ?_
      rintro e w2 ⟨pa, pb, rfl, ha2, hb2, hw2⟩
      have hB := btrans hw2 hw1
      have HA2 := Lib.hid ha2
      have HB2 := Lib.hid hb2
      clear ha2 hb2
      dsimp only
      go_wp2_with fail
      refine (HG.out _ _ _ hB HA2.out HB2.out).mono ?_
      rintro e w3 ⟨b3, rfl, hm3, hw3⟩
      have hb3 := btrans hw3 hB
      dsimp only
      go_wp2_with fail
      go_ret
      exact ⟨some b3, rfl, hm3, by assumption⟩
set_option maxHeartbeats 4000000 in
theorem drop_any (x : ByteArray) : ∀ (t : Tt) (p : Option Nat) (w : World), Tree w p t → Dg w → t.len ≤ 10000 → Calls Tryz.prog 37 #[pv p, .string x] w (Treed (tdrop t x) w) := by
  intro t
  induction t with
  | leaf =>
    intro p w hT hD hn
    obtain rfl : p = none := hT
    have hm : tdrop .leaf x = .leaf := rfl
    rw [hm]
    clear hD hn hm
    show Calls Tryz.prog 37 #[.pointer none, .string x] w _
    go_enter Tryz.func37, Tryz.ntmps37
    go_wp2_with fail
    go_ret
    exact ⟨none, rfl, rfl, Below.refl _ _⟩
  | node l k v r ihl ihr =>
    intro p w hT hD hn
    obtain ⟨b, pl, pr, rfl, hN⟩ := tree_node hT
    simp only [Tr.T.len] at hn
    have c0 := hN.c0
    have HN := Lib.hid hN
    have HD := Lib.hid hD
    cases h2 : less x k
    · cases h3 : less k x
      · -- the key
        rw [drop_same h2 h3]
        have HG := Lib.hid (fun W (hb : Below w.heap.size w W) => merge_any (l.len + r.len) l r pl pr W (Nat.le_refl _) (by omega) (HN.out.left.below hb) (HN.out.right.below hb) (HD.out.below hb))
        clear hn ihl ihr hT hD hN
        show Calls Tryz.prog 37 #[.pointer (some ⟨b, 0, none⟩), .string x] w _
        go_enter Tryz.func37, Tryz.ntmps37
        go_wp2_with fail
        have hB : ∀ n, Below w.heap.size w (w.drewN n) := bdn (Below.refl _ _)
        have hB1 := (Below.refl w.heap.size w).drew
        have hBd : ∀ n, Below w.heap.size w (w.drewN n).drew := fun n => (bdn (Below.refl _ _) n).drew
        have hBdd : ∀ n m, Below w.heap.size w ((w.drewN n).drewN m).drew := fun n m => (bdn (bdn (Below.refl _ _) n) m).drew
        go_region_held3 (fun W => W.cell? ⟨b, 5, none⟩ = some (pv pl) ∧ W.cell? ⟨b, 6, none⟩ = some (pv pr) ∧ Below w.heap.size w W)
          (first | exact two HN.out (by assumption) | exact two HN.out (hB _) | exact two HN.out (hBd _) | exact two HN.out (hBdd _ _))
          ((go_at_call 49; (with_reducible refine (HG.out _ (by first | assumption | exact hB _)).mono ?_); rintro e w3 ⟨p3, rfl, hm3, hw3⟩; have hb3 := btrans hw3 (by first | assumption | exact hB _)))
        go_wp2_with fail
        go_ret
        exact ⟨p3, rfl, hm3, by assumption⟩
      · rw [drop_greater h2 h3]
        have hml : (tdrop r x).len ≤ r.len := Tr.drop_len r x
        have HI := Lib.hid (show ∀ W, Below w.heap.size w W → Calls Tryz.prog 37 #[pv pr, .string x] W (Treed (tdrop r x) W) from fun W hb => ihr pr W (HN.out.right.below hb) (HD.out.below hb) (by omega))
        have HG := Lib.hid (fun W p1 (hb : Below w.heap.size w W) (h : Tree W p1 (tdrop r x)) => grow_any (w := W) (l := l) (r := tdrop r x) ⟨HN.out.below hb, HN.out.left.below hb, h, HD.out.below hb⟩ (by omega) (by omega))
        generalize tdrop r x = m at *
        clear hml
        clear hn ihl ihr hT hD hN
        show Calls Tryz.prog 37 #[.pointer (some ⟨b, 0, none⟩), .string x] w _
        go_enter Tryz.func37, Tryz.ntmps37
        go_wp2_with fail
        have hB : ∀ n, Below w.heap.size w (w.drewN n) := bdn (Below.refl _ _)
        have hB1 := (Below.refl w.heap.size w).drew
        have hBd : ∀ n, Below w.heap.size w (w.drewN n).drew := fun n => (bdn (Below.refl _ _) n).drew
        have hBdd : ∀ n m, Below w.heap.size w ((w.drewN n).drewN m).drew := fun n m => (bdn (bdn (Below.refl _ _) n) m).drew
        go_region_held3 (fun W => W.cell? ⟨b, 5, none⟩ = some (pv pl) ∧ W.cell? ⟨b, 6, none⟩ = some (pv pr) ∧ Below w.heap.size w W)
          (first | exact two HN.out (by assumption) | exact two HN.out (hB _) | exact two HN.out (hBd _) | exact two HN.out (hBdd _ _))
          (first
          | (go_at_call 37; (with_reducible refine (HI.out _ (by first | assumption | exact hB _)).mono ?_); rintro e w2 ⟨p2, rfl, hm2, hw2⟩; have hb2 := btrans hw2 (by first | assumption | exact hB _))
          | (go_at_call 45; (with_reducible refine (HG.out _ _ (by assumption) hm2).mono ?_); rintro e w3 ⟨b3, rfl, hm3, hw3⟩; have hb3 := btrans hw3 (by assumption)))
        go_wp2_with fail
        go_ret
        exact ⟨some b3, rfl, hm3, by assumption⟩
    · rw [drop_lesser h2]
      have hml : (tdrop l x).len ≤ l.len := Tr.drop_len l x
      have HI := Lib.hid (show ∀ W, Below w.heap.size w W → Calls Tryz.prog 37 #[pv pl, .string x] W (Treed (tdrop l x) W) from fun W hb => ihl pl W (HN.out.left.below hb) (HD.out.below hb) (by omega))
      have HG := Lib.hid (fun W p1 (hb : Below w.heap.size w W) (h : Tree W p1 (tdrop l x)) => grow_any (w := W) (l := tdrop l x) (r := r) ⟨HN.out.below hb, h, HN.out.right.below hb, HD.out.below hb⟩ (by omega) (by omega))
      generalize tdrop l x = m at *
      clear hml
      clear hn ihl ihr hT hD hN
      show Calls Tryz.prog 37 #[.pointer (some ⟨b, 0, none⟩), .string x] w _
      go_enter Tryz.func37, Tryz.ntmps37
      go_wp2_with fail
      have hB : ∀ n, Below w.heap.size w (w.drewN n) := bdn (Below.refl _ _)
      have hB1 := (Below.refl w.heap.size w).drew
      have hBd : ∀ n, Below w.heap.size w (w.drewN n).drew := fun n => (bdn (Below.refl _ _) n).drew
      have hBdd : ∀ n m, Below w.heap.size w ((w.drewN n).drewN m).drew := fun n m => (bdn (bdn (Below.refl _ _) n) m).drew
      go_region_held3 (fun W => W.cell? ⟨b, 5, none⟩ = some (pv pl) ∧ W.cell? ⟨b, 6, none⟩ = some (pv pr) ∧ Below w.heap.size w W)
        (first | exact two HN.out (by assumption) | exact two HN.out (hB _) | exact two HN.out (hBd _) | exact two HN.out (hBdd _ _))
        (first
        | (go_at_call 37; (with_reducible refine (HI.out _ (by first | assumption | exact hB _)).mono ?_); rintro e w2 ⟨p2, rfl, hm2, hw2⟩; have hb2 := btrans hw2 (by first | assumption | exact hB _))
        | (go_at_call 45; (with_reducible refine (HG.out _ _ (by assumption) hm2).mono ?_); rintro e w3 ⟨b3, rfl, hm3, hw3⟩; have hb3 := btrans hw3 (by assumption)))
      go_wp2_with fail
      go_ret
      exact ⟨some b3, rfl, hm3, by assumption⟩
end Go.Proofs.YtheobkepoocamaaGreatDoor
