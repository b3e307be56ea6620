/- The law TreapDiffs, walked. -/
import Derived.Test.YtheobkepoocamaaGreatDoorAwake
import Derived.Test.YtheobkepoocamaaGreatDoorDoes
import Derived.Test.YtheobkepoocamaaGreatDoorTexts
import Derived.Test.YtheobkepoocamaaGreatDoorRefSh
import Derived.Test.YtheobkepoocamaaGreatDoorRefDiff
namespace Go.Proofs.YtheobkepoocamaaGreatDoor
set_option maxRecDepth 100000
open Go.RowKit Go.Less
/-! ### Rows of acts, one behind the other -/
theorem arow_length (l : List AcT) : (arow l).length = l.length * 3 := by
  induction l with
  | nil => rfl
  | cons x l ih => simp [arow, acell] at ih ⊢; omega
theorem arow_append (a b : List AcT) : arow (a ++ b) = arow a ++ arow b := by simp [arow]
theorem arow_get (l : List AcT) (i j : Nat) (hi : i < l.length) (hj : j < 3) : (arow l)[i * 3 + j]? = (acell (l.getD i a0))[j]? := by
  induction l generalizing i with
  | nil => cases hi
  | cons x l ih =>
    have e : arow (x :: l) = acell x ++ arow l := rfl
    rw [e]
    have hl : (acell x).length = 3 := rfl
    cases i with
    | zero =>
      rw [List.getElem?_append_left (by rw [hl]; omega)]
      simp [List.getD]
    | succ i =>
      rw [List.getElem?_append_right (by rw [hl]; omega), hl, show (i + 1) * 3 + j - 3 = i * 3 + j by omega, ih i (by simpa using hi)]
      simp [List.getD]
theorem info46 : (Tryz.prog.info? 46).map (fun i => (i.zero, i.size, i.bytes)) = some (some (.agg #[.string ⟨#[]⟩, .string ⟨#[]⟩, .bool false]), 3, 40) := by kernel_rfl
theorem ats_news {ad : Addr} {n : Nat} {l : List AcT} {w : World} (h : Ats (some ad) n l w) : ∀ (j : Nat) u, (arow l)[j]? = some u → w.cell? (ad.add j) = some u := by
  intro j u hj
  have hjl : j < l.length * 3 := by
    rw [← arow_length]
    rcases Nat.lt_or_ge j (arow l).length with h1 | h1
    · exact h1
    · rw [List.getElem?_eq_none h1] at hj; cases hj
  have hi : j / 3 < l.length := by omega
  obtain ⟨b, off, e, h0, h1, h2⟩ := h.cell (j / 3) (by rw [h.count]; exact hi)
  injection e with e
  subst e
  have hjj : j = j / 3 * 3 + j % 3 := by omega
  rw [hjj, arow_get l (j / 3) (j % 3) hi (by omega)] at hj
  rw [Go.WideShapes.add_plain]
  have hr : j % 3 = 0 ∨ j % 3 = 1 ∨ j % 3 = 2 := by omega
  rcases hr with hr | hr | hr
  · rw [hr] at hj; rw [show off + j = off + j / 3 * 3 by omega, h0]; simpa [acell] using hj
  · rw [hr] at hj; rw [show off + j = off + j / 3 * 3 + 1 by omega, h1]; simpa [acell] using hj
  · rw [hr] at hj; rw [show off + j = off + j / 3 * 3 + 2 by omega, h2]; simpa [acell] using hj
theorem owned_ats {w : World} {base : Nat} {a : Option Addr} {n cap : Nat} {l : List AcT} (h : w.ownsRow base 46 3 (.slice a n cap) n (arow l)) : Ats a n l w := by
  have hn : n = l.length := by have := h.1; rw [arow_length] at this; omega
  refine ⟨hn, fun i hi => ?_⟩
  have h2 := h
  obtain ⟨hl, ⟨e, h0⟩ | ⟨g, cap', cur, e, _⟩⟩ := h
  · omega
  · injection e with e1 e2 e3
    subst e1
    have hc : ∀ j, j < 3 → w.cell? ⟨g, i * 3 + j, none⟩ = (acell (l.getD i a0))[j]? := fun j hj => by
      rw [World.ownsRow.cellAt h2 (i * 3 + j) (by omega)]; exact arow_get l i j (by omega) hj
    refine ⟨g, 0, rfl, ?_, ?_, ?_⟩
    · rw [Nat.zero_add]; exact hc 0 (by decide)
    · rw [Nat.zero_add]; exact hc 1 (by decide)
    · rw [Nat.zero_add]; exact hc 2 (by decide)
theorem arow_one (l : List AcT) : ∀ u ∈ arow l, u.oneCell' = true := by
  intro u hu
  obtain ⟨x, _, hx⟩ := List.mem_flatMap.1 hu
  simp only [acell, List.mem_cons, List.not_mem_nil, or_false] at hx
  rcases hx with rfl | rfl | rfl <;> rfl
theorem at_app_acts {ops : Array Oper} {rest : List Oper} {o : Oper} {a : Act} {Q : Exit → Act → World → Prop} {w : World} (hgd : o.guard = none) (s x : Operand)
    (ho : o.op = .call { callee := .builtin .append, args := #[s, x], argTypes := #[22, 22] }) (base : Nat) (v : Value) (n : Nat) (xs : List AcT) (hs : a.eval s = v) (hown : w.ownsRow base 46 3 v n (arow xs))
    (ao : Option Addr) (len cap : Nat) (ss : List AcT) (hx : a.eval x = .slice ao len cap) (hS : Ats ao len ss w) (hnil : ao = none → len = 0 ∧ cap = 0) (hlen : n + len ≤ 1000) (hbase : base ≤ w.heap.size)
    (h : ∀ ao' cap' w', w'.ownsRow base 46 3 (.slice ao' (n + len) cap') (n + len) (arow (xs ++ ss)) → w.grownBy w' v.ownBlock → wpList Tryz.prog ops Q rest (a.put o.dst (.slice ao' (n + len) cap')) w') :
    wpList Tryz.prog ops Q (o :: rest) a w := by
  obtain ⟨i0, hi, hz0, hz1, hz2⟩ := info_parts info46
  cases ao with
  | none =>
    obtain ⟨rfl, rfl⟩ := hnil rfl
    have hss : ss = [] := List.eq_nil_of_length_eq_zero hS.count.symm
    subst hss
    refine wpList_append_own_none hgd s x 22 ho base 46 i0 3 Tryz.underlying22 hi v n (arow xs) hs hown hx ?_
    obtain ⟨a', c', rfl⟩ := owns_form hown
    exact h a' c' w (by rw [List.append_nil]; exact hown) (World.grownBy.refl _ _)
  | some ad =>
    refine wpList_append_own w hgd s x 22 ho base 46 i0 (.agg #[.string ⟨#[]⟩, .string ⟨#[]⟩, .bool false]) 3 40 Tryz.underlying22 hi hz0 hz1 hz2 rfl (by decide) v n (arow xs) hs hown ad len cap (arow ss) hx (by rw [arow_length, ← hS.count]) (ats_news hS) (arow_one ss) (by unfold maxLen; omega) (by omega) hbase ?_
    intro v' w' hown' hg _
    obtain ⟨ao', cap', rfl⟩ := owns_form hown'
    exact h ao' cap' w' (by rw [arow_append]; exact hown') hg
theorem owns_newa (w : World) : (w.alloc (.cells #[] 46)).ownsRow w.heap.size 46 3 (.slice (some ⟨w.heap.size, 0, none⟩) 0 0) 0 (arow []) :=
  ⟨rfl, .inr ⟨w.heap.size, 0, #[], rfl, Nat.le_refl _, heap_alloc_new w _, Nat.le_refl _, by decide, rfl, rfl⟩⟩
/-! ### How many trees are shared: the same of both -/
theorem names_perm (l : List Pr) : (dn l).Perm (snames l)  := Tr.T.names_subs (⟨#[]⟩ : ByteArray) jn (cn l)
theorem cnt_perm {x x' y y' : List ByteArray} (h1 : x.Perm x') (h2 : y.Perm y') : cnt x y = cnt x' y' := by
  unfold cnt
  have e : (x.filter fun n => amid n y) = x.filter fun n => amid n y' := List.filter_congr fun n _ => by
    rw [Bool.eq_iff_iff, amid_iff, amid_iff]; exact h2.mem_iff
  rw [e]
  exact (h1.filter _).length_eq
theorem cnt_same (p q : List Pr) : cnt (snames p) (snames q) = cnt (dn p) (dn q) := (cnt_perm (names_perm p) (names_perm q)).symm
/-! ### The law -/
/-- What lies there when all was done. -/
structure Held (w : World) (p n o : List Pr) (mp mn mo : Option Nat) (ap_ an ao : Option Addr) (W : World) : Prop where
  rp : Rp W mp p
  rn : Rp W mn n
  ro : Rp W mo o
  pp : Prs ap_ p.length p W
  pn : Prs an n.length n W
  po : Prs ao o.length o W
  below : Below w.heap.size w W
theorem Held.kept {w W W' : World} {p n o : List Pr} {mp mn mo : Option Nat} {ap_ an ao : Option Addr} (h : Held w p n o mp mn mo ap_ an ao W) (hb : Below W.heap.size W W') : Held w p n o mp mn mo ap_ an ao W' :=
  ⟨h.rp.below hb, h.rn.below hb, h.ro.below hb, h.pp.below hb, h.pn.below hb, h.po.below hb, btr hb h.below⟩
theorem texts_same {a b : Option Addr} {la ca lb cb : Nat} {s : List ByteArray} {w : World} (hA : Strs a la s w) (hB : Strs b lb s w) (hl : la ≤ 100000) (hl2 : lb ≤ 100000) :
    Calls Tryz.prog 7 #[.slice a la ca, .slice b lb cb] w fun e w' => e = .returned (.bool true) ∧ Below w.heap.size w w' :=
  (texts_any a b la ca lb cb s s w hA hB (by omega) (by omega)).mono fun e w' ⟨h1, n, h2⟩ => ⟨by rw [h1, show rowsAlike s s = true from by unfold rowsAlike; simp], by rw [h2]; exact bdn (Below.refl _ _) n⟩
def Fine (w : World) (e : Ending) (w' : World) : Prop := e = .returned (.bool true) ∧ Below w.heap.size w w'
set_option maxHeartbeats 8000000 in
theorem law_any {a b : Option Addr} {na nb ca cb : Nat} {la lb : List AcT} {w : World} (hA : Ats a na la w) (hB : Ats b nb lb w) (hna : a = none → na = 0 ∧ ca = 0) (hnb : b = none → nb = 0 ∧ cb = 0) (hla : na ≤ 140737488355328) (hlb : nb ≤ 140737488355328) (hD : Dg w) :
    Calls Tryz.prog 3 #[.slice a na ca, .slice b nb cb] w (Fine w) := by
  have HA := Lib.hid hA
  have HB := Lib.hid hB
  have HNA := Lib.hid hna
  have HNB := Lib.hid hnb
  have HD := Lib.hid hD
  have HAw := Lib.hid (awake_any w hD)
  have HFa := Lib.hid (fun W (h : Below w.heap.size w W) => few_any (c := ca) (hA.below h) hla)
  have HFb := Lib.hid (fun W (h : Below w.heap.size w W) => few_any (c := cb) (hB.below h) hlb)
  clear hA hB hna hnb hla hlb hD
  go_enter Tryz.func3, Tryz.ntmps3
  go_wp2_with fail
  refine HAw.out.mono ?_
  rintro e w1 ⟨rfl, hw1⟩
  have HW1 := Lib.hid hw1
  clear hw1
  dsimp only
  go_wp2_with fail
  refine (HFa.out _ HW1.out).mono ?_
  rintro e w' ⟨rfl, rfl⟩
  cases hfa : fewB la
  · dsimp only
    go_wp2_with fail
    go_ret
    exact ⟨rfl, HW1.out⟩
  · dsimp only
    go_wp2_with fail
    refine (HFb.out _ HW1.out).mono ?_
    rintro e w' ⟨rfl, rfl⟩
    cases hfb : fewB lb
    · dsimp only
      go_wp2_with fail
      go_ret
      exact ⟨rfl, HW1.out⟩
    · unfold fewB at hfa hfb
      rw [Bool.and_eq_true, decide_eq_true_eq] at hfa hfb
      have HXA := Lib.hid hfa
      have HXB := Lib.hid hfb
      have hca := HA.out.count
      have hcb := HB.out.count
      have HLA := Lib.hid (show na ≤ 60 by omega)
      have HLB := Lib.hid (show nb ≤ 60 by omega)
      have hall : (la ++ lb).all okAct = true := by rw [List.all_append, hfa.2, hfb.2]; rfl
      have HALL := Lib.hid hall
      have hRa := run_short la hfa.2 la.length (Nat.le_refl _)
      have hRb := run_short lb hfb.2 lb.length (Nat.le_refl _)
      have hRn := run_short (la ++ lb) hall (la ++ lb).length (Nat.le_refl _)
      rw [List.take_length] at hRa hRb hRn
      rw [List.length_append] at hRn
      have HRA := Lib.hid (show Short (run la) ∧ (run la).length ≤ 60 from ⟨hRa.1, by omega⟩)
      have HRB := Lib.hid (show Short (run lb) ∧ (run lb).length ≤ 60 from ⟨hRb.1, by omega⟩)
      have HRN := Lib.hid (show Short (run (la ++ lb)) ∧ (run (la ++ lb)).length ≤ 120 from ⟨hRn.1, by omega⟩)
      clear hfa hfb hca hcb hall hRa hRb hRn HFa HFb HAw
      dsimp only
      go_wp2_with fail
      refine (does_any (HA.out.below HW1.out) (Nat.le_trans HLA.out (by decide)) HXA.out.2 (HD.out.below HW1.out)).mono ?_
      rintro e w2 ⟨mp, ap_, cp, rfl, hp, hpp, hcp, hw2⟩
      have HP2 := Lib.hid hp
      have HPP2 := Lib.hid hpp
      have HCP := Lib.hid hcp
      have HW2 := Lib.hid (btr hw2 HW1.out)
      clear hp hpp hcp hw2
      dsimp only
      have HO3 := Lib.hid (owns_newa w2)
      have HK3 := Lib.hid (below_one w2 (.cells #[] 46))
      have HA3 := Lib.hid ((HA.out.below HW2.out).below HK3.out)
      have HLA0 := Lib.hid (show 0 + na ≤ 1000 by have := HLA.out; omega)
      have HLAB := Lib.hid (show na + nb ≤ 1000 by have := HLA.out; have := HLB.out; omega)
      go_wp2_with (first
        | (at_builtin; refine at_app_acts rfl _ _ rfl w2.heap.size _ 0 [] (by rfl) HO3.out a na ca la (by rfl) HA3.out HNA.out HLA0.out HK3.out.size ?_; intro ao4 cap4 w4 hown4 hgrow4; simp only [Nat.zero_add, List.nil_append] at hown4 ⊢; have HK4 := Lib.hid (HK3.out.grown hgrow4 HK3.out.size (fun j hj => (owns_lt HO3.out j hj).1)); have HO4 := Lib.hid hown4; have HB4 := Lib.hid ((HB.out.below HW2.out).below HK4.out); clear hown4 hgrow4)
        | (at_builtin; refine at_app_acts rfl _ _ rfl w2.heap.size _ na la (by rfl) HO4.out b nb cb lb (by rfl) HB4.out HNB.out HLAB.out HK4.out.size ?_; intro ao5 cap5 w5 hown5 hgrow5; have HK5 := Lib.hid (HK4.out.grown hgrow5 HK4.out.size (fun j hj => (owns_lt HO4.out j hj).1)); have HO5 := Lib.hid hown5; clear hown5 hgrow5)
        | fail)
      have HATS := Lib.hid (owned_ats HO5.out)
      have HK5w := Lib.hid (btr HK5.out HW2.out)
      have HP5 := Lib.hid (HP2.out.below HK5.out)
      have HPP5 := Lib.hid (HPP2.out.below HK5.out)
      have HLN := Lib.hid (show na + nb ≤ 200 by have := HLA.out; have := HLB.out; omega)
      clear HO3 HK3 HA3 HK4 HO4 HB4 HO5 HK5 HP2 HPP2
      refine (does_any HATS.out HLN.out HALL.out (HD.out.below HK5w.out)).mono ?_
      rintro e w6 ⟨mn, an, cn_, rfl, hn, hpn, hcn, hw6⟩
      have HN6 := Lib.hid hn
      have HPN6 := Lib.hid hpn
      have HCN := Lib.hid hcn
      have HW6 := Lib.hid (btr hw6 HK5w.out)
      have HP6 := Lib.hid (HP5.out.below hw6)
      have HPP6 := Lib.hid (HPP5.out.below hw6)
      clear hn hpn hcn hw6 HATS HP5 HPP5 HK5w
      dsimp only
      go_wp2_with fail
      refine (does_any (HB.out.below HW6.out) (Nat.le_trans HLB.out (by decide)) HXB.out.2 (HD.out.below HW6.out)).mono ?_
      rintro e w7 ⟨mo, ao, co, rfl, ho, hpo, hco, hw7⟩
      have HH := Lib.hid (show Held w (run la) (run (la ++ lb)) (run lb) mp mn mo ap_ an ao w7 from ⟨HP6.out.below hw7, HN6.out.below hw7, ho, HPP6.out.below hw7, HPN6.out.below hw7, hpo, btr hw7 HW6.out⟩)
      have HCO := Lib.hid hco
      clear ho hpo hco hw7 HN6 HPN6 HP6 HPP6 HW6 HW2 HW1 HA HB HNA HNB HD HXA HXB HALL HLA HLB HLA0 HLAB HLN
      have HRAw := Lib.hid (show (run la).length ≤ 5000 by have := HRA.out.2; omega)
      have HRBw := Lib.hid (show (run lb).length ≤ 5000 by have := HRB.out.2; omega)
      have HRNw := Lib.hid (show (run (la ++ lb)).length ≤ 5000 by have := HRN.out.2; omega)
      have hd1 := Tr.diff_length less _ (run la) (run (la ++ lb)) (Nat.le_refl _)
      have hd2 := Tr.diff_length less _ (run la) (run lb) (Nat.le_refl _)
      have HDL1 := Lib.hid (show (Tr.diff less (run la) (run (la ++ lb))).length ≤ 100000 by have := HRA.out.2; have := HRN.out.2; omega)
      have HDL2 := Lib.hid (show (Tr.diff less (run la) (run lb)).length ≤ 100000 by have := HRA.out.2; have := HRB.out.2; omega)
      have HS1 := Lib.hid (cnt_same (run la) (run (la ++ lb)))
      have HS2 := Lib.hid (cnt_same (run lb) (run la))
      clear hd1 hd2
      generalize run la = p at *
      generalize run (la ++ lb) = n at *
      generalize run lb = o at *
      dsimp only
      go_wp2_with fail
      refine (diff_any HH.out.rp HH.out.rn HRAw.out HRNw.out).mono ?_
      rintro e w8 ⟨x1, y1, rfl, ho1, hw8⟩
      have HH8 := Lib.hid (HH.out.kept hw8)
      have HT8 := Lib.hid (owned_strs ho1).1
      clear ho1 hw8 HH
      dsimp only
      go_wp2_with fail
      refine (rdiff_any p n ap_ an p.length n.length cp cn_ w8 HH8.out.pp HH8.out.pn HRAw.out HRNw.out).mono ?_
      rintro e w9 ⟨x2, y2, rfl, ho2, hw9⟩
      have HH9 := Lib.hid (HH8.out.kept hw9)
      have HT9 := Lib.hid (HT8.out.below hw9)
      have HU9 := Lib.hid (owned_strs ho2).1
      clear ho2 hw9 HH8 HT8
      dsimp only
      go_wp2_with fail
      refine (texts_same HT9.out HU9.out HDL1.out HDL1.out).mono ?_
      rintro e w10 ⟨rfl, hw10⟩
      have HH10 := Lib.hid (HH9.out.kept hw10)
      clear hw10 HH9 HT9 HU9
      dsimp only
      go_wp2_with fail
      refine (diff_any HH10.out.rp HH10.out.ro HRAw.out HRBw.out).mono ?_
      rintro e w11 ⟨x3, y3, rfl, ho1, hw11⟩
      have HH11 := Lib.hid (HH10.out.kept hw11)
      have HT11 := Lib.hid (owned_strs ho1).1
      clear ho1 hw11 HH10
      dsimp only
      go_wp2_with fail
      refine (rdiff_any p o ap_ ao p.length o.length cp co w11 HH11.out.pp HH11.out.po HRAw.out HRBw.out).mono ?_
      rintro e w12 ⟨x4, y4, rfl, ho2, hw12⟩
      have HH12 := Lib.hid (HH11.out.kept hw12)
      have HT12 := Lib.hid (HT11.out.below hw12)
      have HU12 := Lib.hid (owned_strs ho2).1
      clear ho2 hw12 HH11 HT11
      dsimp only
      go_wp2_with fail
      refine (texts_same HT12.out HU12.out HDL2.out HDL2.out).mono ?_
      rintro e w13 ⟨rfl, hw13⟩
      have HH13 := Lib.hid (HH12.out.kept hw13)
      clear hw13 HH12 HT12 HU12
      dsimp only
      go_wp2_with fail
      refine (shared_any HH13.out.rp HH13.out.rn HRAw.out HRNw.out).mono ?_
      rw [HS1.out]
      rintro e w14 ⟨rfl, hw14⟩
      have HH14 := Lib.hid (HH13.out.kept hw14)
      clear hw14 HH13
      dsimp only
      go_wp2_with fail
      refine (rshared_any p n ap_ an p.length n.length cp cn_ w14 HH14.out.pp HH14.out.pn (Nat.le_trans HRA.out.2 (by decide)) (Nat.le_trans HRN.out.2 (by decide)) HCP.out HCN.out HRA.out.1 HRN.out.1).mono ?_
      rintro e w15 ⟨rfl, hw15⟩
      have HH15 := Lib.hid (HH14.out.kept hw15)
      clear hw15 HH14
      generalize cnt (dn p) (dn n) = z1
      dsimp only
      go_wp2_with fail
      refine (shared_any HH15.out.ro HH15.out.rp HRBw.out HRAw.out).mono ?_
      rw [HS2.out]
      rintro e w16 ⟨rfl, hw16⟩
      have HH16 := Lib.hid (HH15.out.kept hw16)
      clear hw16 HH15
      dsimp only
      go_wp2_with fail
      refine (rshared_any o p ao ap_ o.length p.length co cp w16 HH16.out.po HH16.out.pp (Nat.le_trans HRB.out.2 (by decide)) (Nat.le_trans HRA.out.2 (by decide)) HCO.out HCP.out HRB.out.1 HRA.out.1).mono ?_
      rintro e w17 ⟨rfl, hw17⟩
      have HH17 := Lib.hid (HH16.out.kept hw17)
      clear hw17 HH16
      generalize cnt (dn o) (dn p) = z2
      dsimp only
      go_wp2_with fail
      go_ret
      exact ⟨rfl, HH17.out.below⟩
end Go.Proofs.YtheobkepoocamaaGreatDoor
