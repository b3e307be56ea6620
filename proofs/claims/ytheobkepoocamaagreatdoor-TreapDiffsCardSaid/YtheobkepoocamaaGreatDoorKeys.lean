/- The two functions that Diff tells trees to. -/
import Derived.Test.YtheobkepoocamaaGreatDoorOwn
import Derived.Test.YtheobkepoocamaaGreatDoorCanon
import Derived.Test.YtheobkepoocamaaGreatDoorWalk
import Derived.Test.YtheobkepoocamaaGreatDoorSLays
import Derived.Deep.RegionLaw
namespace Go.Proofs.YtheobkepoocamaaGreatDoor
set_option maxRecDepth 100000
open Go.RowKit Go.Less
attribute [local go_sem 9000] sem_eql sem_neq sem_lss sem_leq sem_gtr sem_geq
def pairs (l : List Tt) : List Pr := l.filterMap Tr.T.pair?
theorem pairs_snoc (pre : List Tt) (l : Tt) (k v : ByteArray) (r : Tt) : pairs (pre ++ [.node l k v r]) = pairs pre ++ [(k, v)] := by simp [pairs, Tr.T.pair?]
theorem pairs_len (l : List Tt) : (pairs l).length ≤ l.length := List.length_filterMap_le _ _
theorem pairs_subs (t : Tt) : pairs t.subs = t.rows := Tr.T.subs_rows t
theorem off_snoc_same {xs b : List Pr} {k v : ByteArray} (h : Tr.get b k = some v) : Tr.off (xs ++ [(k, v)]) b = Tr.off xs b := by
  unfold Tr.off; simp [List.filter_append, h]
theorem off_snoc_other {xs b : List Pr} {k v : ByteArray} (h : Tr.get b k ≠ some v) : Tr.off (xs ++ [(k, v)]) b = Tr.off xs b ++ [k] := by
  unfold Tr.off; simp [List.filter_append, h]
theorem off_len (xs b : List Pr) : (Tr.off xs b).length ≤ xs.length := by
  unfold Tr.off; rw [List.length_map]; exact List.length_filter_le _ _
theorem new_snoc_there {a xs : List Pr} {k v : ByteArray} (h : Tr.get a k ≠ none) : Tr.new a (xs ++ [(k, v)]) = Tr.new a xs := by
  unfold Tr.new; simp [List.filter_append, h]
theorem new_snoc_new {a xs : List Pr} {k v : ByteArray} (h : Tr.get a k = none) : Tr.new a (xs ++ [(k, v)]) = Tr.new a xs ++ [k] := by
  unfold Tr.new; simp [List.filter_append, h]
theorem new_len (a xs : List Pr) : (Tr.new a xs).length ≤ xs.length := by
  unfold Tr.new; rw [List.length_map]; exact List.length_filter_le _ _
/-- Keys that are being gathered: two maps in boxes, and the row. -/
structure Ks (w : World) (ga gb gk : Nat) (ma mb : Option Nat) (l : List ByteArray) (W : World) : Prop where
  a : W.heap[ga]? = some (.cells #[pv ma] 25 (0, 0))
  b : W.heap[gb]? = some (.cells #[pv mb] 25 (0, 0))
  keys : ∃ ao cap, W.heap[gk]? = some (.cells #[.slice ao l.length cap] 30 (0, 0)) ∧ W.ownsRow (gk + 1) 9 1 (.slice ao l.length cap) l.length (l.map Value.string)
  lo : w.heap.size ≤ gk
  na : ga < gk
  nb : gb < gk
  below : Below w.heap.size w W
theorem Ks.kept {w W W' : World} {ga gb gk : Nat} {ma mb : Option Nat} {l : List ByteArray} (h : Ks w ga gb gk ma mb l W) (hb : Below W.heap.size W W') : Ks w ga gb gk ma mb l W' := by
  obtain ⟨ao, cap, h1, h2⟩ := h.keys
  exact ⟨(hb.block _ (lt_of_obj h.a)).trans h.a, (hb.block _ (lt_of_obj h.b)).trans h.b, ⟨ao, cap, (hb.block _ (lt_of_obj h1)).trans h1, owned_below h2 hb⟩, h.lo, h.na, h.nb, h.below.trans (hb.mono h.below.size)⟩
theorem cell_obj {w : World} {b : Nat} {cs : Array Value} {t : TypeId} {fr : Nat × Nat} (h : w.heap[b]? = some (.cells cs t fr)) (k : Nat) : w.cell? ⟨b, k, none⟩ = cs[k]? := by
  simp [World.cell?, h]
theorem free_obj {w : World} {b : Nat} {cs : Array Value} {t : TypeId} (h : w.heap[b]? = some (.cells cs t (0, 0))) (k : Nat) : w.frozen? ⟨b, k, none⟩ = false := by
  simp [World.frozen?, h]
theorem grown_obj {w w' : World} {row : Option Nat} {b : Nat} {o : Obj} (hg : w.grownBy w' row) (h : w.heap[b]? = some o) (hne : some b ≠ row) : w'.heap[b]? = some o := (hg.block b (lt_of_obj h) hne).trans h
theorem set_obj {w : World} {b : Nat} {x y : Value} {t : TypeId} (h : w.heap[b]? = some (.cells #[x] t (0, 0))) : (w.setCell ⟨b, 0, none⟩ y).heap[b]? = some (.cells #[y] t (0, 0)) := by
  have := heap_setCell_same w b 0 #[x] t y h
  simpa using this
def Gathers (w : World) (ga gb gk : Nat) (ma mb : Option Nat) (l : List ByteArray) (e : Ending) (W' : World) : Prop := e = .returned (.tuple #[]) ∧ Ks w ga gb gk ma mb l W'
/-- One key more: the row has grown, and lies in its box again. -/
theorem ks_more {w W5 w1 w4 : World} {ga gb gk : Nat} {ma mb : Option Nat} {l : List ByteArray} {k : ByteArray} {ao ao4 : Option Addr} {cap cap4 : Nat} (h : Ks w ga gb gk ma mb l W5) (hw : Below W5.heap.size W5 w1)
    (hO : (w1.alloc (.cells #[.string k] 9)).ownsRow (gk + 1) 9 1 (.slice ao l.length cap) l.length (l.map Value.string))
    (hO4 : w4.ownsRow (gk + 1) 9 1 (.slice ao4 (l.length + 1) cap4) (l.length + 1) (l.map Value.string ++ [.string k]))
    (hg : (w1.alloc (.cells #[.string k] 9)).grownBy w4 (Value.slice ao l.length cap).ownBlock) :
    Ks w ga gb gk ma mb (l ++ [k]) (w4.setCell ⟨gk, 0, none⟩ (.slice ao4 (l.length + 1) cap4)) := by
  have h3 := (h.kept hw).kept (below_one w1 (.cells #[.string k] 9))
  have hne : ∀ x, x ≤ gk → some x ≠ (Value.slice ao l.length cap).ownBlock := fun x hx e => by have := (owns_lt hO x e.symm).1; omega
  have hlt4 : ∀ j, (Value.slice ao4 (l.length + 1) cap4).ownBlock = some j → j ≠ gk := fun j hj e => by have := (owns_lt hO4 j hj).1; omega
  obtain ⟨a0, c0, hk, _⟩ := h3.keys
  have hk4 := grown_obj hg hk (hne gk (Nat.le_refl _))
  have na := h.na
  have nb := h.nb
  have lo := h.lo
  have hl : (l ++ [k]).length = l.length + 1 := by simp
  refine ⟨?_, ?_, ⟨ao4, cap4, ?_, ?_⟩, lo, na, nb, ?_⟩
  · rw [heap_setCell_other w4 ⟨gk, 0, none⟩ ga _ (by show ga ≠ gk; omega)]; exact grown_obj hg h3.a (hne ga (by omega))
  · rw [heap_setCell_other w4 ⟨gk, 0, none⟩ gb _ (by show gb ≠ gk; omega)]; exact grown_obj hg h3.b (hne gb (by omega))
  · rw [hl]; exact set_obj hk4
  · rw [hl, List.map_append]
    refine World.ownsRow.kept hO4 (?_ : w4.grownBy _ (some gk)) (.inr fun e => ?_)
    · exact ⟨rfl, rfl, rfl, by simp [World.setCell], fun j hj hne => heap_setCell_other w4 ⟨gk, 0, none⟩ j _ (fun e => hne (by rw [e]))⟩
    · exact hlt4 gk e rfl
  · refine Below.setCell ?_ lo _
    exact h3.below.grown hg h3.below.size (fun j hj => by have := (owns_lt hO j hj).1; omega)
theorem below_drew {w w' : World} (h : Below w.drew.heap.size w.drew w') : Below w.heap.size w w' := ((Below.refl w.heap.size w).drew).trans h
theorem grown_mid {w W5 w1 w4 : World} {ga gb gk : Nat} {ma mb : Option Nat} {l : List ByteArray} {k : ByteArray} {ao : Option Addr} {cap : Nat} (h : Ks w ga gb gk ma mb l W5) (hw : Below W5.heap.size W5 w1)
    (hO : (w1.alloc (.cells #[.string k] 9)).ownsRow (gk + 1) 9 1 (.slice ao l.length cap) l.length (l.map Value.string)) (hg : (w1.alloc (.cells #[.string k] 9)).grownBy w4 (Value.slice ao l.length cap).ownBlock) :
    (∃ v, w4.heap[gk]? = some (.cells #[v] 30 (0, 0))) ∧ Below w.heap.size w w4 := by
  have h3 := (h.kept hw).kept (below_one w1 (.cells #[.string k] 9))
  obtain ⟨a0, c0, hk, _⟩ := h3.keys
  have lo := h.lo
  exact ⟨⟨_, grown_obj hg hk fun e => by have := (owns_lt hO gk e.symm).1; omega⟩, h3.below.grown hg h3.below.size (fun j hj => by have := (owns_lt hO j hj).1; omega)⟩
set_option maxHeartbeats 4000000 in
theorem keys1_any (w : World) (ga gb gk : Nat) (ma mb : Option Nat) (lb : List Pr) (m : Nat) (hm : m ≤ 100000) (hM : Rp w mb lb) :
    Tells 22 #[.pointer (some ⟨gb, 0, none⟩), .pointer (some ⟨gk, 0, none⟩)] m w (fun pre W => Ks w ga gb gk ma mb (Tr.off (pairs pre) lb) W) := by
  intro pre b l k v r pl pr W hp hK hN
  have hK : Ks w ga gb gk ma mb (Tr.off (pairs pre) lb) W := hK
  show Calls Tryz.prog 22 #[.pointer (some ⟨b, 0, none⟩), .pointer (some ⟨gb, 0, none⟩), .pointer (some ⟨gk, 0, none⟩)] W (Gathers w ga gb gk ma mb (Tr.off (pairs (pre ++ [.node l k v r])) lb))
  rw [pairs_snoc]
  have hlen : (Tr.off (pairs pre) lb).length ≤ 200000 := by have := off_len (pairs pre) lb; have := pairs_len pre; omega
  have HLen := Lib.hid hlen
  generalize pairs pre = xs at *
  have HM := Lib.hid (fun W1 (hb : Below W.heap.size W W1) => treeOf_any (w := W1) ((hM.below hK.below).below hb).map)
  have hf := cn_find hM.sorted k
  have HK := Lib.hid hK
  have HN := Lib.hid hN
  have HC := Lib.hid (fun W1 => clone_any k W1 (Nat.le_trans hN.key (by decide)))
  have hNW := hN.below hK.below
  have HD := Lib.hid hNW
  have ck := hNW.c0
  have cv := hNW.c2
  have cm : W.cell? ⟨gb, 0, none⟩ = some (pv mb) := cell_obj hK.b 0
  have HS := Lib.hid (show ∀ W1, Below W.heap.size W W1 → W1.cell? ⟨b, 0, none⟩ = some (.string k) ∧ W1.cell? ⟨gb, 0, none⟩ = some (pv mb) ∧ Below W.heap.size W W1 from fun W1 hb => ⟨(hNW.below hb).c0, cell_obj (hK.kept hb).b 0, hb⟩)
  have hBd := (Below.refl W.heap.size W).drew
  clear hp hK hN hM hlen hNW
  cases hu : Tr.T.find less (cn lb) k with
  | leaf =>
    rw [hu] at hf
    have HE := Lib.hid (off_snoc_other (xs := xs) (b := lb) (k := k) (v := v) (by rw [← hf]; simp [Tr.T.val]))
    clear hf
    generalize Tr.off xs lb = XL at *
    go_enter Tryz.func22, Tryz.ntmps22
    go_wp2_with fail
    go_region_held3 (fun W1 => W1.cell? ⟨b, 0, none⟩ = some (.string k) ∧ W1.cell? ⟨gb, 0, none⟩ = some (pv mb) ∧ Below W.heap.size W W1)
      (first | exact HS.out _ (by assumption))
      (first
      | (go_at_call 21; (with_reducible refine (HM.out _ (by assumption)).mono ?_); rintro e w1 ⟨p, rfl, hpt, rfl⟩)
      | (go_at_call 23; (with_reducible refine (find_any hpt k).mono ?_); rw [hu]; rintro e w1 ⟨q, rfl, hq, rfl⟩; obtain rfl : q = none := hq; simp only [pv, ap_none]))
    go_wp2_with fail
    go_quiet (fail)
    have HK5 := Lib.hid (HK.out.kept (bdn hBd nq))
    generalize W.drew.drewN nq = W5 at HK5 ⊢
    obtain ⟨ao, cap, hk1, hk2⟩ := HK5.out.keys
    have ck5 : W5.cell? ⟨gk, 0, none⟩ = some (.slice ao XL.length cap) := cell_obj hk1 0
    have hgk := lt_of_obj hk1
    have HO5 := Lib.hid hk2
    have HS5 := Lib.hid (show ∀ W1, Below W5.heap.size W5 W1 → W1.cell? ⟨b, 0, none⟩ = some (.string k) from fun W1 hb => (HN.out.below (HK5.out.below.trans (hb.mono HK5.out.below.size))).c0)
    have hB5 := (Below.refl W5.heap.size W5).drew
    clear hk1 hk2
    go_wp2_with fail
    have ckb := HS5.out _ (Below.refl W5.heap.size W5)
    go_region_law (first
      | (refine step_app1 rfl _ _ rfl (gk + 1) _ XL.length (XL.map Value.string) (by rfl) HO3.out w1.heap.size (.string k) (by rfl) (by simp) rfl (Nat.le_trans HLen.out (by decide)) HZ.out ?_; intro ao4 cap4 w4 hown4 hgrow4; have HK4 := Lib.hid (ks_more HK5.out hw1 HO3.out hown4 hgrow4); have hmid := grown_mid HK5.out hw1 HO3.out hgrow4; have HB4 := Lib.hid hmid.2; obtain ⟨v4, hk4⟩ := hmid.1; have ck4 := cell_obj hk4 0; have fk4 := free_obj hk4 0; clear hown4 hgrow4 hk4 hmid)
      | (go_simp; (with_reducible refine (HC.out _).mono ?_); rintro e w1 ⟨rfl, hw1d⟩; have hw1 := below_drew hw1d; have ck1 := (hw1.cell (p := ⟨gk, 0, none⟩) hgk).trans ck5; have hgk1 := Nat.lt_of_lt_of_le hgk hw1.size; have HB3 := Lib.hid (hw1.trans ((below_one w1 (.cells #[.string k] 9)).mono hw1.size)); have HO3 := Lib.hid (owned_below (owned_below HO5.out hw1) (below_one w1 (.cells #[.string k] 9))); have HZ := Lib.hid (Nat.le_trans (Nat.succ_le_of_lt hgk) HB3.out.size)))
    all_goals
      go_wp2_with fail
      go_end0
      exact ⟨rfl, by rw [HE.out]; exact HK4.out⟩
  | node l' k' v' r' =>
    rw [hu] at hf
    cases hv : alike v' v
    · have HE := Lib.hid (off_snoc_other (xs := xs) (b := lb) (k := k) (v := v) (by rw [← hf]; intro e; injection e with e; rw [alike_eq.2 e] at hv; cases hv))
      clear hf
      generalize Tr.off xs lb = XL at *
      go_enter Tryz.func22, Tryz.ntmps22
      go_wp2_with fail
      go_region_held3 (fun W1 => W1.cell? ⟨b, 0, none⟩ = some (.string k) ∧ W1.cell? ⟨gb, 0, none⟩ = some (pv mb) ∧ Below W.heap.size W W1)
        (first | exact HS.out _ (by assumption))
        (first
        | (go_at_call 21; (with_reducible refine (HM.out _ (by assumption)).mono ?_); rintro e w1 ⟨p, rfl, hpt, rfl⟩)
        | (go_at_call 23; (with_reducible refine (find_any hpt k).mono ?_); rw [hu]; rintro e w1 ⟨q, rfl, hq, rfl⟩; obtain ⟨bq, plq, prq, rfl, hNq⟩ := tree_node hq; have cq : W.cell? ⟨bq, 2, none⟩ = some (.string v') := hNq.c2; simp only [pv, ap_some]))
      go_wp2_with fail
      go_quiet (fail)
      have HK5 := Lib.hid (HK.out.kept (bdn hBd nq))
      generalize W.drew.drewN nq = W5 at HK5 ⊢
      obtain ⟨ao, cap, hk1, hk2⟩ := HK5.out.keys
      have ck5 : W5.cell? ⟨gk, 0, none⟩ = some (.slice ao XL.length cap) := cell_obj hk1 0
      have hgk := lt_of_obj hk1
      have HO5 := Lib.hid hk2
      have HS5 := Lib.hid (show ∀ W1, Below W5.heap.size W5 W1 → W1.cell? ⟨b, 0, none⟩ = some (.string k) from fun W1 hb => (HN.out.below (HK5.out.below.trans (hb.mono HK5.out.below.size))).c0)
      have hB5 := (Below.refl W5.heap.size W5).drew
      clear hk1 hk2
      go_wp2_with fail
      have ckb := HS5.out _ (Below.refl W5.heap.size W5)
      go_region_law (first
        | (refine step_app1 rfl _ _ rfl (gk + 1) _ XL.length (XL.map Value.string) (by rfl) HO3.out w1.heap.size (.string k) (by rfl) (by simp) rfl (Nat.le_trans HLen.out (by decide)) HZ.out ?_; intro ao4 cap4 w4 hown4 hgrow4; have HK4 := Lib.hid (ks_more HK5.out hw1 HO3.out hown4 hgrow4); have hmid := grown_mid HK5.out hw1 HO3.out hgrow4; have HB4 := Lib.hid hmid.2; obtain ⟨v4, hk4⟩ := hmid.1; have ck4 := cell_obj hk4 0; have fk4 := free_obj hk4 0; clear hown4 hgrow4 hk4 hmid)
        | (go_simp; (with_reducible refine (HC.out _).mono ?_); rintro e w1 ⟨rfl, hw1d⟩; have hw1 := below_drew hw1d; have ck1 := (hw1.cell (p := ⟨gk, 0, none⟩) hgk).trans ck5; have hgk1 := Nat.lt_of_lt_of_le hgk hw1.size; have HB3 := Lib.hid (hw1.trans ((below_one w1 (.cells #[.string k] 9)).mono hw1.size)); have HO3 := Lib.hid (owned_below (owned_below HO5.out hw1) (below_one w1 (.cells #[.string k] 9))); have HZ := Lib.hid (Nat.le_trans (Nat.succ_le_of_lt hgk) HB3.out.size)))
      all_goals
        go_wp2_with fail
        go_end0
        exact ⟨rfl, by rw [HE.out]; exact HK4.out⟩
    · have HE := Lib.hid (off_snoc_same (xs := xs) (b := lb) (k := k) (v := v) (by rw [← hf]; exact congrArg some (alike_eq.1 hv)))
      clear hf
      generalize Tr.off xs lb = XL at *
      go_enter Tryz.func22, Tryz.ntmps22
      go_wp2_with fail
      go_region_held3 (fun W1 => W1.cell? ⟨b, 0, none⟩ = some (.string k) ∧ W1.cell? ⟨gb, 0, none⟩ = some (pv mb) ∧ Below W.heap.size W W1)
        (first | exact HS.out _ (by assumption))
        (first
        | (go_at_call 21; (with_reducible refine (HM.out _ (by assumption)).mono ?_); rintro e w1 ⟨p, rfl, hpt, rfl⟩)
        | (go_at_call 23; (with_reducible refine (find_any hpt k).mono ?_); rw [hu]; rintro e w1 ⟨q, rfl, hq, rfl⟩; obtain ⟨bq, plq, prq, rfl, hNq⟩ := tree_node hq; have cq : W.cell? ⟨bq, 2, none⟩ = some (.string v') := hNq.c2; simp only [pv, ap_some]))
      go_wp2_with fail
      go_quiet (fail)
      have HK5 := Lib.hid (HK.out.kept (bdn hBd nq))
      generalize W.drew.drewN nq = W5 at HK5 ⊢
      go_wp2_with fail
      go_end0
      exact ⟨rfl, by rw [HE.out]; exact HK5.out⟩
set_option maxHeartbeats 4000000 in
theorem keys2_any (w : World) (ga gb gk : Nat) (ma mb : Option Nat) (la : List Pr) (l0 : List ByteArray) (hl0 : l0.length ≤ 100000) (m : Nat) (hm : m ≤ 100000) (hM : Rp w ma la) :
    Tells 25 #[.pointer (some ⟨ga, 0, none⟩), .pointer (some ⟨gk, 0, none⟩)] m w (fun pre W => Ks w ga gb gk ma mb (l0 ++ Tr.new la (pairs pre)) W) := by
  intro pre b l k v r pl pr W hp hK hN
  have hK : Ks w ga gb gk ma mb (l0 ++ Tr.new la (pairs pre)) W := hK
  show Calls Tryz.prog 25 #[.pointer (some ⟨b, 0, none⟩), .pointer (some ⟨ga, 0, none⟩), .pointer (some ⟨gk, 0, none⟩)] W (Gathers w ga gb gk ma mb (l0 ++ Tr.new la (pairs (pre ++ [.node l k v r]))))
  rw [pairs_snoc]
  have hlen : (l0 ++ Tr.new la (pairs pre)).length ≤ 200000 := by have := new_len la (pairs pre); rw [List.length_append]; have := pairs_len pre; omega
  have HLen := Lib.hid hlen
  generalize pairs pre = xs at *
  have HM := Lib.hid (fun W1 (hb : Below W.heap.size W W1) => treeOf_any (w := W1) ((hM.below hK.below).below hb).map)
  have hf := cn_find hM.sorted k
  have HK := Lib.hid hK
  have HN := Lib.hid hN
  have HC := Lib.hid (fun W1 => clone_any k W1 (Nat.le_trans hN.key (by decide)))
  have hNW := hN.below hK.below
  have HD := Lib.hid hNW
  have ck := hNW.c0
  have cv := hNW.c2
  have cm : W.cell? ⟨ga, 0, none⟩ = some (pv ma) := cell_obj hK.a 0
  have HS := Lib.hid (show ∀ W1, Below W.heap.size W W1 → W1.cell? ⟨b, 0, none⟩ = some (.string k) ∧ W1.cell? ⟨ga, 0, none⟩ = some (pv ma) ∧ Below W.heap.size W W1 from fun W1 hb => ⟨(hNW.below hb).c0, cell_obj (hK.kept hb).a 0, hb⟩)
  have hBd := (Below.refl W.heap.size W).drew
  clear hp hK hN hM hlen hNW
  cases hu : Tr.T.find less (cn la) k with
  | leaf =>
    rw [hu] at hf
    have HE := Lib.hid (show l0 ++ Tr.new la (xs ++ [(k, v)]) = (l0 ++ Tr.new la xs) ++ [k] by rw [new_snoc_new (by rw [← hf]; rfl), List.append_assoc])
    clear hf
    generalize l0 ++ Tr.new la xs = XL at *
    go_enter Tryz.func25, Tryz.ntmps25
    go_wp2_with fail
    go_region_held3 (fun W1 => W1.cell? ⟨b, 0, none⟩ = some (.string k) ∧ W1.cell? ⟨ga, 0, none⟩ = some (pv ma) ∧ Below W.heap.size W W1)
      (first | exact HS.out _ (by assumption))
      (first
      | (go_at_call 21; (with_reducible refine (HM.out _ (by assumption)).mono ?_); rintro e w1 ⟨p, rfl, hpt, rfl⟩)
      | (go_at_call 23; (with_reducible refine (find_any hpt k).mono ?_); rw [hu]; rintro e w1 ⟨q, rfl, hq, rfl⟩; obtain rfl : q = none := hq; simp only [pv, ap_none]))
    go_wp2_with fail
    have HK5 := Lib.hid (HK.out.kept (hBd))
    generalize W.drew = W5 at HK5 ⊢
    obtain ⟨ao, cap, hk1, hk2⟩ := HK5.out.keys
    have ck5 : W5.cell? ⟨gk, 0, none⟩ = some (.slice ao XL.length cap) := cell_obj hk1 0
    have hgk := lt_of_obj hk1
    have HO5 := Lib.hid hk2
    have HS5 := Lib.hid (show ∀ W1, Below W5.heap.size W5 W1 → W1.cell? ⟨b, 0, none⟩ = some (.string k) from fun W1 hb => (HN.out.below (HK5.out.below.trans (hb.mono HK5.out.below.size))).c0)
    have hB5 := (Below.refl W5.heap.size W5).drew
    clear hk1 hk2
    go_wp2_with fail
    have ckb := HS5.out _ (Below.refl W5.heap.size W5)
    go_region_law (first
      | (refine step_app1 rfl _ _ rfl (gk + 1) _ XL.length (XL.map Value.string) (by rfl) HO3.out w1.heap.size (.string k) (by rfl) (by simp) rfl (Nat.le_trans HLen.out (by decide)) HZ.out ?_; intro ao4 cap4 w4 hown4 hgrow4; have HK4 := Lib.hid (ks_more HK5.out hw1 HO3.out hown4 hgrow4); have hmid := grown_mid HK5.out hw1 HO3.out hgrow4; have HB4 := Lib.hid hmid.2; obtain ⟨v4, hk4⟩ := hmid.1; have ck4 := cell_obj hk4 0; have fk4 := free_obj hk4 0; clear hown4 hgrow4 hk4 hmid)
      | (go_simp; (with_reducible refine (HC.out _).mono ?_); rintro e w1 ⟨rfl, hw1d⟩; have hw1 := below_drew hw1d; have ck1 := (hw1.cell (p := ⟨gk, 0, none⟩) hgk).trans ck5; have hgk1 := Nat.lt_of_lt_of_le hgk hw1.size; have HB3 := Lib.hid (hw1.trans ((below_one w1 (.cells #[.string k] 9)).mono hw1.size)); have HO3 := Lib.hid (owned_below (owned_below HO5.out hw1) (below_one w1 (.cells #[.string k] 9))); have HZ := Lib.hid (Nat.le_trans (Nat.succ_le_of_lt hgk) HB3.out.size)))
    all_goals
      go_wp2_with fail
      go_end0
      exact ⟨rfl, by rw [HE.out]; exact HK4.out⟩
  | node l' k' v' r' =>
    rw [hu] at hf
    have HE := Lib.hid (show l0 ++ Tr.new la (xs ++ [(k, v)]) = l0 ++ Tr.new la xs by rw [new_snoc_there (by rw [← hf]; simp [Tr.T.val])])
    clear hf
    generalize l0 ++ Tr.new la xs = XL at *
    go_enter Tryz.func25, Tryz.ntmps25
    go_wp2_with fail
    go_region_held3 (fun W1 => W1.cell? ⟨b, 0, none⟩ = some (.string k) ∧ W1.cell? ⟨ga, 0, none⟩ = some (pv ma) ∧ Below W.heap.size W W1)
      (first | exact HS.out _ (by assumption))
      (first
      | (go_at_call 21; (with_reducible refine (HM.out _ (by assumption)).mono ?_); rintro e w1 ⟨p, rfl, hpt, rfl⟩)
      | (go_at_call 23; (with_reducible refine (find_any hpt k).mono ?_); rw [hu]; rintro e w1 ⟨q, rfl, hq, rfl⟩; obtain ⟨bq, plq, prq, rfl, hNq⟩ := tree_node hq; have cq : W.cell? ⟨bq, 2, none⟩ = some (.string v') := hNq.c2; simp only [pv, ap_some]))
    go_wp2_with fail
    have HK5 := Lib.hid (HK.out.kept (hBd))
    generalize W.drew = W5 at HK5 ⊢
    go_end0
    exact ⟨rfl, by rw [HE.out]; exact HK5.out⟩
end Go.Proofs.YtheobkepoocamaaGreatDoor
