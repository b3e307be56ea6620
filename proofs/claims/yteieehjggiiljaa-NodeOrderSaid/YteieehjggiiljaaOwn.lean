/- A node in memory of its own, as the program copies it. -/
import Derived.Test.YteieehjggiiljaaRefWout
import Derived.Test.YteieehjggiiljaaSLays
import Derived.Deep.RegionLaw
namespace Go.Proofs.Yteieehjggiiljaa
set_option maxRecDepth 100000
open Go.RowKit Go.Less
attribute [local go_sem 9000] sem_eql sem_neq sem_lss sem_leq sem_gtr sem_geq
theorem clone_any (s : ByteArray) (w : World) (hlim : s.size ≤ 281474976710656) :
    Calls Try.prog 33 #[.string s] w fun e w' => e = .returned (.string s) ∧ Below w.heap.size w w' := by
  go_enter Try.func33, Try.ntmps33
  go_wp2_with fail
  refine (Any.stringslite_Clone laysM316 s w hlim).mono ?_
  rintro e w' ⟨rfl, hw⟩
  dsimp only
  go_wp2_with fail
  go_ret
  exact ⟨rfl, hw⟩
/-- One entry more, as a step of a region that draws. -/
theorem step_ent {ops : Array Oper} {o : Oper} {a : Act} {w : World} {K : Act → World → Prop} {Q : Exit → Act → World → Prop} {E : Prop} (hgd : o.guard = none) (s x : Operand)
    (ho : o.op = .call { callee := .builtin .append, args := #[s, x], argTypes := #[22, 22] })
    (base : Nat) (v : Value) (l : List En) (hs : a.eval s = v) (hown : Own base v l w)
    (b : Nat) (u : En) (hx : a.eval x = .slice (some ⟨b, 0, none⟩) 1 1) (hc : w.heap[b]? = some (.cells #[.string u.1, .int .i64 u.2] 46 (0, 0))) (hn : l.length ≤ 1000000) (hbase : base ≤ w.heap.size)
    (h : ∀ ao' cap' w', Own base (.slice ao' (l.length + 1) cap') (l ++ [u]) w' → w.grownBy w' v.ownBlock → K (a.put o.dst (.slice ao' (l.length + 1) cap')) w') :
    if Region.wanted o (yielded ops a.tmps) = true then Oper.wp Try.prog o a w K Q else E := by
  have hw : Region.wanted o (yielded ops a.tmps) = true := by simp [Region.wanted, hgd]
  rw [if_pos hw]
  obtain ⟨i0, hi, hz0, hz1, hz2⟩ := info_parts info46
  refine wp_append_own w s x 22 ho base 46 i0 (.agg #[.string ⟨#[]⟩, .int .i64 0]) 2 24 Try.underlying22 hi hz0 hz1 hz2 rfl (by decide) v l.length (erow l) hs hown ⟨b, 0, none⟩ 1 1 (ecell u) hx rfl ?_ ?_ (by unfold maxLen; omega) (by omega) hbase ?_
  · intro j y hj
    rw [show (⟨b, 0, none⟩ : Addr).add j = ⟨b, j, none⟩ by unfold Addr.add; split <;> simp_all]
    match j with
    | 0 => simp [ecell] at hj; subst hj; simp [World.cell?, hc]
    | 1 => simp [ecell] at hj; subst hj; simp [World.cell?, hc]
    | j + 2 => simp [ecell] at hj
  · intro y hy
    simp [ecell] at hy
    rcases hy with rfl | rfl <;> rfl
  · intro v' w' hown' hg _
    obtain ⟨ao', cap', rfl⟩ := owns_form hown'
    refine h ao' cap' w' ?_ hg
    unfold Own
    rw [List.length_append, erow_append]
    simpa [erow, ecell] using hown'
theorem gat_kept {w wr W : World} {cs : Array Value} {l : List En} {v : Value} (h : Gat w cs l v wr) (hb : Below wr.heap.size wr W) : Gat w cs l v W :=
  ⟨owned_below h.own hb, (hb.block _ (lt_of_obj h.box)).trans h.box, (hb.block _ (lt_of_obj h.res)).trans h.res, Nat.le_trans h.big hb.size, h.below.trans (hb.mono h.below.size)⟩
theorem below_drew {w w' : World} (h : Below w.drew.heap.size w.drew w') : Below w.heap.size w w' := ((Below.refl w.heap.size w).drew).trans h
theorem below_one (w : World) (o : Obj) : Below w.heap.size w (w.alloc o) := (Below.refl _ w).alloc (Nat.le_refl _) _
/-- A node handed back in memory of the call's own. -/
def Owned (x : Nd.Node) (w : World) (e : Ending) (w' : World) : Prop :=
  ∃ ao cap, e = .returned (nv x.kind x.mode x.data x.target ao x.ents.length cap) ∧ Own w.heap.size (.slice ao x.ents.length cap) x.ents w' ∧ Below w.heap.size w w'
theorem own_mono {b b' : Nat} {v : Value} {l : List En} {w : World} (h : Own b v l w) (hb : b' ≤ b) : Own b' v l w := by
  refine ⟨h.1, ?_⟩
  rcases h.2 with h1 | ⟨g, cap, cur, e, h2, r⟩
  · exact .inl h1
  · exact .inr ⟨g, cap, cur, e, Nat.le_trans hb h2, r⟩
theorem gat_set3 {w W : World} {k m : Int} {d t d' t' : ByteArray} {u e : Value} {l : List En} {v : Value} (h : Gat w #[.int .i64 k, .int .i64 m, .string d, .string t, u] l v W) :
    Gat w #[.int .i64 k, .int .i64 m, .string d', .string t', e] l v (((W.setCell ⟨w.heap.size, 2, none⟩ (.string d')).setCell ⟨w.heap.size, 3, none⟩ (.string t')).setCell ⟨w.heap.size, 4, none⟩ e) := by
  have h2 := heap_setCell_same W w.heap.size 2 _ 24 (.string d') h.box
  have h3 := heap_setCell_same _ w.heap.size 3 _ 24 (.string t') h2
  have h4 := heap_setCell_same _ w.heap.size 4 _ 24 e h3
  refine ⟨own_set (own_set (own_set h.own (by omega) 2 _) (by omega) 3 _) (by omega) 4 _, by simpa using h4, ?_, ?_, ((h.below.setCell (Nat.le_refl _) _).setCell (Nat.le_refl _) _).setCell (Nat.le_refl _) _⟩
  · have hne : w.heap.size + 1 ≠ w.heap.size := by omega
    rw [heap_setCell_other _ ⟨w.heap.size, 4, none⟩ (w.heap.size + 1) _ hne, heap_setCell_other _ ⟨w.heap.size, 3, none⟩ (w.heap.size + 1) _ hne, heap_setCell_other _ ⟨w.heap.size, 2, none⟩ (w.heap.size + 1) _ hne]
    exact h.res
  · have := h.big
    simpa [World.setCell] using this
theorem results_one {fn : Func} {p : Tmp} (h : fn.results = #[.cell p 24]) (tmps : Array Value) (w : World) (g : Nat) (k m d t e : Value)
    (hp : tmps.getD p undef = .pointer (some ⟨g, 0, none⟩)) (hg : w.heap[g]? = some (.cells #[k, m, d, t, e] 24 (0, 0))) :
    (results fn tmps).run Try.prog w = .ok (.agg #[k, m, d, t, e]) w :=
  results_cell_row (P := Try.prog) h _ _ g 24 #[k, m, d, t, e] (0, 0) _ hp hg Try.underlying24 rfl size24
set_option maxHeartbeats 4000000 in
theorem own_any (k m : Int) (d t : ByteArray) (a : Option Addr) (n cap : Nat) (l : List En) (w : World) (hE : Ents a n l w) (hn : n ≤ 100000) (hs : ∀ j, j < n → (l.getD j z0).1.size ≤ 100000) (hd : d.size ≤ 100000) (ht : t.size ≤ 100000) :
    Calls Try.prog 26 #[nv k m d t a n cap] w (Owned ⟨k, m, d, t, l⟩ w) := by
  have HNL := Lib.hid hE.count
  have hni : (n : Int) ≤ 100000 := by omega
  have HE := Lib.hid (fun W (hb : Below w.heap.size w W) => hE.below hb)
  have HS := Lib.hid hs
  have HB0 := Lib.hid (show ∀ x y : Obj, Below w.heap.size w ((w.alloc x).alloc y) from fun x y => ((Below.refl _ w).alloc (Nat.le_refl _) _).alloc (by simp) _)
  have HCd := Lib.hid (fun W => clone_any d W (by omega))
  have HCt := Lib.hid (fun W => clone_any t W (by omega))
  clear hE hs hd ht
  go_enter Try.func26, Try.ntmps26
  go_wp2_with fail
  go_loopw [3, 9] (fun v i wr => ∃ j : Nat, j ≤ n ∧ i = .int .i64 j ∧ Gat w #[.int .i64 k, .int .i64 m, .string d, .string t, .slice a n cap] (l.take j) v wr) (fun _ i _ => n - (intOf i).toNat)
  case atStart => exact ⟨0, Nat.zero_le _, rfl, ⟨own_nil _ _, two0 _ _ _, two1 _ _ _, two2 _ _ _, HB0.out _ _⟩⟩
  case round =>
    obtain ⟨j, hj, rfl, hG⟩ := hrel
    obtain ⟨ao, cp, rfl⟩ := owns_form hG.own
    by_cases hlt : j < n
    · have j0 : (j : Int) < (n : Int) := by omega
      have hj0 : (0 : Int) ≤ (j : Int) := by omega
      obtain ⟨b, off, rfl, c0, c1⟩ := (HE.out _ hG.below).cell j hlt
      have hjl : j < l.length := by rw [← HNL.out]; exact hlt
      have HT := Lib.hid (take_snoc hjl z0)
      have HLen := Lib.hid (show (l.take j).length ≤ 100000 by rw [List.length_take]; omega)
      have hsz := HS.out j hlt
      generalize l.getD j z0 = x at c0 c1 HT hsz
      have HC := Lib.hid (fun W => clone_any x.1 W (by omega))
      have HG := Lib.hid hG
      have HB1 := Lib.hid (below_one wr (.cells #[.string x.1, .int .i64 x.2] 46))
      have HX := Lib.hid (heap_alloc_new wr (.cells #[.string x.1, .int .i64 x.2] 46))
      have hlt1 := lt_of_obj HX.out
      clear hG hsz hjl
      generalize l.take j = C at *
      go_wp2_with fail
      go_region_law (first
        | (refine step_ent rfl _ _ rfl (w.heap.size + 2) _ C (by rfl) HO3.out w1.heap.size x (by rfl) HN3.out (Nat.le_trans HLen.out (by decide)) HZ.out ?_; intro ao4 cap4 w4 hown4 hgrow4; have HG4 := Lib.hid (gat_more HG3.out HO3.out hgrow4 (by simpa [Own] using hown4)); clear hown4 hgrow4)
        | (go_simp; (with_reducible refine (HC.out _).mono ?_); rintro e w1 ⟨rfl, hw1d⟩; have hw1 := below_drew hw1d; have ci1 := (hw1.cell (p := ⟨wr.heap.size, 1, none⟩) hlt1).trans (cell_obj HX.out 1); have HG3 := Lib.hid (gat_kept HG.out (HB1.out.trans (hw1.mono HB1.out.size))); have HO3 := Lib.hid (owned_below HG3.out.own (below_one w1 (.cells #[.string x.1, .int .i64 x.2] 46))); have HN3 := Lib.hid (heap_alloc_new w1 (.cells #[.string x.1, .int .i64 x.2] 46)); have HZ := Lib.hid (Nat.le_trans HG3.out.big (below_one w1 (.cells #[.string x.1, .int .i64 x.2] 46)).size); clear hw1d))
      all_goals
        go_wp2_with fail
        go_roundw
        case rel => exact ⟨j + 1, by omega, by go_num, by rw [HT.out]; exact HG4.out⟩
        case measure => simp [intOf]; omega
    · obtain rfl : j = n := by omega
      rw [show l.take j = l by rw [HNL.out, List.take_length]] at hG ⊢
      have HG := Lib.hid hG
      have hlen := HNL.out
      clear hG hlt
      have x2 : wr.cell? ⟨w.heap.size, 2, none⟩ = some (.string d) := cell_obj HG.out.box 2
      have x3 : wr.cell? ⟨w.heap.size, 3, none⟩ = some (.string t) := cell_obj HG.out.box 3
      have hbl := lt_of_obj HG.out.box
      go_wp2_with fail
      go_region_law (first
        | (go_simp; (with_reducible refine (HCd.out _).mono ?_); rintro e w1 ⟨rfl, hw1d⟩; have hw1 := below_drew hw1d; have y3 := (hw1.cell (p := ⟨w.heap.size, 3, none⟩) hbl).trans x3; have HG3 := Lib.hid (gat_kept HG.out hw1); clear hw1d)
        | (go_simp; (with_reducible refine (HCt.out _).mono ?_); rintro e w2 ⟨rfl, hw2⟩; have HG4 := Lib.hid (gat_kept HG3.out hw2); clear hw2; have hx := HG4.out.box; have hr := HG4.out.res; have z0 := cell_obj hx 0; have z1 := cell_obj hx 1; have z2 := cell_obj hx 2; have z3 := cell_obj hx 3; have z4 := cell_obj hx 4; have f2 := free_obj hx 2; have f3 := free_obj hx 3; have f4 := free_obj hx 4; clear hx hr))
      all_goals
        have HG5 := Lib.hid (gat_set3 (d' := d) (t' := t) (e := .slice ao l.length cp) HG4.out)
        clear z0 z1 z2 z3 z4 f2 f3 f4
        generalize (((w2.setCell ⟨w.heap.size, 2, none⟩ (.string d)).setCell ⟨w.heap.size, 3, none⟩ (.string t)).setCell ⟨w.heap.size, 4, none⟩ (.slice ao l.length cp)) = W5 at HG5 ⊢
        have hr := HG5.out.res
        have hx := HG5.out.box
        have r0 : W5.cell? ⟨w.heap.size + 1, 0, none⟩ = some (.int .i64 0) := cell_obj hr 0
        have r1 : W5.cell? ⟨w.heap.size + 1, 1, none⟩ = some (.int .i64 0) := cell_obj hr 1
        have r2 : W5.cell? ⟨w.heap.size + 1, 2, none⟩ = some (.string ⟨#[]⟩) := cell_obj hr 2
        have r3 : W5.cell? ⟨w.heap.size + 1, 3, none⟩ = some (.string ⟨#[]⟩) := cell_obj hr 3
        have r4 : W5.cell? ⟨w.heap.size + 1, 4, none⟩ = some (.slice none 0 0) := cell_obj hr 4
        have q0 := free_obj hr 0
        have q1 := free_obj hr 1
        have q2 := free_obj hr 2
        have q3 := free_obj hr 3
        have q4 := free_obj hr 4
        have x0 : W5.cell? ⟨w.heap.size, 0, none⟩ = some (.int .i64 k) := cell_obj hx 0
        have x1 : W5.cell? ⟨w.heap.size, 1, none⟩ = some (.int .i64 m) := cell_obj hx 1
        have x2 : W5.cell? ⟨w.heap.size, 2, none⟩ = some (.string d) := cell_obj hx 2
        have x3 : W5.cell? ⟨w.heap.size, 3, none⟩ = some (.string t) := cell_obj hx 3
        have x4 : W5.cell? ⟨w.heap.size, 4, none⟩ = some (.slice ao l.length cp) := cell_obj hx 4
        clear hr hx
        go_wp2_with fail
        refine bodyPost_ret_by (results_one rfl _ _ (w.heap.size + 1) _ _ _ _ _ rfl (set5 _ _ _ _ _ HG5.out.res)) rfl ⟨ao, cp, rfl, own_mono (own_set5 HG5.out.own (by omega) _ _ _ _ _) (by omega), below5 HG5.out.below (Nat.le_succ _) _ _ _ _ _⟩
end Go.Proofs.Yteieehjggiiljaa
