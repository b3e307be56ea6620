/- A row laid: texts among others. -/
import Derived.Test.YtfemanblkmcglaaAwake
import Derived.Deep.RegionHeld3
import Derived.Deep.AppendLies
namespace Go.Proofs.Ytfemanblkmcglaa
open Go.RowKit Grid

/-- One value more, within a region that draws its order. -/
theorem step_app1 {ops : Array Oper} {o : Oper} {a : Act} {w : World} {K : Act → World → Prop} {Q : Exit → Act → World → Prop} {E : Prop} (hgd : o.guard = none) (s x : Operand) (t e : TypeId) (ht : Try.prog.underlying t = some (.slice e))
    (ho : o.op = .call { callee := .builtin .append, args := #[s, x], argTypes := #[t, t] }) (z : Value) (hz : (Try.prog.info? e).map (fun i => (i.zero, i.size, i.bytes)) = some (some z, 1, 16)) (hzc : z.cells.size = 1)
    (base : Nat) (v : Value) (n : Nat) (xs : List Value) (hs : a.eval s = v) (hown : w.ownsRow base e 1 v n xs)
    (b : Nat) (u : Value) (hx : a.eval x = .slice (some ⟨b, 0, none⟩) 1 1) (hc : w.cell? ⟨b, 0, none⟩ = some u) (hu : u.oneCell' = true) (hn : n ≤ 1000000) (hbase : base ≤ w.heap.size)
    (h : ∀ ao' cap' w', w'.ownsRow base e 1 (.slice ao' (n + 1) cap') (n + 1) (xs ++ [u]) → w.grownBy w' v.ownBlock → K (a.put o.dst (.slice ao' (n + 1) cap')) w') :
    if Region.wanted o (yielded ops a.tmps) = true then Oper.wp Try.prog o a w K Q else E := by
  have hw : Region.wanted o (yielded ops a.tmps) = true := by simp [Region.wanted, hgd]
  rw [if_pos hw]
  obtain ⟨i0, hi, hz0, hz1, hz2⟩ := info_parts hz
  refine wp_append_own w s x t ho base e i0 z 1 16 ht hi hz0 hz1 hz2 hzc (by decide) v n xs hs hown ⟨b, 0, none⟩ 1 1 [u] hx rfl ?_ ?_ (by unfold maxLen; omega) (by omega) hbase ?_
  · intro j y hj
    match j with
    | 0 => simp at hj; subst hj; simpa [Addr.add] using hc
    | j + 1 => simp at hj
  · intro y hy; simp at hy; subst hy; exact hu
  · intro v' w' hown' hg _
    obtain ⟨ao', cap', rfl⟩ := owns_form hown'
    exact h ao' cap' w' hown' hg
/-- A slice of bytes. -/
structure Bts (a : Option Addr) (len : Nat) (ns : List Nat) (w : World) : Prop where
  count : len = ns.length
  cell : ∀ i, i < len → ∃ b off, a = some ⟨b, off, none⟩ ∧ w.cell? ⟨b, off + i, none⟩ = some (.int .u8 (ns.getD i 0 : Nat))
  small : ∀ i, ns.getD i 0 < 256
theorem Bts.below {a : Option Addr} {len : Nat} {ns : List Nat} {w w' : World} (h : Bts a len ns w) (hb : Below w.heap.size w w') : Bts a len ns w' :=
  ⟨h.count, fun i hi => by
    obtain ⟨b, off, ha, hc⟩ := h.cell i hi
    exact ⟨b, off, ha, (hb.cell (p := ⟨b, off + i, none⟩) (block_lt_of_cell hc)).trans hc⟩, h.small⟩
/-- What is laid so far: its own texts, k of others among them. -/
def So (cs : List ByteArray) (i k : Nat) (out : List ByteArray) : Prop := List.Sublist (cs.take i) out ∧ out.length ≤ i + k
theorem so_other {cs out : List ByteArray} {i k : Nat} (h : So cs i k out) (x : ByteArray) : So cs i (k + 1) (out ++ [x]) :=
  ⟨h.1.trans (List.sublist_append_left _ _), by have := h.2; rw [List.length_append]; simp only [List.length_cons, List.length_nil]; omega⟩
theorem so_own {cs out : List ByteArray} {i k : Nat} (h : So cs i k out) (hi : i < cs.length) : So cs (i + 1) k (out ++ [cs.getD i ByteArray.empty]) := by
  refine ⟨?_, by have := h.2; rw [List.length_append]; simp only [List.length_cons, List.length_nil]; omega⟩
  rw [List.take_succ_eq_append_getElem hi, getD_at hi]
  exact h.1.append (List.Sublist.refl _)
/-- What is handed back. -/
def Row (cs : List ByteArray) (n : Nat) (w : World) (e : Ending) (w' : World) : Prop :=
  ∃ out ao cap, e = .returned (.slice ao out.length cap) ∧ Strs ao out.length out w' ∧ List.Sublist cs out ∧ out.length ≤ n ∧ Below w.heap.size w w'

set_option maxRecDepth 100000 in
set_option maxHeartbeats 8000000 in
theorem laid_any (pa ac am : Option Addr) (lp cp lc cc lm cm g1 g2 : Nat) (ns : List Nat) (cs ms : List ByteArray) (w : World) (hP : Bts pa lp ns w) (hC : Strs ac lc cs w) (hM : Strs am lm ms w)
    (h1 : w.cell? ⟨g1, 0, none⟩ = some (.slice ac lc cc)) (h2 : w.cell? ⟨g2, 0, none⟩ = some (.slice am lm cm)) (hlp : lp ≤ 30) (hlc : lc ≤ 30) (hlm : lm ≤ 60) :
    Calls Try.prog 16 #[.slice pa lp cp, .pointer (some ⟨g1, 0, none⟩), .pointer (some ⟨g2, 0, none⟩)] w (Row cs 60 w) := by
  have hlp' : (lp : Int) ≤ 30 := by omega
  have hlc' : (lc : Int) ≤ 30 := by omega
  have hlm' : (lm : Int) ≤ 60 := by omega
  have HP := Lib.hid hP
  have HC := Lib.hid hC
  have HM := Lib.hid hM
  have H1 := Lib.hid h1
  have H2 := Lib.hid h2
  have HCC := Lib.hid hC.count
  clear hP hC hM h1 h2
  go_enter Try.func16, Try.ntmps16
  go_wp2_with fail
  go_loopw [5, 6, 7] (fun x kk i wr => ∃ (n k : Nat) (ao : Option Addr) (c : Nat) (out : List ByteArray), n ≤ lc ∧ i = .int .i64 n ∧ k ≤ lp ∧ kk = .int .i64 k ∧ x = .slice ao out.length c ∧ So cs n k out ∧ wr.ownsRow w.heap.size 9 1 (.slice ao out.length c) out.length (out.map Value.string) ∧ Below w.heap.size w wr) (fun _ _ i _ => lc - (intOf i).toNat)
  case atStart => exact ⟨0, 0, none, 0, [], Nat.zero_le _, rfl, Nat.zero_le _, rfl, rfl, ⟨List.Sublist.refl _, Nat.le_refl _⟩, World.ownsRow_nil _ _ _ _, Below.refl _ _⟩
  case round =>
    obtain ⟨n, k, ao, c, out, hn, rfl, hk, rfl, rfl, hso, hown, hB⟩ := hrel
    have c1 := (hB.cell (p := ⟨g1, 0, none⟩) (block_lt_of_cell H1.out)).trans H1.out
    have HSo := Lib.hid hso
    have HO := Lib.hid hown
    have HB := Lib.hid hB
    clear hso hown hB
    by_cases hlt : n < lc
    · have n0 : (n : Int) < (lc : Int) := by omega
      go_wp2_with fail
      clear c1
      go_loopw [5, 6] (fun x kk wq => ∃ (k : Nat) (ao : Option Addr) (c : Nat) (out : List ByteArray), k ≤ lp ∧ kk = .int .i64 k ∧ x = .slice ao out.length c ∧ So cs n k out ∧ wq.ownsRow w.heap.size 9 1 (.slice ao out.length c) out.length (out.map Value.string) ∧ Below w.heap.size w wq) (fun _ kk _ => lp - (intOf kk).toNat)
      case atStart => exact ⟨k, ao, c, out, hk, rfl, rfl, HSo.out, HO.out, HB.out⟩
      case round =>
        clear HSo HO HB hk
        obtain ⟨k, ao, c, out, hk, rfl, rfl, hso, hown, hB⟩ := hrel
        have c1 := (hB.cell (p := ⟨g1, 0, none⟩) (block_lt_of_cell H1.out)).trans H1.out
        have c2 := (hB.cell (p := ⟨g2, 0, none⟩) (block_lt_of_cell H2.out)).trans H2.out
        obtain ⟨bc, oc, hac, cc0⟩ := (HC.out.below hB).cell n hlt
        have hol := hso.2
        have HSo := Lib.hid hso
        have HO := Lib.hid hown
        have HB := Lib.hid hB
        clear hso hown hB
        have lcw : IntKind.i64.wrap ((lc : Int) + 1) = (lc : Int) + 1 := IntWalk.i64_in _ (by omega)
        by_cases hkl : k < lp
        · obtain ⟨bp, op, rfl, c3⟩ := (HP.out.below HB.out).cell k hkl
          have hv := HP.out.small k
          generalize ns.getD k 0 = v at c3 hv
          have hv' : (v : Int) < 256 := by omega
          have k0 : (k : Int) < (lp : Int) := by omega
          have vw : IntKind.i64.wrap (v : Int) = (v : Int) := IntWalk.i64_in _ (by omega)
          obtain ⟨r, hr⟩ : ∃ r : Nat, (v : Int) % ((lc : Int) + 1) = (r : Int) := ⟨v % (lc + 1), by rw [Int.natCast_emod]; rfl⟩
          have hrem : ∀ W, (Op.intDiv .rem .i64 (v : Int) ((lc : Int) + 1)).run Try.prog W = .ok (.int .i64 (r : Int)) W := by
            intro W
            unfold Op.intDiv
            rw [if_neg (by omega)]
            dsimp only
            rw [Int.tmod_eq_emod_of_nonneg (by omega), hr]
            rfl
          by_cases hrn : r ≤ n
          · have d1 : decide (r ≤ n) = true := decide_eq_true hrn
            by_cases hm0 : 0 < lm
            · have hm1 : (0 : Int) < (lm : Int) := by omega
              go_wp2_with fail
              go_quiet (fail)
              go_wp2_with fail
              clear hrem hrn d1 c3 hr vw cc0 c1 lcw hv' hv hac
              have HQ := Lib.hid (fun j => below_drewN HB.out j)
              have HOn := Lib.hid (fun j => (show (wr.drewN j).ownsRow w.heap.size 9 1 (.slice ao out.length c) out.length (out.map Value.string) from HO.out))
              obtain ⟨q, hq⟩ : ∃ q : Nat, (k : Int) % (lm : Int) = (q : Int) := ⟨k % lm, by rw [Int.natCast_emod]⟩
              have hql : (q : Int) < (lm : Int) := by rw [← hq]; exact Int.emod_lt_of_pos _ hm1
              have hm2 : ¬ lm = 0 := by omega
              have htm : (k : Int).tmod (lm : Int) = (q : Int) := by rw [Int.tmod_eq_emod_of_nonneg (by omega), hq]
              have hqn : q < lm := by omega
              clear hq
              clear HO HB
              have HBq := HQ.out nq
              have HOq := HOn.out nq
              clear HQ HOn
              obtain ⟨bm, om, rfl, c4⟩ := HM.out.cell q (by omega)
              generalize ms.getD q ByteArray.empty = s at c4
              clear c2
              generalize wr.drewN nq = w2 at HBq HOq ⊢
              have HB := Lib.hid HBq
              have HO := Lib.hid HOq
              have HKp := Lib.hid (show ∀ W, Below w.heap.size w W → W.cell? ⟨g2, 0, none⟩ = some (.slice (some ⟨bm, om, none⟩) lm cm) ∧ W.cell? ⟨bm, om + q, none⟩ = some (.string s) from fun W hb => ⟨(hb.cell (p := ⟨g2, 0, none⟩) (block_lt_of_cell H2.out)).trans H2.out, (hb.cell (p := ⟨bm, om + q, none⟩) (block_lt_of_cell c4)).trans c4⟩)
              clear HBq HOq c4
              have HB3 := Lib.hid (HB.out.alloc HB.out.size (.cells #[.string s] 9)).drew
              have HO3 := Lib.hid (show (w2.alloc (.cells #[.string s] 9)).drew.ownsRow w.heap.size 9 1 (.slice ao out.length c) out.length (out.map Value.string) from owns_below HO.out (((Below.refl w2.heap.size w2).alloc (Nat.le_refl _) (.cells #[.string s] 9)).drew))
              go_region_held3 (fun W => W.cell? ⟨g2, 0, none⟩ = some (.slice (some ⟨bm, om, none⟩) lm cm) ∧ W.cell? ⟨bm, om + q, none⟩ = some (.string s))
                (first | exact HKp.out _ HB.out.drew | exact HKp.out _ HB3.out | exact HKp.out _ HB4.out)
                ((refine step_app1 rfl _ _ 22 9 Try.underlying22 rfl (.string ⟨#[]⟩) info9 rfl w.heap.size _ out.length (out.map Value.string) (by rfl) HO3.out w2.heap.size (.string s) (by rfl) (by simp) rfl (by omega) HB3.out.size ?_; intro ao4 cap4 w4 hown4 hgrow4; have HB4 := Lib.hid (HB3.out.grown hgrow4 HB3.out.size (fun j hj => (owns_lt HO3.out j hj).1)); have HO4 := Lib.hid hown4; clear hown4 hgrow4))
              all_goals
                go_wp2_with fail
                go_roundw
                case rel => exact ⟨k + 1, ao4, cap4, out ++ [s], by omega, by go_num, by rw [List.length_append]; rfl, so_other HSo.out s, by rw [List.length_append, List.map_append]; exact HO4.out, HB4.out⟩
                case measure => simp [intOf]; omega
            · have hm1 : ¬ (0 : Int) < (lm : Int) := by omega
              go_wp2_with fail
              go_quiet (fail)
              clear hrem d1 c3 hr vw lcw
              obtain ⟨w2, hw2⟩ : ∃ w2, w2 = wr.drewN nq := ⟨_, rfl⟩
              have HB2 := Lib.hid (show Below w.heap.size w w2 from hw2 ▸ below_drewN HB.out nq)
              have HO2 := Lib.hid (show w2.ownsRow w.heap.size 9 1 (.slice ao out.length c) out.length (out.map Value.string) from hw2 ▸ HO.out)
              rw [← hw2]
              clear hw2 HB HO c1 c2 cc0
              have c1 := (HB2.out.cell (p := ⟨g1, 0, none⟩) (block_lt_of_cell H1.out)).trans H1.out
              obtain ⟨bc2, oc2, hac2, cc1⟩ := (HC.out.below HB2.out).cell n hlt
              rw [hac2] at c1
              have HOwn := Lib.hid (so_own HSo.out (by rw [← HCC.out]; exact hlt))
              generalize cs.getD n ByteArray.empty = s at cc1 HOwn
              have HB3 := Lib.hid (HB2.out.alloc HB2.out.size (.cells #[.string s] 9))
              have HO3 := Lib.hid (owns_below HO2.out ((Below.refl w2.heap.size w2).alloc (Nat.le_refl _) (.cells #[.string s] 9)))
              go_wp2_with (at_builtin; refine at_app1 rfl _ _ 22 9 Try.underlying22 rfl (.string ⟨#[]⟩) info9 rfl w.heap.size _ out.length (out.map Value.string) (by rfl) HO3.out w2.heap.size (.string s) (by rfl) (by simp) rfl (by omega) HB3.out.size ?_; intro ao4 cap4 w4 hown4 hgrow4; have HB4 := Lib.hid (HB3.out.grown hgrow4 HB3.out.size (fun j hj => (owns_lt HO3.out j hj).1)); have HO4 := Lib.hid hown4; clear hown4 hgrow4)
              go_roundw
              case rel => exact ⟨n + 1, k, ao4, cap4, out ++ [s], by omega, by go_num, hk, rfl, by rw [List.length_append]; rfl, HOwn.out, by rw [List.length_append, List.map_append]; exact HO4.out, HB4.out⟩
              case measure => simp [intOf]; omega
          · have d1 : decide (r ≤ n) = false := decide_eq_false hrn
            go_wp2_with fail
            go_quiet (fail)
            clear hrem d1 c3 hr vw lcw
            obtain ⟨w2, hw2⟩ : ∃ w2, w2 = wr.drewN nq := ⟨_, rfl⟩
            have HB2 := Lib.hid (show Below w.heap.size w w2 from hw2 ▸ below_drewN HB.out nq)
            have HO2 := Lib.hid (show w2.ownsRow w.heap.size 9 1 (.slice ao out.length c) out.length (out.map Value.string) from hw2 ▸ HO.out)
            rw [← hw2]
            clear hw2 HB HO c1 c2 cc0
            have c1 := (HB2.out.cell (p := ⟨g1, 0, none⟩) (block_lt_of_cell H1.out)).trans H1.out
            obtain ⟨bc2, oc2, hac2, cc1⟩ := (HC.out.below HB2.out).cell n hlt
            rw [hac2] at c1
            have HOwn := Lib.hid (so_own HSo.out (by rw [← HCC.out]; exact hlt))
            generalize cs.getD n ByteArray.empty = s at cc1 HOwn
            have HB3 := Lib.hid (HB2.out.alloc HB2.out.size (.cells #[.string s] 9))
            have HO3 := Lib.hid (owns_below HO2.out ((Below.refl w2.heap.size w2).alloc (Nat.le_refl _) (.cells #[.string s] 9)))
            go_wp2_with (at_builtin; refine at_app1 rfl _ _ 22 9 Try.underlying22 rfl (.string ⟨#[]⟩) info9 rfl w.heap.size _ out.length (out.map Value.string) (by rfl) HO3.out w2.heap.size (.string s) (by rfl) (by simp) rfl (by omega) HB3.out.size ?_; intro ao4 cap4 w4 hown4 hgrow4; have HB4 := Lib.hid (HB3.out.grown hgrow4 HB3.out.size (fun j hj => (owns_lt HO3.out j hj).1)); have HO4 := Lib.hid hown4; clear hown4 hgrow4)
            go_roundw
            case rel => exact ⟨n + 1, k, ao4, cap4, out ++ [s], by omega, by go_num, hk, rfl, by rw [List.length_append]; rfl, HOwn.out, by rw [List.length_append, List.map_append]; exact HO4.out, HB4.out⟩
            case measure => simp [intOf]; omega
        · have k0 : ¬ (k : Int) < (lp : Int) := by omega
          go_wp2_with fail
          go_quiet (fail)
          clear lcw
          obtain ⟨w2, hw2⟩ : ∃ w2, w2 = wr.drewN nq := ⟨_, rfl⟩
          have HB2 := Lib.hid (show Below w.heap.size w w2 from hw2 ▸ below_drewN HB.out nq)
          have HO2 := Lib.hid (show w2.ownsRow w.heap.size 9 1 (.slice ao out.length c) out.length (out.map Value.string) from hw2 ▸ HO.out)
          rw [← hw2]
          clear hw2 HB HO c1 c2 cc0
          have c1 := (HB2.out.cell (p := ⟨g1, 0, none⟩) (block_lt_of_cell H1.out)).trans H1.out
          obtain ⟨bc2, oc2, hac2, cc1⟩ := (HC.out.below HB2.out).cell n hlt
          rw [hac2] at c1
          have HOwn := Lib.hid (so_own HSo.out (by rw [← HCC.out]; exact hlt))
          generalize cs.getD n ByteArray.empty = s at cc1 HOwn
          have HB3 := Lib.hid (HB2.out.alloc HB2.out.size (.cells #[.string s] 9))
          have HO3 := Lib.hid (owns_below HO2.out ((Below.refl w2.heap.size w2).alloc (Nat.le_refl _) (.cells #[.string s] 9)))
          go_wp2_with (at_builtin; refine at_app1 rfl _ _ 22 9 Try.underlying22 rfl (.string ⟨#[]⟩) info9 rfl w.heap.size _ out.length (out.map Value.string) (by rfl) HO3.out w2.heap.size (.string s) (by rfl) (by simp) rfl (by omega) HB3.out.size ?_; intro ao4 cap4 w4 hown4 hgrow4; have HB4 := Lib.hid (HB3.out.grown hgrow4 HB3.out.size (fun j hj => (owns_lt HO3.out j hj).1)); have HO4 := Lib.hid hown4; clear hown4 hgrow4)
          go_roundw
          case rel => exact ⟨n + 1, k, ao4, cap4, out ++ [s], by omega, by go_num, hk, rfl, by rw [List.length_append]; rfl, HOwn.out, by rw [List.length_append, List.map_append]; exact HO4.out, HB4.out⟩
          case measure => simp [intOf]; omega
    · obtain rfl : n = lc := by omega
      go_wp2_with fail
      go_ret
      refine ⟨out, ao, c, rfl, strs_owned HO.out, ?_, by have := HSo.out.2; omega, HB.out⟩
      have h := HSo.out.1
      rw [HCC.out, List.take_length] at h
      exact h
end Go.Proofs.Ytfemanblkmcglaa
