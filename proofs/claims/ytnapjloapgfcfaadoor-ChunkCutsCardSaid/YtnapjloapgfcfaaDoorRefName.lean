/- The document's Name, Cut, Names. -/
import Derived.Test.YtnapjloapgfcfaaDoorRefSum
import Derived.Test.YtnapjloapgfcfaaDoorRefPut
import Derived.StillTailTactics
namespace Go.Proofs.YtnapjloapgfcfaaDoor
set_option maxRecDepth 100000
open Go.RowKit Sha

/-- A chunk's name. -/
def nameOf (l : List UInt8) : List UInt8 := if Chk.blank l then [] else sha l
theorem cat_lone (c : ByteArray) : cat [c] = c.data.toList := by unfold cat; simp
theorem strs_lone (g : Nat) (x : ByteArray) (w : World) (h : w.cell? ⟨g, 0, none⟩ = some (.string x)) : Strs (some ⟨g, 0, none⟩) 1 [x] w :=
  ⟨rfl, fun i hi => ⟨g, 0, rfl, by
    match i, hi with
    | 0, _ => exact h⟩⟩
def Named (l : List UInt8) (w : World) (e : Ending) (w' : World) : Prop := e = .returned (.string (lstr (nameOf l))) ∧ Below w.heap.size w w'
set_option maxRecDepth 100000 in
set_option maxHeartbeats 2000000 in
theorem refName_any (c : ByteArray) (w : World) (hc : c.size ≤ 1000000000) :
    Calls Tryd.prog 22 #[.string c] w (Named c.data.toList w) := by
  have hci : (c.size : Int) ≤ 1000000000 := by omega
  have HL := Lib.hid (show c.data.toList.length = c.size from Array.length_toList)
  go_enter Tryd.func22, Tryd.ntmps22
  go_wp2_with fail
  go_loop [3] (fun i => ∃ k : Nat, k ≤ c.size ∧ i = .int .i64 k ∧ Chk.blank (c.data.toList.take k) = true) (fun i => c.size - (intOf i).toNat)
  case atStart => exact ⟨0, Nat.zero_le _, rfl, rfl⟩
  case round =>
    obtain ⟨k, hk, rfl, hb⟩ := hrel
    by_cases hlt : k < c.size
    · have k0 : (k : Int) < (c.size : Int) := by omega
      have hko : k < c.data.size := hlt
      have HT := Lib.hid (Chk.blank_take (l := c.data.toList) (k := k) (by rw [HL.out]; exact hlt))
      have hat : c.data.toList.getD k 0 = c[k] := by rw [b_at c hlt]; rfl
      rw [hat] at HT
      have HNo := Lib.hid (fun h => Chk.blank_no (l := c.data.toList) (k := k) (by rw [HL.out]; exact hlt) (by rw [hat]; exact h))
      have HB := Lib.hid hb
      clear hb hat
      by_cases hx : c[k] = 0
      · have hz : c[k].toNat = 0 := by rw [hx]; rfl
        have HN := Lib.hid (show Chk.blank (c.data.toList.take (k + 1)) = true from by rw [HT.out, HB.out, hx]; rfl)
        clear hx
        go_wp2_with fail
        go_round
        case rel => exact ⟨k + 1, by omega, by go_num, HN.out⟩
        case measure => simp [intOf]; omega
      · have hx0 : ¬ c[k].toNat = 0 := fun e => hx (UInt8.toNat_inj.1 e)
        have hx1 : ((c[k].toNat : Int) != 0) = true := by rw [bne_iff_ne]; omega
        have HE := Lib.hid (show nameOf c.data.toList = sha c.data.toList from by unfold nameOf; rw [HNo.out hx]; rfl)
        have HX := Lib.hid (refSum_any (some ⟨w.heap.size, 0, none⟩) 1 1 [c] (w.alloc (.cells #[.string c] 9)) (strs_lone _ _ _ (by simp)) (by rw [cat_lone, HL.out]; exact hc) (by omega))
        rw [cat_lone] at HX
        have hal := Lib.hid ((Below.refl w.heap.size w).alloc (Nat.le_refl _) (.cells #[.string c] 9))
        clear hx
        go_wp2_with fail
        refine HX.out.mono ?_
        rintro e w1 ⟨rfl, hw1⟩
        have HW := Lib.hid (hal.out.trans (hw1.mono hal.out.size))
        clear hw1 hal HX
        dsimp only
        go_wp2_with fail
        go_ret
        show Named c.data.toList w _ _
        unfold Named
        rw [HE.out]
        exact ⟨rfl, HW.out⟩
    · obtain rfl : k = c.size := by omega
      have HE := Lib.hid (show lstr (nameOf c.data.toList) = ⟨#[]⟩ from by
        rw [← HL.out, List.take_length] at hb
        unfold nameOf; rw [if_pos hb]; rfl)
      clear hb
      go_wp2_with fail
      go_ret
      show Named c.data.toList w _ _
      unfold Named
      rw [HE.out]
      exact ⟨rfl, Below.refl _ _⟩

/-- Texts of the call's own. -/
def Trow (base : Nat) (v : Value) (ls : List (List UInt8)) (w : World) : Prop := w.ownsRow base 9 1 v ls.length (ls.map fun l => .string (lstr l))
theorem trow_below {base : Nat} {v : Value} {ls : List (List UInt8)} {w w' : World} (h : Trow base v ls w) (hb : Below w.heap.size w w') : Trow base v ls w' :=
  World.ownsRow.kept h (⟨hb.os, hb.tape, hb.output, hb.size, fun k hk _ => hb.block k hk⟩ : w.grownBy w' none) (by cases v.ownBlock <;> simp)
theorem trow_drew {base : Nat} {v : Value} {ls : List (List UInt8)} {w : World} (h : Trow base v ls w) : Trow base v ls w.drew := trow_below h (Below.refl _ _).drew
theorem trow_form {base : Nat} {v : Value} {ls : List (List UInt8)} {w : World} (h : Trow base v ls w) : ∃ a c, v = .slice a ls.length c := by
  obtain ⟨_, ⟨rfl, h0⟩ | ⟨g, cap, _, rfl, _⟩⟩ := h
  · exact ⟨none, 0, by rw [h0]⟩
  · exact ⟨_, _, rfl⟩
theorem trow_lt {base : Nat} {v : Value} {ls : List (List UInt8)} {w : World} (h : Trow base v ls w) : ∀ k, v.ownBlock = some k → base ≤ k := fun k hk => (World.ownsRow.lt h k hk).1
theorem trow_strs {base n : Nat} {a : Option Addr} {c : Nat} {ls : List (List UInt8)} {w : World} (h : Trow base (.slice a n c) ls w) (hn : n = ls.length) : Strs a n (ls.map lstr) w := by
  subst hn
  have h2 := h
  refine ⟨(List.length_map _).symm, fun i hi => ?_⟩
  obtain ⟨_, ⟨e, h0⟩ | ⟨g, cap, cur, e, _⟩⟩ := h
  · omega
  · injection e with e1 e2 e3
    subst e1
    subst e3
    refine ⟨g, 0, rfl, ?_⟩
    rw [Nat.zero_add, World.ownsRow.cellAt h2 i (by omega), List.getElem?_map, List.getElem?_eq_getElem hi]
    simp [List.getD, List.getElem?_eq_getElem hi]
theorem info9c : (Tryd.prog.info? 9).map (fun i => (i.zero, i.size, i.bytes)) = some (some (.string ⟨#[]⟩), 1, 16) := by kernel_rfl
/-- One text appended, at the operation. -/
theorem at_appt {ops : Array Oper} {rest : List Oper} {o : Oper} {a : Act} {Q : Exit → Act → World → Prop} {w : World} (hgd : o.guard = none) (s x : Operand) (ho : o.op = .call { callee := .builtin .append, args := #[s, x], argTypes := #[35, 35] })
    {base : Nat} {v : Value} {ls : List (List UInt8)} (hB : Trow base v ls w) (hs : a.eval s = v) (bb : Nat) (y : ByteArray) (c : List UInt8) (hyc : y = lstr c) (hx : a.eval x = .slice (some ⟨bb, 0, none⟩) 1 1) (hc : w.cell? ⟨bb, 0, none⟩ = some (.string y)) (hl : ls.length ≤ 1000000) (hb : base ≤ w.heap.size)
    (h : ∀ ao cap' w', Trow base (.slice ao (ls.length + 1) cap') (ls ++ [c]) w' → w.grownBy w' v.ownBlock → wpList Tryd.prog ops Q rest (a.put o.dst (.slice ao (ls.length + 1) cap')) w') : wpList Tryd.prog ops Q (o :: rest) a w := by
  subst hyc
  obtain ⟨i0, hi, hz0, hz1, hz2⟩ := info_parts info9c
  refine wpList_append_own w hgd s x 35 ho base 9 i0 (.string ⟨#[]⟩) 1 16 Tryd.underlying35 hi hz0 hz1 hz2 rfl (by decide) v ls.length (ls.map fun l => .string (lstr l)) hs hB ⟨bb, 0, none⟩ 1 1 [.string (lstr c)] hx rfl ?_ ?_ (by unfold maxLen; omega) (by omega) hb ?_
  · intro j u hj
    match j with
    | 0 => simp at hj; subst hj; simpa [Addr.add] using hc
    | j + 1 => simp at hj
  · intro u hu; simp at hu; subst hu; rfl
  · intro v' w' hown hg _
    have hB' : Trow base v' (ls ++ [c]) w' := by
      unfold Trow
      rw [List.length_append, List.map_append]
      exact hown
    obtain ⟨ao, cap', rfl⟩ := trow_form hB'
    rw [List.length_append] at hB' ⊢
    exact h ao cap' w' hB' hg
/-- The last one of a row, written anew. -/
theorem trow_last {base n : Nat} {a : Option Addr} {c : Nat} {cs : List (List UInt8)} {x : List UInt8} {w : World} (h : Trow base (.slice a n c) (cs ++ [x]) w) (hn : n = (cs ++ [x]).length) :
    ∃ g m, a = some ⟨g, 0, none⟩ ∧ n = m + 1 ∧ m = cs.length ∧ base ≤ g ∧ w.cell? ⟨g, m, none⟩ = some (.string (lstr x)) ∧ w.frozen? ⟨g, m, none⟩ = false ∧ ∀ y, Trow base (.slice a n c) (cs ++ [y]) (w.setCell ⟨g, m, none⟩ (.string (lstr y))) := by
  subst hn
  have h1 := h
  have hl := trow_lt h
  obtain ⟨_, ⟨_, h0⟩ | ⟨g, cap, cur, e, _⟩⟩ := h
  · simp at h0
  · injection e with e1 e2 e3
    subst e1
    subst e3
    refine ⟨g, cs.length, rfl, by simp, rfl, hl g rfl, ?_, World.ownsRow.frozenAt h1 _, fun y => ?_⟩
    · rw [World.ownsRow.cellAt h1 cs.length (by simp)]
      simp
    · have h2 := (World.ownsRow.stored h1 cs.length (.string (lstr y))).1
      unfold Trow
      rw [show (cs ++ [y]).length = (cs ++ [x]).length from by simp, show (cs ++ [y]).map (fun l => Value.string (lstr l)) = ((cs ++ [x]).map fun l => Value.string (lstr l)).set cs.length (.string (lstr y)) from by simp]
      exact h2
/-- A row of texts handed back. -/
def Rowed (ls : List (List UInt8)) (w : World) (e : Ending) (w' : World) : Prop := ∃ ao cap, e = .returned (.slice ao ls.length cap) ∧ Trow w.heap.size (.slice ao ls.length cap) ls w' ∧ Below w.heap.size w w'

set_option maxRecDepth 100000 in
set_option maxHeartbeats 4000000 in
theorem refCut_any (s : ByteArray) (w : World) (hs : s.size ≤ 1000000) : Calls Tryd.prog 19 #[.string s] w (Rowed (Chk.cut s.data.toList) w) := by
  have hsi : (s.size : Int) ≤ 1000000 := by omega
  have HSL := Lib.hid (show s.data.toList.length = s.size from Array.length_toList)
  go_enter Tryd.func19, Tryd.ntmps19
  go_wp2_with fail
  go_loopw [3, 4] (fun x i wr => ∃ (k n : Nat) (ao : Option Addr) (c : Nat), k ≤ s.size ∧ i = .int .i64 k ∧ x = .slice ao n c ∧ n = (Chk.cut (s.data.toList.take k)).length ∧ Trow w.heap.size (.slice ao n c) (Chk.cut (s.data.toList.take k)) wr ∧ Below w.heap.size w wr) (fun _ i _ => s.size - (intOf i).toNat)
  case atStart => exact ⟨0, 0, none, 0, Nat.zero_le _, rfl, rfl, by rw [List.take_zero, Chk.cut_nil]; rfl, by rw [List.take_zero, Chk.cut_nil]; exact World.ownsRow_nil _ _ _ _, Below.refl _ _⟩
  case round =>
    obtain ⟨k, n, ao, c, hk, rfl, rfl, hn, hT, hW⟩ := hrel
    by_cases hlt : k < s.size
    · have k0 : (k : Int) < (s.size : Int) := by omega
      have HTk := Lib.hid (show s.data.toList.take (k + 1) = s.data.toList.take k ++ [Chk.b s.data.toList k] from by
        rw [List.take_add_one]
        congr 1
        rw [List.getElem?_eq_getElem (by rw [HSL.out]; exact hlt)]
        simp [Chk.b, List.getD, List.getElem?_eq_getElem (show k < s.data.toList.length by rw [HSL.out]; exact hlt)])
      have hkl : (s.data.toList.take k).length = k := by rw [List.length_take, HSL.out]; omega
      by_cases hm : k % 16 = 0
      · have hm0 : (k : Int) % 16 = 0 := by omega
        have HC := Lib.hid (Chk.cut_new (l := s.data.toList.take k) (by rw [hkl]; exact hm) (Chk.b s.data.toList k))
        rw [← HTk.out] at HC
        have hll : (Chk.cut (s.data.toList.take k)).length ≤ 1000000 := by rw [Chk.cut_length, hkl]; omega
        clear hkl
        subst hn
        generalize Chk.cut (s.data.toList.take k) = ls at hT HC hll ⊢
        have hal := (Below.refl wr.heap.size wr).alloc (Nat.le_refl _) (.cells #[.string ⟨#[]⟩] 9)
        have HT1 := Lib.hid (trow_below hT hal)
        have HW1 := Lib.hid (hW.alloc hW.size (.cells #[.string ⟨#[]⟩] 9))
        clear hT hW hal
        go_wp2_with (at_builtin; refine at_appt rfl _ _ rfl HT1.out (by rfl) wr.heap.size ⟨#[]⟩ [] rfl (by rfl) (by simp) (by omega) HW1.out.size ?_; intro ao4 cap4 w4 hT4 hgrow4; have HT2 := Lib.hid hT4; have HW2 := Lib.hid (HW1.out.grown hgrow4 HW1.out.size (fun j hj => trow_lt HT1.out j hj)); clear hT4 hgrow4)
        obtain ⟨x, hx⟩ : ∃ x : List UInt8, x = [] := ⟨_, rfl⟩
        rw [← hx] at HT2
        have HN2 := Lib.hid (show ls.length + 1 = (ls ++ [x]).length from by simp)
        rw [show [Chk.b s.data.toList k] = x ++ [Chk.b s.data.toList k] from by rw [hx]; rfl] at HC
        clear hx HT1 HW1
        generalize ls.length + 1 = n at HT2 HN2 ⊢
        generalize hcs : ls = cs at HT2 HN2 HC
        rw [hcs] at hll
        clear hcs
        have hS := trow_last HT2.out HN2.out
        obtain ⟨g, m, rfl, rfl, hmc, hg, hc, hf, hset⟩ := hS
        have HS := Lib.hid (hset (x ++ [Chk.b s.data.toList k]))
        have HW3 := Lib.hid (HW2.out.setCell (p := ⟨g, m, none⟩) hg (.string (lstr (x ++ [Chk.b s.data.toList k]))))
        have hcat : lstr x ++ lstr [Chk.b s.data.toList k] = lstr (x ++ [Chk.b s.data.toList k]) := by apply Go.WideShapes.bytes_inj; rw [ByteArray.toList_data_append]; rfl
        have hone : s.extract k (k + 1) = lstr [Chk.b s.data.toList k] := by
          rw [cut_text s k 1 (by omega), List.take_one]
          congr 1
          simp [Chk.b, List.getD, List.getElem?_eq_getElem (show k < s.data.toList.length by rw [HSL.out]; exact hlt)]
        have hxl : x.length ≤ k := by
          have h := congrArg (fun l => l.flatten.length) HC.out
          simp only [Chk.cut_join, List.flatten_append, List.length_append, List.flatten_cons, List.flatten_nil, List.length_cons, List.length_nil, List.length_take] at h
          omega
        have HL2 := Lib.hid (show cs.length + 1 = (cs ++ [x ++ [Chk.b s.data.toList k]]).length from by simp)
        have hs1 : ((lstr x).size : Int) ≤ 1000000 := by rw [lstr_size]; omega
        have hs2 : (lstr [Chk.b s.data.toList k]).size = 1 := rfl
        generalize lstr x = xs at hc hcat hs1
        generalize lstr [Chk.b s.data.toList k] = ys at hcat hone hs2
        have hs3 : ¬ 9223372036854775807 < xs.size + 1 := by omega
        clear hset hg HN2 hxl
        subst hmc
        generalize cs.length = m at HL2 HT2 HS HW3 hc hf hll ⊢
        have hm1 : (m : Int) ≤ 1000000 := by omega
        have hmw : IntKind.i64.wrap (m : Int) = (m : Int) := IntWalk.i64_in _ (by omega)
        have hkw : IntKind.i64.wrap ((k : Int) + 1) = (k : Int) + 1 := IntWalk.i64_in _ (by omega)
        have hm2 : (m : Int) < (m : Int) + 1 := by omega
        have hm3 : ((m : Int)).toNat = m := by omega
        have hk3 : ((k : Int) + 1).toNat = k + 1 := by omega
        have hk4 : (k : Int) ≤ (k : Int) + 1 := by omega
        have hk5 : (k : Int) + 1 ≤ (s.size : Int) := by omega
        go_still_tail 17, (by kernel_rfl)
        go_wp2
        go_roundw
        case rel => exact ⟨k + 1, m + 1, some ⟨g, 0, none⟩, cap4, by omega, by go_num, rfl, by rw [HC.out]; exact HL2.out, by rw [HC.out]; exact trow_drew HS.out, HW3.out.drew⟩
        case measure => simp [intOf]; omega
      · have hm0 : ¬ (k : Int) % 16 = 0 := by omega
        have hC := Chk.cut_more (l := s.data.toList.take k) (by rw [hkl]; exact hm) (Chk.b s.data.toList k)
        rw [← HTk.out] at hC
        obtain ⟨cs, x, e1, e2⟩ := hC
        have hll : cs.length ≤ 1000000 := by
          have h := Chk.cut_length (s.data.toList.take k)
          rw [e1, hkl, List.length_append] at h
          omega
        rw [e1] at hT hn
        have HC := Lib.hid e2
        have HT2 := Lib.hid hT
        have HW2 := Lib.hid hW
        have HN2 := Lib.hid hn
        clear e1 e2 hT hW hn hkl
        go_wp2_with fail
        have hS := trow_last HT2.out HN2.out
        obtain ⟨g, m, rfl, rfl, hmc, hg, hc, hf, hset⟩ := hS
        have HS := Lib.hid (hset (x ++ [Chk.b s.data.toList k]))
        have HW3 := Lib.hid (HW2.out.setCell (p := ⟨g, m, none⟩) hg (.string (lstr (x ++ [Chk.b s.data.toList k]))))
        have hcat : lstr x ++ lstr [Chk.b s.data.toList k] = lstr (x ++ [Chk.b s.data.toList k]) := by apply Go.WideShapes.bytes_inj; rw [ByteArray.toList_data_append]; rfl
        have hone : s.extract k (k + 1) = lstr [Chk.b s.data.toList k] := by
          rw [cut_text s k 1 (by omega), List.take_one]
          congr 1
          simp [Chk.b, List.getD, List.getElem?_eq_getElem (show k < s.data.toList.length by rw [HSL.out]; exact hlt)]
        have hxl : x.length ≤ k := by
          have h := congrArg (fun l => l.flatten.length) HC.out
          simp only [Chk.cut_join, List.flatten_append, List.length_append, List.flatten_cons, List.flatten_nil, List.length_cons, List.length_nil, List.length_take] at h
          omega
        have HL2 := Lib.hid (show cs.length + 1 = (cs ++ [x ++ [Chk.b s.data.toList k]]).length from by simp)
        have hs1 : ((lstr x).size : Int) ≤ 1000000 := by rw [lstr_size]; omega
        have hs2 : (lstr [Chk.b s.data.toList k]).size = 1 := rfl
        generalize lstr x = xs at hc hcat hs1
        generalize lstr [Chk.b s.data.toList k] = ys at hcat hone hs2
        have hs3 : ¬ 9223372036854775807 < xs.size + 1 := by omega
        clear hset hg HN2 hxl
        subst hmc
        generalize cs.length = m at HL2 HT2 HS HW3 hc hf hll ⊢
        have hm1 : (m : Int) ≤ 1000000 := by omega
        have hmw : IntKind.i64.wrap (m : Int) = (m : Int) := IntWalk.i64_in _ (by omega)
        have hkw : IntKind.i64.wrap ((k : Int) + 1) = (k : Int) + 1 := IntWalk.i64_in _ (by omega)
        have hm2 : (m : Int) < (m : Int) + 1 := by omega
        have hm3 : ((m : Int)).toNat = m := by omega
        have hk3 : ((k : Int) + 1).toNat = k + 1 := by omega
        have hk4 : (k : Int) ≤ (k : Int) + 1 := by omega
        have hk5 : (k : Int) + 1 ≤ (s.size : Int) := by omega
        go_still_tail 17, (by kernel_rfl)
        go_wp2
        go_roundw
        case rel => exact ⟨k + 1, m + 1, some ⟨g, 0, none⟩, c, by omega, by go_num, rfl, by rw [HC.out]; exact HL2.out, by rw [HC.out]; exact trow_drew HS.out, HW3.out.drew⟩
        case measure => simp [intOf]; omega
    · obtain rfl : k = s.size := by omega
      rw [show s.data.toList.take s.size = s.data.toList from by rw [← HSL.out, List.take_length]] at hT hn
      have HT := Lib.hid hT
      have HW := Lib.hid hW
      have HN := Lib.hid hn
      clear hT hW hn
      go_wp2_with fail
      go_ret
      show Rowed (Chk.cut s.data.toList) w _ _
      unfold Rowed
      rw [← HN.out]
      exact ⟨ao, c, rfl, HT.out, HW.out⟩
end Go.Proofs.YtnapjloapgfcfaaDoor
