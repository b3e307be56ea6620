/- A part of the proofs. -/
import Derived.Laws.CopyRow
import Derived.Laws.Append
import Derived.Lib.AppendZerosOnto
import Derived.Lib.Overlaps
import Derived.Lib.SliceRun
import Derived.Laws.Externs
import Derived.Test.YthbajmlmjjfgpaaGreatDoorC07
set_option maxRecDepth 1000000
set_option maxHeartbeats 16000000
open Go.Lib (hid)
open Go.Proofs.Tryz
namespace Go.Two
open Go.RowKit
variable {P : Program}
theorem run_copy2 (w : World) (dT sT ty elem : TypeId) (g o dLen dCap : Nat) (a : Addr) (sLen sCap k : Nat) (cur : Array Value) (t : TypeId) (cs : List Value)
  (hu : P.underlying dT = some (.slice elem)) (hs : (P.info? elem).map (·.size) = some 2)
  (hg : w.heap[g]? = some (.cells cur t (0, 0))) (hk : k = Nat.min sLen dLen) (hn : cs.length = k * 2)
  (hsrc : ∀ j v, cs[j]? = some v -> w.cell? (a.add j) = some v) (hfit : o + cs.length <= cur.size) (h1 : ∀ v ∈ cs, v.oneCell' = true) :
  (Builtin.copy_ #[dT, sT] ty #[.slice (some ⟨g, o, none⟩) dLen dCap, .slice (some a) sLen sCap]).run P w =
   .ok (goInt k) (w.setRow g (cur.toList.take o ++ cs ++ cur.toList.drop (o + cs.length)).toArray) := by
 have hl := run_firstCells_some (P := P) w 2 k a sLen sCap cs hn hsrc
 have hst := run_storeCells_at P g o t cs 0 cur w hg (by simpa using hfit) h1
 cases hq : P.info? elem with
 | none => simp [hq] at hs
 | some i =>
  have hi : i.size = 2 := by simpa [hq] using hs
  simp [Builtin.copy_, run_underlying hu, Builtin.lenOf, sizeOf, typeInfo, hq, hi, <- hk, hl, hst]
theorem grown_setRow (w : World) (g : Nat) (cs : Array Value) : w.grownBy (w.setRow g cs) (some g) :=
 ⟨rfl, rfl, rfl, by simp [World.setRow], λk _ hne => setRow_other w g k cs (λe => hne (by rw [e]))⟩
theorem wpList_copy2 {w : World} {ops : Array Oper} {rest : List Oper} {o : Oper} {a : Act} {Q : Exit -> Act -> World -> Prop} (hgd : o.guard = none) (d s : Operand) (dT sT : TypeId)
  (ho : o.op = .call { callee := .builtin .copy, args := #[d, s], argTypes := #[dT, sT] }) (elem : TypeId) (hu : P.underlying dT = some (.slice elem)) (hsz : (P.info? elem).map (·.size) = some 2)
  (g off dLen dCap : Nat) (ad : Addr) (sLen sCap k : Nat) (hd : a.eval d = .slice (some ⟨g, off, none⟩) dLen dCap) (hs : a.eval s = .slice (some ad) sLen sCap)
  (cur : List Value) (t : TypeId) (hg : w.heap[g]? = some (.cells cur.toArray t (0, 0))) (cs : List Value) (hk : k = Nat.min sLen dLen) (hn : cs.length = k * 2)
  (hsrc : ∀ j v, cs[j]? = some v -> w.cell? (ad.add j) = some v) (hfit : off + cs.length <= cur.length) (h1 : ∀ v ∈ cs, v.oneCell' = true)
  (h : ∀ w', Hid (w'.heap[g]? = some (.cells (splice cur off cs).toArray t (0, 0))) -> w.grownBy w' (some g) -> wpList P ops Q rest (a.put o.dst (goInt k)) w') : wpList P ops Q (o :: rest) a w := by
 refine wpList_plain hgd λK hK => ?_
 have hrun := run_copy2 (P := P) w dT sT o.type elem g off dLen dCap ad sLen sCap k cur.toArray t cs hu hsz hg hk hn hsrc (by simpa using hfit) h1
 unfold Oper.wp
 simp [execOp, ho, resolve, invoke, builtin, hd, hs, hrun, Result.andThen]
 refine hK _ _ (h _ ?_ (grown_setRow w g _))
 show _ = _
 simpa [splice] using setRow_heap w g _ _ t _ hg
theorem step_copy2 {w : World} {ops : Array Oper} {o : Oper} {a : Act} {K : Act -> World -> Prop} {Q : Exit -> Act -> World -> Prop} {E : Prop} (hgd : o.guard = none) (d s : Operand) (dT sT : TypeId)
  (ho : o.op = .call { callee := .builtin .copy, args := #[d, s], argTypes := #[dT, sT] }) (elem : TypeId) (hu : P.underlying dT = some (.slice elem)) (hsz : (P.info? elem).map (·.size) = some 2)
  (g off dLen dCap : Nat) (ad : Addr) (sLen sCap k : Nat) (hd : a.eval d = .slice (some ⟨g, off, none⟩) dLen dCap) (hs : a.eval s = .slice (some ad) sLen sCap)
  (cur : List Value) (t : TypeId) (hg : w.heap[g]? = some (.cells cur.toArray t (0, 0))) (cs : List Value) (hk : k = Nat.min sLen dLen) (hn : cs.length = k * 2)
  (hsrc : ∀ j v, cs[j]? = some v -> w.cell? (ad.add j) = some v) (hfit : off + cs.length <= cur.length) (h1 : ∀ v ∈ cs, v.oneCell' = true)
  (h : ∀ w', Hid (w'.heap[g]? = some (.cells (splice cur off cs).toArray t (0, 0))) -> w.grownBy w' (some g) -> K (a.put o.dst (goInt k)) w') :
  if Region.wanted o (yielded ops a.tmps) = true then Oper.wp P o a w K Q else E := by
 have hw : Region.wanted o (yielded ops a.tmps) = true := by simp [Region.wanted, hgd]
 rw [if_pos hw]
 have hrun := run_copy2 (P := P) w dT sT o.type elem g off dLen dCap ad sLen sCap k cur.toArray t cs hu hsz hg hk hn hsrc (by simpa using hfit) h1
 unfold Oper.wp
 simp [execOp, ho, resolve, invoke, builtin, hd, hs, hrun, Result.andThen]
 refine h _ ?_ (grown_setRow w g _)
 show _ = _
 simpa [splice] using setRow_heap w g _ _ t _ hg
theorem step_app2 {w : World} {ops : Array Oper} {o : Oper} {a : Act} {K : Act -> World -> Prop} {Q : Exit -> Act -> World -> Prop} {E : Prop} (hgd : o.guard = none) (s x : Operand) (t : TypeId)
  (ho : o.op = .call { callee := .builtin .append, args := #[s, x], argTypes := #[t, t] }) (e : TypeId) (hu : P.underlying t = some (.slice e)) (hsz : (P.info? e).map (·.size) = some 2)
  (g sLen sCap : Nat) (ad : Addr) (m c : Nat) (hs : a.eval s = .slice (some ⟨g, 0, none⟩) sLen sCap) (hx : a.eval x = .slice (some ad) m c)
  (cur : List Value) (hg : w.heap[g]? = some (.cells cur.toArray e (0, 0))) (news : List Value) (hn : news.length = m * 2) (hnews : ∀ j u, news[j]? = some u -> w.cell? (ad.add j) = some u) (h1 : ∀ u ∈ news, u.oneCell' = true)
  (hroom : sLen + m <= sCap) (hfit : sLen * 2 + news.length <= cur.length)
  (h : ∀ w', Hid (w'.heap[g]? = some (.cells (splice cur (sLen * 2) news).toArray e (0, 0))) -> w.grownBy w' (some g) -> K (a.put o.dst (.slice (some ⟨g, 0, none⟩) (sLen + m) sCap)) w') :
  if Region.wanted o (yielded ops a.tmps) = true then Oper.wp P o a w K Q else E := by
 have hw : Region.wanted o (yielded ops a.tmps) = true := by simp [Region.wanted, hgd]
 rw [if_pos hw]
 cases hq : P.info? e with
 | none => simp [hq] at hsz
 | some i =>
  have hi : i.size = 2 := by simpa [hq] using hsz
  have hrun := run_append_room (P := P) w t o.type e i hu hq g sLen sCap cur.toArray hg ad m c news (by rw [hi]; exact hn) hnews h1 hroom (by rw [hi]; simpa using hfit)
  rw [hi] at hrun
  unfold Oper.wp
  simp [execOp, ho, resolve, invoke, builtin, hs, hx, hrun, Result.andThen]
  refine h _ ?_ (grown_setRow w g _)
  show _ = _
  simpa [splice] using setRow_heap w g _ _ e _ hg
theorem run_clear2 (w : World) (t e ty : TypeId) (z : Value) (z0 z1 : Value) (ht : P.underlying t = some (.slice e)) (hv : ∀ w, (zeroValue e).run P w = .ok z w) (hz : z.cells = #[z0, z1]) (h0 : z0.oneCell' = true) (h1 : z1.oneCell' = true) (g o c : Nat) (cur : Array Value) (tt : TypeId)
  (hg : w.heap[g]? = some (.cells cur tt (0, 0))) (hfit : o + 2 <= cur.size) :
  (Builtin.clear_ #[t] ty #[.slice (some ⟨g, o, none⟩) 1 c]).run P w = .ok (.tuple #[]) (w.setRow g (cur.toList.take o ++ [z0, z1] ++ cur.toList.drop (o + 2)).toArray) := by
 have hzc : (Builtin.zeroCells z.cells 1).toList = [z0, z1] := by
  rw [hz]
  simp [Builtin.zeroCells]
  rfl
 have hst := run_storeCells_at P g o tt [z0, z1] 0 cur w hg (by simpa using hfit) (by intro v hv; simp at hv; rcases hv with rfl | rfl <;> assumption)
 simp only [Nat.add_zero] at hst
 simp only [Builtin.clear_]
 simp [run_underlying ht, hv, hzc, hst]
end Go.Two
namespace Go.Proofs.YthbajmlmjjfgpaaGreatDoor
open Go.RowKit Go.Less
abbrev oc (x : En) : Obj := .cells #[.string x.1, .int .i64 x.2] 146
def Rowed2 (base : Nat) (v : Value) (l : List En) (w : World) (e : Ending) (w' : World) : Prop := ∃ ao cap, e = .returned (.slice ao l.length cap) /\ Own base (.slice ao l.length cap) l w' /\ w.grownBy w' v.ownBlock
theorem own_blk (ao : Option Addr) (n c n' c' : Nat) : (Value.slice ao n c).ownBlock = (Value.slice ao n' c').ownBlock := by cases ao <;> rfl
theorem size46 : (prog.info? 146).map (·.size) = some 2 := by kernel_rfl
theorem ins_end (base : Nat) (ao : Option Addr) (cp : Nat) (l : List En) (vb : Nat) (x : En) (w : World) (hO : Own base (.slice ao l.length cp) l w) (hx : w.heap[vb]? = some (oc x)) (hl : l.length <= 100000) (hb : base <= w.heap.size) :
  Calls prog 142 #[.slice ao l.length cp, .int .i64 (l.length : Int), .slice (some ⟨vb, 0, none⟩) 1 1] w (Rowed2 base (.slice ao l.length cp) (l ++ [x]) w) := by
 have HO := hid hO
 have HX := hid hx
 have HL := hid hl
 have h0 : (0 : Int) <= (l.length : Int) := by omega
 clear hO hx hl
 generalize hn : l.length = n at *
 go_enter func142, ntmps142
 go_wp2_with (first | (at_builtin; refine at_ent rfl _ _ rfl base _ l (by rfl) HO.out vb x (by rfl) HX.out (by rw [hn]; exact Nat.le_trans HL.out (by decide)) hb ?_; intro ao4 cap4 w4 hown4 hgrow4) | fail)
 all_goals
  go_ret
  exact ⟨ao4, cap4, by rw [List.length_append, hn]; rfl, by rw [List.length_append]; rw [hn] at hown4 |-; exact hown4, by first | exact hgrow4 | (rw [own_blk ao n n n cp]; exact hgrow4)⟩
theorem erow_drop (l : List En) (i : Nat) : (erow l).drop (i * 2) = erow (l.drop i) := by
 induction l generalizing i with
 | nil => simp [erow]
 | cons x l ih =>
  cases i with
  | zero => simp
  | succ i =>
   have e : erow (x :: l) = ecell x ++ erow l := rfl
   rw [e, show (i + 1) * 2 = 2 + i * 2 by omega, <- List.drop_drop, List.drop_left' (show (ecell x).length = 2 from rfl), ih]; rfl
theorem erow_take (l : List En) (i : Nat) : (erow l).take (i * 2) = erow (l.take i) := by
 induction l generalizing i with
 | nil => simp [erow]
 | cons x l ih =>
  cases i with
  | zero => simp [erow]
  | succ i =>
   have e : erow (x :: l) = ecell x ++ erow l := rfl
   rw [e, show (i + 1) * 2 = 2 + i * 2 by omega, List.take_append, List.take_of_length_le (show (ecell x).length <= 2 + i * 2 by show 2 <= _; omega), show 2 + i * 2 - (ecell x).length = i * 2 by show 2 + i * 2 - 2 = _; omega, ih]; rfl
theorem erow_one (l : List En) : ∀ v ∈ erow l, v.oneCell' = true := by
 intro v hv
 simp only [erow, List.mem_flatMap, ecell, List.mem_cons, List.not_mem_nil, or_false] at hv
 obtain ⟨x, _, rfl | rfl⟩ := hv <;> rfl
theorem laid_mid (cur : List Value) (l : List En) (i cap : Nat) (x : En) (hc : cur.length = cap * 2) (ht : cur.take (l.length * 2) = erow l) (hi : i <= l.length) (hr : l.length + 1 <= cap) :
  (splice (splice cur ((i + 1) * 2) (erow (l.drop i))) (i * 2) (ecell x)).take ((l.length + 1) * 2) = erow (l.take i ++ x :: l.drop i) := by
 have h1 : cur.take (i * 2) = erow (l.take i) := by
  rw [<- erow_take, <- ht, List.take_take, Nat.min_eq_left (by omega)]
 have e1 : (splice cur ((i + 1) * 2) (erow (l.drop i))).take (i * 2) = erow (l.take i) := by
  unfold splice
  rw [List.take_append_of_le_length (by rw [List.length_take]; omega), List.take_take, Nat.min_eq_left (by omega), h1]
 have e2 : (splice cur ((i + 1) * 2) (erow (l.drop i))).drop (i * 2 + 2) = erow (l.drop i) ++ cur.drop ((i + 1) * 2 + (erow (l.drop i)).length) := by
  unfold splice
  rw [show i * 2 + 2 = (cur.take ((i + 1) * 2)).length by rw [List.length_take]; omega, List.drop_left]
 have e3 : splice (splice cur ((i + 1) * 2) (erow (l.drop i))) (i * 2) (ecell x) = (erow (l.take i) ++ ecell x ++ erow (l.drop i)) ++ cur.drop ((i + 1) * 2 + (erow (l.drop i)).length) := by
  rw [show ∀ A : List Value, splice A (i * 2) (ecell x) = A.take (i * 2) ++ (ecell x ++ A.drop (i * 2 + (ecell x).length)) from λ_ => rfl, e1, show (ecell x).length = 2 from rfl, e2]
  simp only [List.append_assoc]
 have e4 : erow (l.take i) ++ ecell x ++ erow (l.drop i) = erow (l.take i ++ x :: l.drop i) := by
  rw [erow_append, show erow (x :: l.drop i) = ecell x ++ erow (l.drop i) from rfl, List.append_assoc]
 rw [e3, e4, List.take_left']
 rw [erow_length, List.length_append, List.length_cons, List.length_take, List.length_drop]
 omega
theorem len_splice2 {cur cs : List Value} {o : Nat} (h : o + cs.length <= cur.length) : (splice cur o cs).length = cur.length := length_splice cur o cs h
theorem mixd : prog.follows .mixedOrders = true := by kernel_rfl
theorem ins_room (base g cap : Nat) (cur : Array Value) (l : List En) (i vb : Nat) (x : En) (w : World) (hg : w.heap[g]? = some (.cells cur 146 (0, 0))) (hs : cur.size = cap * 2) (ht : cur.toList.take (l.length * 2) = erow l) (hx : w.heap[vb]? = some (oc x)) (hvg : vb ≠ g)
  (hi : i < l.length) (hr : l.length + 1 <= cap) (hm : cap <= maxLen) (hl : l.length <= 100000) (hbg : base <= g) :
  Calls prog 142 #[.slice (some ⟨g, 0, none⟩) l.length cap, .int .i64 (i : Int), .slice (some ⟨vb, 0, none⟩) 1 1] w (Rowed2 base (.slice (some ⟨g, 0, none⟩) l.length cap) (l.take i ++ x :: l.drop i) w) := by
 have mixed := mixd
 have HX := hid hx
 have hov : ∀ lb cb, (callFunc 176 #[.slice (some ⟨vb, 0, none⟩) 1 1, .slice (some ⟨g, (i + 1) * 2, none⟩) lb cb]).run prog w = .ok (.value (.bool false)) w := λlb cb => by
  rw [run_callFunc_extern func176 (by kernel_rfl) (by kernel_rfl) (by kernel_rfl) (e := Extern.SlicesOverlaps.overlaps #[65, 65] #[4]) (by kernel_rfl),
   Lib.run_overlaps_apart w 65 4 146 underlying65 2 Tryz.sizeOf146 ⟨vb, 0, none⟩ ⟨g, (i + 1) * 2, none⟩ 1 1 lb cb hvg 146 146 2 cur.size (by simp [World.shape?, hx]) (by simp [World.shape?, hg]) (by omega) (free_obj hx 0) (free_obj hx 2)]
  rfl
 generalize hn : l.length = n at *
 have hni : (n : Int) <= 100000 := by omega
 have hi0 : (0 : Int) <= (i : Int) := by omega
 have hr1 : ¬ ((cap : Int) < (n : Int) + 1) := by omega
 have hb2 : ¬ (cap = i + 1) := by omega
 have hb3 : (i : Int) <= (n : Int) + 1 := by omega
 have hb4 : ¬ (cap = i) := by omega
 have hw1 : IntKind.i64.wrap ((i : Int) + 1) = (i : Int) + 1 := IntWalk.i64_in _ (by omega)
 have htn : ((i : Int) + 1).toNat = i + 1 := by omega
 have hin : i <= n := by omega
 have hb1 : (0 : Int) <= (i : Int) + 1 := by omega
 have HGd := hid (show w.drew.heap[g]? = some (.cells cur.toList.toArray 146 (0, 0)) by rw [Array.toArray_toList]; exact hg)
 have hdl : (erow (l.drop i)).length = (n - i) * 2 := by rw [erow_length, List.length_drop, hn]
 have HK := hid (show n - i = Nat.min (n + 1 - i) (n - i) by simp only [Nat.min_def]; split <;> omega)
 have HN1 := hid hdl
 have HSrc := hid (show ∀ j v, (erow (l.drop i))[j]? = some v -> w.drew.cell? ((⟨g, i * 2, none⟩ : Addr).add j) = some v from λj v hj => by
  rw [Go.WideShapes.add_plain]
  show w.cell? _ = _
  rw [cell_obj hg, <- Array.getElem?_toList]
  rw [<- erow_drop, <- ht, List.getElem?_drop, List.getElem?_take] at hj
  split at hj
  ·exact hj
  ·cases hj)
 have HFit := hid (show (i + 1) * 2 + (erow (l.drop i)).length <= cur.toList.length by rw [hdl, Array.length_toList, hs]; omega)
 have HOne := hid (erow_one (l.drop i))
 have HLaid := hid (laid_mid cur.toList l i cap x (by rw [Array.length_toList, hs]) (by rw [hn]; exact ht) (by omega) (by omega))
 have HSl := hid (show (splice cur.toList ((i + 1) * 2) (erow (l.drop i))).length = cap * 2 from (len_splice2 HFit.out).trans (Array.length_toList.trans hs))
 have HK1 := hid (show 1 = Nat.min 1 (n + 1 - i) by simp only [Nat.min_def]; split <;> omega)
 have HFit2 := hid (show i * 2 + (ecell x).length <= (splice cur.toList ((i + 1) * 2) (erow (l.drop i))).length by rw [HSl.out]; show i * 2 + 2 <= _; omega)
 have HOne2 := hid (show ∀ v ∈ ecell x, v.oneCell' = true from λv hv => by simp [ecell] at hv; rcases hv with rfl | rfl <;> rfl)
 have HM := hid hm
 clear hg hx hl hm hs ht hdl
 go_enter func142, ntmps142
 go_wp2_with (simp only [hov])
 go_region_law_o (refine Two.step_copy2 rfl _ _ 65 65 rfl 146 underlying65 size46 g ((i + 1) * 2) (n - i) (cap - (i + 1)) ⟨g, i * 2, none⟩ (n + 1 - i) (cap - i) (n - i) (by simp [Act.eval, Act.put]) (by simp [Act.eval, Act.put]) cur.toList 146 HGd.out (erow (l.drop i)) HK.out HN1.out HSrc.out HFit.out HOne.out ?_; intro w4 hg4 hgr4)
 all_goals
  have HX4 := hid (show w4.heap[vb]? = some (oc x) from (hgr4.block vb (lt_of_obj HX.out) (λe => hvg (by injection e))).trans HX.out)
  have HCk := hid (show ∀ j v, (ecell x)[j]? = some v -> w4.cell? ((⟨vb, 0, none⟩ : Addr).add j) = some v from λj v hj => by
   rw [Go.WideShapes.add_plain, Nat.zero_add, cell_obj HX4.out]
   match j with
   | 0 => exact hj
   | 1 => exact hj
   | j + 2 => simp [ecell] at hj)
  go_wp2_with (first | ((with_reducible refine Two.wpList_copy2 (P := prog) rfl (.tmp 80) (.tmp 81) 65 65 rfl 146 underlying65 size46 g (i * 2) (n + 1 - i) (cap - i) ⟨vb, 0, none⟩ 1 1 1 ?_ ?_ (splice cur.toList ((i + 1) * 2) (erow (l.drop i))) 146 hg4.out (ecell x) HK1.out ?_ HCk.out HFit2.out HOne2.out ?_); exact rfl; exact rfl; exact rfl; intro w5 hg5 hgr5) | fail)
  go_ret
  have hlen : (l.take i ++ x :: l.drop i).length = n + 1 := by rw [List.length_append, List.length_cons, List.length_take, List.length_drop]; omega
  have hgr : w.grownBy w5 (some g) := ⟨hgr5.os.trans hgr4.os, hgr5.tape.trans hgr4.tape, hgr5.output.trans hgr4.output, Nat.le_trans hgr4.size hgr5.size, λk hk hne => (hgr5.block k (Nat.lt_of_lt_of_le hk hgr4.size) hne).trans (hgr4.block k hk hne)⟩
  refine ⟨some ⟨g, 0, none⟩, cap, by rw [hlen]; rfl, ⟨by rw [erow_length], .inr ⟨g, cap, _, rfl, hbg, hg5.out, by rw [hlen]; exact hr, HM.out, ?_, ?_⟩⟩, hgr⟩
  ·rw [List.size_toArray, len_splice2 HFit2.out, HSl.out]
  ·have h := HLaid.out
   rw [hn] at h
   rw [hlen]
   exact h
theorem laid_new (R : List Value) (l : List En) (i : Nat) (x : En) (ht : R.take (i * 2) = erow (l.take i)) (hi : i <= l.length) :
  (splice (splice R (i * 2) (ecell x)) ((i + 1) * 2) (erow (l.drop i))).take ((l.length + 1) * 2) = erow (l.take i ++ x :: l.drop i) := by
 have e0 : splice R (i * 2) (ecell x) = (erow (l.take i) ++ ecell x) ++ R.drop (i * 2 + 2) := by
  rw [show splice R (i * 2) (ecell x) = R.take (i * 2) ++ (ecell x ++ R.drop (i * 2 + 2)) from rfl, ht, List.append_assoc]
 have h1 : (erow (l.take i) ++ ecell x).length = (i + 1) * 2 := by rw [List.length_append, erow_length, List.length_take]; show _ + 2 = _; omega
 have e1 : (splice R (i * 2) (ecell x)).take ((i + 1) * 2) = erow (l.take i) ++ ecell x := by rw [e0, <- h1, List.take_left]
 have e3 : splice (splice R (i * 2) (ecell x)) ((i + 1) * 2) (erow (l.drop i)) = (erow (l.take i) ++ ecell x ++ erow (l.drop i)) ++ (splice R (i * 2) (ecell x)).drop ((i + 1) * 2 + (erow (l.drop i)).length) := by
  rw [show ∀ A : List Value, splice A ((i + 1) * 2) (erow (l.drop i)) = A.take ((i + 1) * 2) ++ (erow (l.drop i) ++ A.drop ((i + 1) * 2 + (erow (l.drop i)).length)) from λ_ => rfl, e1]
  simp only [List.append_assoc]
 have e4 : erow (l.take i) ++ ecell x ++ erow (l.drop i) = erow (l.take i ++ x :: l.drop i) := by
  rw [erow_append, show erow (x :: l.drop i) = ecell x ++ erow (l.drop i) from rfl, List.append_assoc]
 rw [e3, e4, List.take_left']
 rw [erow_length, List.length_append, List.length_cons, List.length_take, List.length_drop]
 omega
theorem ins_grow (base g cap : Nat) (cur : Array Value) (l : List En) (i vb : Nat) (x : En) (w : World) (hg : w.heap[g]? = some (.cells cur 146 (0, 0))) (hs : cur.size = cap * 2) (ht : cur.toList.take (l.length * 2) = erow l) (hx : w.heap[vb]? = some (oc x))
  (hi : i < l.length) (hr : cap < l.length + 1) (hm : l.length <= cap) (hl : l.length <= 100000) (hbw : base <= w.heap.size) :
  Calls prog 142 #[.slice (some ⟨g, 0, none⟩) l.length cap, .int .i64 (i : Int), .slice (some ⟨vb, 0, none⟩) 1 1] w (Rowed2 base (.slice (some ⟨g, 0, none⟩) l.length cap) (l.take i ++ x :: l.drop i) w) := by
 have mixed := mixd
 obtain ⟨i0, hi0, hz0, hz1, hz2⟩ := info_parts info46
 obtain rfl : cap = l.length := by omega
 have HX := hid hx
 have hgw := lt_of_obj hg
 have hvw := lt_of_obj hx
 have htk : cur.toList.take (i * 2) = erow (l.take i) := by rw [<- erow_take, <- ht, List.take_take, Nat.min_eq_left (by omega)]
 have hol : (erow (l.take i)).length = i * 2 := by rw [erow_length, List.length_take]; omega
 have hold : (Builtin.firstCells i0.size i (.slice (some ⟨g, 0, none⟩) i l.length)).run prog w.drew = .ok (erow (l.take i)).toArray w.drew := by
  rw [hz1]
  exact run_firstCells_some (P := prog) w.drew 2 i ⟨g, 0, none⟩ i l.length (erow (l.take i)) hol (λj v hj => by
   rw [Go.WideShapes.add_plain, Nat.zero_add]
   show w.cell? _ = _
   rw [cell_obj hg, <- Array.getElem?_toList]
   rw [<- htk, List.getElem?_take] at hj
   split at hj
   ·exact hj
   ·cases hj)
 have hrz : ∀ ty, (Builtin.append_ #[65, 3] ty #[.slice (some ⟨g, 0, none⟩) i l.length, .int .i64 ((l.length : Int) + 1 - (i : Int))]).run prog w =
   .ok (.slice (some ⟨w.heap.size, 0, none⟩) (l.length + 1) (grownCap w (l.length + 1) l.length 146)) (w.drew.alloc (.cells ((erow (l.take i)).toArray ++ Builtin.zeroCells (Value.agg #[.string ⟨#[]⟩, .int .i64 0]).cells (l.length + 1 - i) ++ Builtin.zeroCells (Value.agg #[.string ⟨#[]⟩, .int .i64 0]).cells (grownCap w (l.length + 1) l.length 146 - (l.length + 1))) 146)) := λty => by
  have h := Lib.run_append_grow_zeros (P := prog) w 65 3 ty 146 i0 _ .i64 .i64 underlying65 underlying3 hi0 hz0 (some ⟨g, 0, none⟩) i l.length (erow (l.take i)) hold (l.length + 1 - i) (by omega) (by omega) (by omega) (by omega) (by rw [hz2]; omega) (by rw [hz2, show i + (l.length + 1 - i) = l.length + 1 by omega]; exact growslice_fits (by omega) (by omega))
  rw [show i + (l.length + 1 - i) = l.length + 1 by omega] at h
  rw [show (l.length : Int) + 1 - (i : Int) = ((l.length + 1 - i : Nat) : Int) by omega]
  exact h
 have hGn : l.length + 1 <= grownCap w (l.length + 1) l.length 146 := grownCap_ge w _ _ _
 have hGm : grownCap w (l.length + 1) l.length 146 <= maxLen := grownCap_le_maxLen w _ _ _ (by unfold maxLen; omega)
 generalize grownCap w (l.length + 1) l.length 146 = G at *
 obtain ⟨R, hR⟩ : ∃ R : List Value, R.toArray = (erow (l.take i)).toArray ++ Builtin.zeroCells (Value.agg #[.string ⟨#[]⟩, .int .i64 0]).cells (l.length + 1 - i) ++ Builtin.zeroCells (Value.agg #[.string ⟨#[]⟩, .int .i64 0]).cells (G - (l.length + 1)) := ⟨_, Array.toArray_toList⟩
 have hRt : R.take (i * 2) = erow (l.take i) := by
  have e := congrArg Array.toList hR
  simp only [Array.toList_append] at e
  rw [e, List.append_assoc, <- hol, List.take_left]
 have hRl : R.length = G * 2 := by
  have e := congrArg Array.size hR
  simp only [Array.size_append, List.size_toArray, size_zeroCells, hol] at e
  have e2 : (Value.agg #[.string ⟨#[]⟩, .int .i64 0]).cells.size = 2 := rfl
  rw [e2] at e
  omega
 rw [<- hR] at hrz
 have HRn := hid (heap_alloc_new w.drew (.cells R.toArray 146))
 have HLaid := hid (laid_new R l i x hRt (by omega))
 have hdl : (erow (l.drop i)).length = (l.length - i) * 2 := by rw [erow_length, List.length_drop]
 have HN1 := hid hdl
 have HOne := hid (erow_one (l.drop i))
 have HOne2 := hid (show ∀ v ∈ ecell x, v.oneCell' = true from λv hv => by simp [ecell] at hv; rcases hv with rfl | rfl <;> rfl)
 have HFit1 := hid (show i * 2 + (ecell x).length <= R.length by rw [hRl]; show i * 2 + 2 <= _; omega)
 have HSl := hid (show (splice R (i * 2) (ecell x)).length = G * 2 from (len_splice2 HFit1.out).trans hRl)
 have HFit := hid (show (i + 1) * 2 + (erow (l.drop i)).length <= (splice R (i * 2) (ecell x)).length by rw [HSl.out, hdl]; omega)
 have HS0 := hid (show ∀ W : World, W.heap[g]? = w.heap[g]? -> ∀ j v, (erow (l.drop i))[j]? = some v -> W.cell? ((⟨g, i * 2, none⟩ : Addr).add j) = some v from λW hW j v hj => by
  rw [Go.WideShapes.add_plain, cell_obj (hW.trans hg), <- Array.getElem?_toList]
  rw [<- erow_drop, <- ht, List.getElem?_drop, List.getElem?_take] at hj
  split at hj
  ·exact hj
  ·cases hj)
 have HM := hid hGm
 generalize hn : l.length = n at *
 have HK1 := hid (show 1 = Nat.min 1 (n + 1 - i) by simp only [Nat.min_def]; split <;> omega)
 have HK := hid (show n - i = Nat.min (n - i) (n - i) by simp)
 have hni : (n : Int) <= 100000 := by omega
 have hi00 : (0 : Int) <= (i : Int) := by omega
 have hr1 : (n : Int) < (n : Int) + 1 := by omega
 have hw1 : IntKind.i64.wrap ((i : Int) + 1) = (i : Int) + 1 := IntWalk.i64_in _ (by omega)
 have htn : ((i : Int) + 1).toNat = i + 1 := by omega
 have hb1 : (0 : Int) <= (i : Int) + 1 := by omega
 have hb3 : (i : Int) <= (n : Int) := by omega
 have hGi : ¬ (G = i) := by omega
 have hGim : ¬ (G = i + 1) := by omega
 have hci : ¬ (n = i) := by omega
 have HGR := hid (show w.grownBy (w.drew.alloc (.cells R.toArray 146)) none from ⟨rfl, rfl, rfl, by simp, λk hk _ => (below_one w.drew (.cells R.toArray 146)).block k hk⟩)
 have HCk := hid (show ∀ j v, (ecell x)[j]? = some v -> (w.drew.alloc (.cells R.toArray 146)).cell? ((⟨vb, 0, none⟩ : Addr).add j) = some v from λj v hj => by
  rw [Go.WideShapes.add_plain, Nat.zero_add, cell_obj (((below_one w.drew (.cells R.toArray 146)).block vb hvw).trans HX.out)]
  match j with
  | 0 => exact hj
  | 1 => exact hj
  | j + 2 => simp [ecell] at hj)
 clear hg hx hl hm hs ht hdl hold hR hRt hRl hol htk hi0 hz0 hz1 hz2
 go_enter func142, ntmps142
 go_wp2_with (first
  | (at_builtin; refine Lib.wpList_append_run _ rfl _ _ _ _ rfl _ _ rfl rfl _ _ (hrz _) ?_)
  | ((with_reducible refine Two.wpList_copy2 (P := prog) rfl (.tmp 43) (.tmp 44) 65 65 rfl 146 underlying65 size46 w.heap.size (i * 2) (n + 1 - i) (G - i) ⟨vb, 0, none⟩ 1 1 1 ?_ ?_ R 146 ?_ (ecell x) HK1.out ?_ ?_ HFit1.out HOne2.out ?_); exact rfl; exact rfl; exact HRn.out; exact rfl; exact HCk.out; intro w4 hg4 hgr4)
  |fail)
 have HGR4 := hid (show w.grownBy w4 (some w.heap.size) from ⟨hgr4.os, hgr4.tape, hgr4.output, Nat.le_trans HGR.out.size hgr4.size, λk hk hne => (hgr4.block k (Nat.lt_of_lt_of_le hk HGR.out.size) hne).trans (HGR.out.block k hk (by simp))⟩)
 have HSrc := hid (HS0.out w4.drew (HGR4.out.block g hgw (λe => by injection e with e; omega)))
 go_region_law_o (refine Two.step_copy2 rfl _ _ 65 65 rfl 146 underlying65 size46 w.heap.size ((i + 1) * 2) (n - i) (G - (i + 1)) ⟨g, i * 2, none⟩ (n - i) (n - i) (n - i) (by simp [Act.eval, Act.put]) (by simp [Act.eval, Act.put]) (splice R (i * 2) (ecell x)) 146 hg4.out (erow (l.drop i)) HK.out HN1.out HSrc.out HFit.out HOne.out ?_; intro w5 hg5 hgr5)
 all_goals
  go_wp2_with fail
  go_ret
  have hlen : (l.take i ++ x :: l.drop i).length = n + 1 := by rw [List.length_append, List.length_cons, List.length_take, List.length_drop]; omega
  have hgr : w.grownBy w5 (some g) := ⟨hgr5.os.trans HGR4.out.os, hgr5.tape.trans HGR4.out.tape, hgr5.output.trans HGR4.out.output, Nat.le_trans HGR4.out.size hgr5.size, λk hk _ => (hgr5.block k (Nat.lt_of_lt_of_le hk HGR4.out.size) (λe => by injection e with e; omega)).trans (HGR4.out.block k hk (λe => by injection e with e; omega))⟩
  refine ⟨some ⟨w.heap.size, 0, none⟩, G, by rw [hlen]; rfl, ⟨by rw [erow_length], .inr ⟨w.heap.size, G, _, rfl, hbw, hg5.out, by rw [hlen]; exact hGn, HM.out, ?_, ?_⟩⟩, hgr⟩
  ·rw [List.size_toArray, len_splice2 HFit.out, HSl.out]
  ·have h := HLaid.out
   rw [hlen]
   exact h
theorem insert_any (base : Nat) (ao : Option Addr) (cp : Nat) (l : List En) (i vb : Nat) (x : En) (w : World) (hO : Own base (.slice ao l.length cp) l w) (hx : w.heap[vb]? = some (oc x)) (hvb : some vb ≠ (Value.slice ao l.length cp).ownBlock) (hi : i <= l.length) (hl : l.length <= 100000) (hb : base <= w.heap.size) :
  Calls prog 142 #[.slice ao l.length cp, .int .i64 (i : Int), .slice (some ⟨vb, 0, none⟩) 1 1] w (Rowed2 base (.slice ao l.length cp) (l.take i ++ x :: l.drop i) w) := by
 rcases Nat.eq_or_lt_of_le hi with h | h
 ·subst h
  rw [List.take_length, List.drop_length]
  exact ins_end base ao cp l vb x w hO hx hl hb
 ·obtain ⟨hlen, ⟨e, h0⟩ | ⟨g, cap, cur, e, hbg, hg, hn, hm, hs, ht⟩⟩ := hO
  ·omega
  ·injection e with e1 e2 e3
   subst e1 e3
   rcases Nat.lt_or_ge cp (l.length + 1) with hr | hr
   ·exact ins_grow base g cp cur l i vb x w hg hs ht hx h hr hn hl hb
   ·exact ins_room base g cp cur l i vb x w hg hs ht hx (λe => hvb (by rw [e]; rfl)) h hr hm hl hbg
end Go.Proofs.YthbajmlmjjfgpaaGreatDoor
namespace Go.Proofs.YthbajmlmjjfgpaaGreatDoor
open Go.RowKit Go.Less Go.Shelf
attribute [local go_sem 9000] sem_eql sem_neq sem_lss sem_leq sem_gtr sem_geq
def u8z (n : Int) : UInt8 := UInt8.ofNat (n % 256).toNat
def shn (n : Int) (k : Nat) : Int := n / 2 ^ k
theorem sem_shr64 (t : TypeId) (n k : Int) (h0 : 0 <= k) (h63 : k < 64) : binOp .shr t (.int .i64 n) (.int .u64 k) = pure (.int .i64 (shn n k.toNat)) := by
 show Op.shift .shr .i64 n .u64 k = _
 rw [shift_shr_any _ _ _ _ h0]; unfold shn
 show pure (Value.int .i64 (n / ((2 ^ min k.toNat 64 : Nat) : Int))) = _
 rw [Nat.min_eq_left (by omega)]
 congr 2
theorem run_c8 (w : World) (n : Int) : (convert 3 5 (.int .i64 n)).run prog w = .ok (.int .u8 ((u8z n).toNat : Int)) w := by
 have h : (convert 3 5 (.int .i64 n)).run prog w = .ok (.int .u8 (IntKind.u8.wrap n)) w := by rfl
 unfold u8z
 rw [h, IntKind.wrap_u8', UInt8.toNat_ofNat']
 congr 2; omega
theorem u8z_nat (q : Nat) : u8z (q : Int) = UInt8.ofNat q := by
 unfold u8z
 apply UInt8.toNat_inj.1
 rw [UInt8.toNat_ofNat', UInt8.toNat_ofNat']
 omega
theorem u8z_sh (q k : Nat) : u8z (shn (q : Int) k) = UInt8.ofNat (q / 2 ^ k) := by
 unfold shn
 rw [show (q : Int) / 2 ^ k = ((q / 2 ^ k : Nat) : Int) by rw [Int.natCast_ediv, Int.natCast_pow]; rfl, u8z_nat]
attribute [local go_sem 9000] sem_shr64 run_c8
abbrev BA (B : Nat) (bs : List Value) (w : World) : Prop := Lib.BuilderAtF 93 5 B B (.pointer (some ⟨B, 0, none⟩)) bs w
abbrev IB (B : Nat) (bs : List Value) (w : World) : Prop := Lib.IsBuilderF 93 5 B B bs w
theorem at_alloc {B : Nat} {p : Value} {bs : List Value} {w : World} (h : Lib.BuilderAtF 93 5 B B p bs w) (o : Obj) : Lib.BuilderAtF 93 5 B B p bs (w.alloc o) := by
 obtain ⟨hB, v, hbk, hown, hne⟩ := h
 exact ⟨hB, v, (below_one w o).block _ (lt_of_obj hbk) |>.trans hbk, hown.alloc o, hne⟩
theorem ib_alloc {B : Nat} {bs : List Value} {w : World} (h : IB B bs w) (o : Obj) : IB B bs (w.alloc o) := h.elim (λx => .inl (at_alloc x o)) (λx => .inr (at_alloc x o))
theorem ib_lt {B : Nat} {bs : List Value} {w : World} (h : IB B bs w) : B < w.heap.size := by
 rcases h with ⟨_, v, h, _⟩ | ⟨_, v, h, _⟩ <;> exact lt_of_obj h
theorem ib_new (w : World) : IB w.heap.size [] (w.alloc (.cells #[.pointer none, .slice none 0 0] 93)) :=
 .inl ⟨Nat.le_refl _, .slice none 0 0, heap_alloc_new w _, World.ownsRowF_of ⟨rfl, .inl ⟨rfl, rfl⟩⟩, λe => by cases e⟩
theorem write4_any (B : Nat) (bs : List Value) (q : Nat) (c0 c1 c2 c3 : UInt8) (w : World) (h : BA B bs w) (hq : w.heap[q]? = some (.cells #[.int .u8 (c0.toNat : Int), .int .u8 (c1.toNat : Int), .int .u8 (c2.toNat : Int), .int .u8 (c3.toNat : Int)] 5 (0, 0))) (hlen : bs.length + 4 <= 140737488355328) (hBw : B <= w.heap.size) :
  Calls prog 195 #[.pointer (some ⟨B, 0, none⟩), .slice (some ⟨q, 0, none⟩) 4 4] w λe w' => e = .returned (.tuple #[.int .i64 4, .nilIface]) /\ BA B (bs ++ [.int .u8 (c0.toNat : Int), .int .u8 (c1.toNat : Int), .int .u8 (c2.toNat : Int), .int .u8 (c3.toNat : Int)]) w' /\ Below B w w' := by
 obtain ⟨i0, hi, hz0, hz1, hz2⟩ := info_parts extra.infoByte
 have HCC := hid (Any.Builder_copyCheck_used { lays166 with } extra.toX72 B w h.cell0)
 obtain ⟨hB, v, hbk, hown, hne⟩ := h
 have c0' : w.cell? ⟨B, 0, none⟩ = some (.pointer (some ⟨B, 0, none⟩)) := by rw [Lib.cell_of_heap hbk]; rfl
 have c1' : w.cell? ⟨B, 1, none⟩ = some v := by rw [Lib.cell_of_heap hbk]; rfl
 have HQ := hid hq
 have HO := hid hown
 have HBK := hid hbk
 clear hq hown hbk
 go_enter func195, ntmps195
 go_wp2_with fail
 refine HCC.out.mono ?_
 rintro e w1 ⟨rfl, rfl⟩
 dsimp only
 go_wp2_with (first | (at_builtin; refine wpList_append_ownF _ rfl _ _ 91 rfl B 5 i0 (.int .u8 0) 1 1 underlying91 hi hz0 hz1 hz2 rfl (by decide) _ _ _ rfl HO.out ⟨q, 0, none⟩ 4 4 [.int .u8 (c0.toNat : Int), .int .u8 (c1.toNat : Int), .int .u8 (c2.toNat : Int), .int .u8 (c3.toNat : Int)] rfl rfl ?c1 ?c2 ?c3 ?c4 ?c5 ?_) | fail)
 case c1 =>
  intro j u hj
  rw [Go.WideShapes.add_plain, Nat.zero_add, cell_obj HQ.out]
  match j with
  | 0 => exact hj
  | 1 => exact hj
  | 2 => exact hj
  | 3 => exact hj
  | j + 4 => simp at hj
 case c2 => intro u hu; simp at hu; rcases hu with rfl | rfl | rfl | rfl <;> rfl
 case c3 => unfold maxLen; omega
 case c4 => omega
 case c5 => exact hBw
 intro v' w2 hown' hgrow _
 have hlt := lt_of_obj HBK.out
 have hb2 : w2.heap[B]? = some (.cells #[.pointer (some ⟨B, 0, none⟩), v] 93 (0, 0)) := by
  rw [hgrow.block B hlt (λe => hne e.symm)]; exact HBK.out
 have d1 : w2.cell? ⟨B, 1, none⟩ = some v := by rw [Lib.cell_of_heap hb2]; rfl
 have f1 : w2.frozen? ⟨B, 1, none⟩ = false := Lib.frozen_of_heap hb2 1
 obtain ⟨ao, n', cap, rfl⟩ : ∃ ao n' cap, v' = .slice ao n' cap := by
  rcases hown'.2 with ⟨hv, _⟩ | ⟨g, cap, cur, fz, hv, _⟩
  ·exact ⟨_, _, _, hv⟩
  ·exact ⟨_, _, _, hv⟩
 go_wp2_with fail
 go_ret2
 refine ⟨rfl, ?_, ?_⟩
 ·exact Lib.BuilderAtF.put (T := 93) (e := 5) hB hb2 (by simpa using hown') extra.neB5
 ·exact ((Below.refl B w1).grown hgrow hBw (λk hk => (HO.out.lt k hk).1)).setCell (p := ⟨B, 1, none⟩) hB _
def flat (l : List En) : List UInt8 := (l.map Nd.entText).flatten
theorem flat_snoc (l : List En) (x : En) : flat (l ++ [x]) = flat l ++ Nd.entText x := by unfold flat; simp
theorem flat_len {l : List En} (h : ∀ x ∈ l, x.1.size <= 16) : (flat l).length <= 21 * l.length := by
 induction l using Nd.snoc_rec with
 | nil => exact Nat.le_refl _
 | append_singleton l x ih =>
  have h1 := ih (λy hy => h y (by simp [hy]))
  have h2 := h x (by simp)
  rw [flat_snoc, List.length_append, List.length_append, List.length_singleton]
  have h3 : (Nd.entText x).length = x.1.size + 5 := by
   unfold Nd.entText
   rw [List.length_cons, List.length_append, Nd.len_bs]; rfl
  omega
theorem cells_ent (bs : List Value) (y : ByteArray) (q : Nat) :
  ((bs ++ [.int .u8 ((u8z (y.size : Int)).toNat : Int)]) ++ Lib.strCells y) ++ [.int .u8 ((u8z (shn (q : Int) 24)).toNat : Int), .int .u8 ((u8z (shn (q : Int) 16)).toNat : Int), .int .u8 ((u8z (shn (q : Int) 8)).toNat : Int), .int .u8 ((u8z (q : Int)).toNat : Int)] = bs ++ Lib.byteCells (Nd.entText (y, (q : Int))) := by
 rw [u8z_sh, u8z_sh, u8z_sh, u8z_nat, u8z_nat]
 simp only [Nd.entText, Nd.n4, Int.toNat_natCast, Lib.byteCells, Lib.strCells, Nd.bs, List.append_assoc, List.map_cons, List.map_append, List.map_nil, List.cons_append, List.nil_append]
theorem entriesText_any (a : Option Addr) (n cap : Nat) (l : List En) (w : World) (hE : Ents a n l w) (hn : n <= 64) (hs : ∀ x ∈ l, x.1.size <= 16 /\ 0 <= x.2 /\ x.2 <= 2147483647) :
  Calls prog 169 #[.slice a n cap] w λe w' => e = .returned (.string (lstr (flat l))) /\ Below w.heap.size w w' := by
 have HNL := hid hE.count
 have hni : (n : Int) <= 64 := by omega
 have HE := hid (λW (hb : Below w.heap.size w W) => hE.below hb)
 have HS := hid hs
 clear hE hs
 go_enter func169, ntmps169
 go_wp2_with fail
 go_loopw [8] (λi wr => (∃ j : Nat, j <= n /\ i = .int .i64 j /\ Hid (IB w.heap.size (Lib.byteCells (flat (l.take j))) wr)) /\ Below w.heap.size w wr) (λi _ => n - (intOf i).toNat)
 case atStart => exact ⟨⟨0, Nat.zero_le _, rfl, ib_new w⟩, below_one w _⟩
 case round =>
  obtain ⟨⟨j, hj, rfl, HI⟩, hb⟩ := hrel
  have HB := hid hb
  by_cases hlt : j < n
  ·have j0 : (j : Int) < (n : Int) := by omega
   have hj0 : (0 : Int) <= (j : Int) := by omega
   have hjl : j < l.length := by rw [<- HNL.out]; exact hlt
   obtain ⟨b, off, rfl, c0, c1⟩ := (HE.out _ hb).cell j hlt
   have hz := HS.out (l.getD j z0) (by rw [List.getD, List.getElem?_eq_getElem hjl]; exact List.getElem_mem hjl)
   have HT := hid (take_snoc hjl z0)
   have hfl : (flat (l.take j)).length <= 2000 := by
    have h1 := flat_len (l := l.take j) (λx hx => (HS.out x (List.mem_of_mem_take hx)).1)
    rw [List.length_take] at h1
    omega
   have hfl2 : (Lib.byteCells (flat (l.take j))).length <= 2000 := by rw [Lib.byteCells, List.length_map]; exact hfl
   have HFl := hid hfl2
   have HA := hid (show Lib.byteCells (flat (l.take (j + 1))) = Lib.byteCells (flat (l.take j)) ++ Lib.byteCells (Nd.entText (l.getD j z0)) by rw [HT.out, flat_snoc]; simp [Lib.byteCells])
   clear hfl hfl2
   generalize l.getD j z0 = x at c0 c1 hz HA HT
   obtain ⟨y, i⟩ := x
   dsimp only at c0 c1 hz
   obtain ⟨q, rfl⟩ : ∃ q : Nat, i = q := ⟨i.toNat, by omega⟩
   have HC := hid (cells_ent (Lib.byteCells (flat (l.take j))) y q)
   generalize Lib.byteCells (flat (l.take j)) = bs at *
   have hy16 := hz.1
   have hltB := ib_lt HI.out
   have HIa := hid (ib_alloc HI.out (oc (y, (q : Int))))
   have HNw := hid (heap_alloc_new wr (oc (y, (q : Int))))
   have HBA := hid (show Below w.heap.size w (wr.alloc (oc (y, (q : Int)))) from hb.alloc hb.size _)
   clear hz hjl HI
   go_wp2_with fail
   refine (Any.Builder_WriteByte_k lays167 extra w.heap.size w.heap.size bs _ _ HIa.out (Nat.le_trans (Nat.succ_le_succ HFl.out) (by decide)) HBA.out.size).mono ?_
   rintro e w2 ⟨rfl, hA2, hb2, hk2⟩
   have HN2 := hid (hk2 _ _ HNw.out (λe => by injection e with e; omega) (λc fz e => by cases e))
   have HB2 := hid (HBA.out.trans hb2)
   have HA2 := hid hA2
   have e2 : w2.cell? ⟨wr.heap.size, 0, none⟩ = some (.string y) := cell_obj HN2.out 0
   clear hA2 hb2 hk2
   dsimp only
   go_wp2_with fail
   refine (Any.Builder_WriteString_k lays166 extra w.heap.size w.heap.size _ y _ (.inr HA2.out) (by rw [List.length_append, List.length_singleton]; exact Nat.le_trans (Nat.add_le_add (Nat.succ_le_succ HFl.out) hy16) (by decide)) HB2.out.size).mono ?_
   rintro e w3 ⟨rfl, hA3, hb3, hk3⟩
   have HN3 := hid (hk3 _ _ HN2.out (λe => by injection e with e; omega) (λc fz e => by cases e))
   have HB3 := hid (HB2.out.trans hb3)
   have HA3 := hid hA3
   have e3 : w3.cell? ⟨wr.heap.size, 1, none⟩ = some (.int .i64 (q : Int)) := cell_obj HN3.out 1
   clear hA3 hb3 hk3 e2
   dsimp only
   go_wp2_with fail
   refine (write4_any w.heap.size _ w3.heap.size _ _ _ _ _ (at_alloc HA3.out _) (heap_alloc_new w3 _) (by rw [List.length_append, List.length_append, List.length_singleton, Lib.strCells_length]; exact Nat.le_trans (Nat.add_le_add_right (Nat.add_le_add (Nat.succ_le_succ HFl.out) hy16) 4) (by decide)) (Nat.le_trans HB3.out.size (below_one w3 _).size)).mono ?_
   rintro e w4 ⟨rfl, hA4, hb4⟩
   rw [HC.out] at hA4
   have HA4 := hid hA4
   have HB4 := hid ((HB3.out.alloc HB3.out.size (.cells #[.int .u8 ((u8z (shn (q : Int) 24)).toNat : Int), .int .u8 ((u8z (shn (q : Int) 16)).toNat : Int), .int .u8 ((u8z (shn (q : Int) 8)).toNat : Int), .int .u8 ((u8z (q : Int)).toNat : Int)] 5)).trans hb4)
   clear hA4 hb4
   dsimp only
   go_wp2_with fail
   go_roundw
   case rel => exact ⟨⟨j + 1, by omega, by go_num, by rw [HA.out]; exact .inr HA4.out⟩, HB4.out⟩
   case measure => simp [intOf]; omega
  ·obtain rfl : j = n := by omega
   have HI2 := hid HI.out
   rw [show l.take j = l by rw [HNL.out, List.take_length]] at HI2
   clear hb HI
   go_wp2_with fail
   refine (Any.Builder_String_any_k lays169 extra w.heap.size w.heap.size (flat l) _ HI2.out HB.out.size).mono ?_
   rintro e w2 ⟨rfl, _, hb2, _⟩
   have HB2 := hid (HB.out.trans hb2)
   clear hb2
   dsimp only
   go_wp2_with fail
   go_ret
   exact ⟨rfl, HB2.out⟩
end Go.Proofs.YthbajmlmjjfgpaaGreatDoor
