/- Layer 11, a part of the proofs: no statement of its own. -/
import Derived.Deep.RegionHeld3
import Derived.Shelf.Abstract
import Derived.Test.YthehblmjloohiaaGreatDoorM12
namespace Go.Proofs.YthehblmjloohiaaGreatDoor
set_option maxRecDepth 100000
open Go.RowKit Go.Less
theorem del_mid (cur : List Value) (l : List En) (i : Nat) (ht : cur.take (l.length * 2) = erow l) (hi : i < l.length) :
  (splice cur (i * 2) (erow (l.drop (i + 1)))).take ((l.length - 1) * 2) = erow (l.take i ++ l.drop (i + 1)) := by
 have h1 : cur.take (i * 2) = erow (l.take i) := by
  rw [← erow_take, ← ht, List.take_take, Nat.min_eq_left (by omega)]
 rw [show splice cur (i * 2) (erow (l.drop (i + 1))) = (cur.take (i * 2) ++ erow (l.drop (i + 1))) ++ cur.drop (i * 2 + (erow (l.drop (i + 1))).length) from by unfold splice; rw [List.append_assoc], h1, ← erow_append, List.take_left']
 rw [erow_length, List.length_append, List.length_take, List.length_drop]
 omega
set_option maxHeartbeats 4000000 in
theorem del_more (base g cap : Nat) (cur : Array Value) (l : List En) (i m : Nat) (w : World) (hg : w.heap[g]? = some (.cells cur 85 (0, 0))) (hs : cur.size = cap * 2) (ht : cur.toList.take (l.length * 2) = erow l)
  (hlm : l.length = i + 1 + m) (hr : l.length ≤ cap) (hm : cap ≤ maxLen) (hl : l.length ≤ 100000) (hbg : base ≤ g) (hcc : ¬ cap = i + 1) :
  Calls Tryz.prog 185 #[.slice (some ⟨g, 0, none⟩) l.length cap, .int .i64 (i : Int), .int .i64 ((i : Int) + 1)] w (Rowed2 base (.slice (some ⟨g, 0, none⟩) l.length cap) (l.take i ++ l.drop (i + 1)) w) := by
 have mixed := mixd
 have HG := Lib.hid hg
 have hc63 : cap ≤ 9223372036854775807 := by unfold maxLen at hm; exact hm
 have hdl : (erow (l.drop (i + 1))).length = m * 2 := by rw [erow_length, List.length_drop]; omega
 have HN1 := Lib.hid hdl
 have HGd := Lib.hid (show w.drew.heap[g]? = some (.cells cur.toList.toArray 85 (0, 0)) by rw [Array.toArray_toList]; exact hg)
 have HSrc := Lib.hid (show ∀ j v, (erow (l.drop (i + 1)))[j]? = some v → w.drew.cell? ((⟨g, (i + 1) * 2, none⟩ : Addr).add j) = some v from fun j v hj => by
  skip
  rw [Go.WideShapes.add_plain]
  show w.cell? _ = _
  rw [cell_obj hg, ← Array.getElem?_toList]
  rw [← erow_drop, ← ht, List.getElem?_drop, List.getElem?_take] at hj
  split at hj
  ·exact hj
  ·cases hj)
 have HOne := Lib.hid (erow_one (l.drop (i + 1)))
 have HFit := Lib.hid (show i * 2 + (erow (l.drop (i + 1))).length ≤ cur.toList.length by rw [hdl, Array.length_toList, hs]; omega)
 have HSl := Lib.hid (show (splice cur.toList (i * 2) (erow (l.drop (i + 1)))).length = cap * 2 from (len_splice2 HFit.out).trans (Array.length_toList.trans hs))
 have HLaid := Lib.hid (del_mid cur.toList l i ht (by omega))
 have HM := Lib.hid hm
 rw [hlm] at hr hl
 generalize hn : l.length = n at *
 subst hlm
 have hni : (i : Int) + 1 + (m : Int) ≤ 100000 := by omega
 have hi0 : (0 : Int) ≤ (i : Int) := by omega
 have hm0 : (0 : Int) ≤ (m : Int) := by omega
 have hi1 : ¬ ((i : Int) = (i : Int) + 1) := by omega
 have hb1 : (0 : Int) ≤ (i : Int) + 1 := by omega
 have hb2 : (i : Int) ≤ (i : Int) + 1 := by omega
 have hb3 : (i : Int) + 1 ≤ (i : Int) + 1 + (m : Int) := by omega
 have hb4 : (i : Int) + 1 + (m : Int) ≤ (cap : Int) := by omega
 have htn : ((i : Int) + 1).toNat = i + 1 := by omega
 have htn2 : ((i : Int) + 1 + (m : Int)).toNat = i + 1 + m := by omega
 have htn3 : ((i : Int) + (m : Int)).toNat = i + m := by omega
 have hic : i ≤ cap := by omega
 have hici : (i : Int) ≤ (cap : Int) := by omega
 have hjm : i + 1 + m - (i + 1) = m := by omega
 have hq1 : i + 1 + m - (i + m) = 1 := by omega
 have hb5 : (i : Int) + (m : Int) ≤ (i : Int) + 1 + (m : Int) := by omega
 have hb6 : (0 : Int) ≤ (i : Int) + (m : Int) := by omega
 have hcm : ¬ (cap = i + m) := by omega
 have hcm2 : i + m ≤ cap := by omega
 have hcm3 : i + 1 + m ≤ cap := by omega
 have hcm4 : i + m ≤ i + 1 + m := by omega
 have hcm5 : i + 1 ≤ i + 1 + m := by omega
 clear hg hl hm hs ht hdl
 go_enter Tryz.func185, Tryz.ntmps185
 go_wp2_with fail
 go_region_law_o (refine Two.step_app2 rfl _ _ 41 rfl 85 Tryz.underlying41 size46 g i cap ⟨g, (i + 1) * 2, none⟩ m (cap - (i + 1)) (by simp [Act.eval, Act.put]) (by simp [Act.eval, Act.put]) cur.toList HGd.out (erow (l.drop (i + 1))) HN1.out HSrc.out HOne.out hcm2 HFit.out ?_; intro w4 hg4 hgr4)
 all_goals
  have hcl : ∀ ty, (Builtin.clear_ #[41] ty #[.slice (some ⟨g, (i + m) * 2, none⟩) 1 (cap - (i + m))]).run Tryz.prog w4 = .ok (.tuple #[]) (w4.setRow g ((splice cur.toList (i * 2) (erow (l.drop (i + 1)))).toArray.toList.take ((i + m) * 2) ++ [Value.string ⟨#[]⟩, Value.int .i64 0] ++ (splice cur.toList (i * 2) (erow (l.drop (i + 1)))).toArray.toList.drop ((i + m) * 2 + 2)).toArray) := fun ty =>
   Two.run_clear2 w4 41 85 ty (.agg #[.string ⟨#[]⟩, .int .i64 0]) _ _ Tryz.underlying41 Tryz.zeroValue85 rfl rfl rfl g ((i + m) * 2) (cap - (i + m)) _ 85 hg4.out (by rw [List.size_toArray, HSl.out]; omega)
  have HS5 := Lib.hid (setRow_heap w4 g _ ((splice cur.toList (i * 2) (erow (l.drop (i + 1)))).toArray.toList.take ((i + m) * 2) ++ [Value.string ⟨#[]⟩, Value.int .i64 0] ++ (splice cur.toList (i * 2) (erow (l.drop (i + 1)))).toArray.toList.drop ((i + m) * 2 + 2)).toArray 85 _ hg4.out)
  have HR5 := Lib.hid (Two.grown_setRow w4 g ((splice cur.toList (i * 2) (erow (l.drop (i + 1)))).toArray.toList.take ((i + m) * 2) ++ [Value.string ⟨#[]⟩, Value.int .i64 0] ++ (splice cur.toList (i * 2) (erow (l.drop (i + 1)))).toArray.toList.drop ((i + m) * 2 + 2)).toArray)
  have HSz := Lib.hid (show ((splice cur.toList (i * 2) (erow (l.drop (i + 1)))).toArray.toList.take ((i + m) * 2) ++ [Value.string ⟨#[]⟩, Value.int .i64 0] ++ (splice cur.toList (i * 2) (erow (l.drop (i + 1)))).toArray.toList.drop ((i + m) * 2 + 2)).length = cap * 2 by
   simp only [List.length_append, List.length_take, List.length_drop, HSl.out, List.length_cons, List.length_nil]; omega)
  have HTk := Lib.hid (show ((splice cur.toList (i * 2) (erow (l.drop (i + 1)))).toArray.toList.take ((i + m) * 2) ++ [Value.string ⟨#[]⟩, Value.int .i64 0] ++ (splice cur.toList (i * 2) (erow (l.drop (i + 1)))).toArray.toList.drop ((i + m) * 2 + 2)).take ((i + m) * 2) = erow (l.take i ++ l.drop (i + 1)) by
   rw [List.append_assoc, List.take_append_of_le_length (by simp only [List.length_take, HSl.out]; omega), List.take_take, Nat.min_self, show i + m = i + 1 + m - 1 by omega]; exact HLaid.out)
  generalize (splice cur.toList (i * 2) (erow (l.drop (i + 1)))).toArray.toList.take ((i + m) * 2) ++ [Value.string ⟨#[]⟩, Value.int .i64 0] ++ (splice cur.toList (i * 2) (erow (l.drop (i + 1)))).toArray.toList.drop ((i + m) * 2 + 2) = Z at *
  generalize w4.setRow g Z.toArray = w5 at *
  go_wp2_with fail
  go_ret
  have hlen : (l.take i ++ l.drop (i + 1)).length = i + m := by rw [List.length_append, List.length_take, List.length_drop]; omega
  have hgr : w.grownBy w5 (some g) := ⟨HR5.out.os.trans hgr4.os, HR5.out.tape.trans hgr4.tape, HR5.out.output.trans hgr4.output, Nat.le_trans hgr4.size HR5.out.size, fun k hk hne => (HR5.out.block k (Nat.lt_of_lt_of_le hk hgr4.size) hne).trans (hgr4.block k hk hne)⟩
  refine ⟨some ⟨g, 0, none⟩, cap, by rw [hlen]; rfl, ⟨by rw [erow_length], .inr ⟨g, cap, _, rfl, hbg, HS5.out, by rw [hlen]; exact hcm2, HM.out, ?_, ?_⟩⟩, hgr⟩
  ·rw [List.size_toArray, HSz.out]
  ·rw [hlen]; exact HTk.out
set_option maxHeartbeats 4000000 in
theorem del_last (base g cap : Nat) (cur : Array Value) (l : List En) (i m : Nat) (w : World) (hg : w.heap[g]? = some (.cells cur 85 (0, 0))) (hs : cur.size = cap * 2) (ht : cur.toList.take (l.length * 2) = erow l)
  (hlm : l.length = i + 1 + m) (hr : l.length ≤ cap) (hm : cap ≤ maxLen) (hl : l.length ≤ 100000) (hbg : base ≤ g) (hcc : cap = i + 1) :
  Calls Tryz.prog 185 #[.slice (some ⟨g, 0, none⟩) l.length cap, .int .i64 (i : Int), .int .i64 ((i : Int) + 1)] w (Rowed2 base (.slice (some ⟨g, 0, none⟩) l.length cap) (l.take i ++ l.drop (i + 1)) w) := by
 have mixed := mixd
 have HG := Lib.hid hg
 have hc63 : cap ≤ 9223372036854775807 := by unfold maxLen at hm; exact hm
 have hdl : (erow (l.drop (i + 1))).length = m * 2 := by rw [erow_length, List.length_drop]; omega
 have HN1 := Lib.hid hdl
 have HGd := Lib.hid (show w.drew.heap[g]? = some (.cells cur.toList.toArray 85 (0, 0)) by rw [Array.toArray_toList]; exact hg)
 have HSrc := Lib.hid (show ∀ j v, (erow (l.drop (i + 1)))[j]? = some v → w.drew.cell? ((⟨g, 0, none⟩ : Addr).add j) = some v from fun j v hj => by
  exfalso
  have h0 : (erow (l.drop (i + 1))).length = 0 := by rw [hdl]; omega
  rw [List.eq_nil_of_length_eq_zero h0] at hj
  simp at hj)
 have HOne := Lib.hid (erow_one (l.drop (i + 1)))
 have HFit := Lib.hid (show i * 2 + (erow (l.drop (i + 1))).length ≤ cur.toList.length by rw [hdl, Array.length_toList, hs]; omega)
 have HSl := Lib.hid (show (splice cur.toList (i * 2) (erow (l.drop (i + 1)))).length = cap * 2 from (len_splice2 HFit.out).trans (Array.length_toList.trans hs))
 have HLaid := Lib.hid (del_mid cur.toList l i ht (by omega))
 have HM := Lib.hid hm
 rw [hlm] at hr hl
 generalize hn : l.length = n at *
 subst hlm
 have hni : (i : Int) + 1 + (m : Int) ≤ 100000 := by omega
 have hi0 : (0 : Int) ≤ (i : Int) := by omega
 have hm0 : (0 : Int) ≤ (m : Int) := by omega
 have hi1 : ¬ ((i : Int) = (i : Int) + 1) := by omega
 have hb1 : (0 : Int) ≤ (i : Int) + 1 := by omega
 have hb2 : (i : Int) ≤ (i : Int) + 1 := by omega
 have hb3 : (i : Int) + 1 ≤ (i : Int) + 1 + (m : Int) := by omega
 have hb4 : (i : Int) + 1 + (m : Int) ≤ (cap : Int) := by omega
 have htn : ((i : Int) + 1).toNat = i + 1 := by omega
 have htn2 : ((i : Int) + 1 + (m : Int)).toNat = i + 1 + m := by omega
 have htn3 : ((i : Int) + (m : Int)).toNat = i + m := by omega
 have hic : i ≤ cap := by omega
 have hici : (i : Int) ≤ (cap : Int) := by omega
 have hjm : i + 1 + m - (i + 1) = m := by omega
 have hq1 : i + 1 + m - (i + m) = 1 := by omega
 have hb5 : (i : Int) + (m : Int) ≤ (i : Int) + 1 + (m : Int) := by omega
 have hb6 : (0 : Int) ≤ (i : Int) + (m : Int) := by omega
 have hcm : ¬ (cap = i + m) := by omega
 have hcm2 : i + m ≤ cap := by omega
 have hcm3 : i + 1 + m ≤ cap := by omega
 have hcm4 : i + m ≤ i + 1 + m := by omega
 have hcm5 : i + 1 ≤ i + 1 + m := by omega
 have hcm6 : i + m ≤ i + 1 := by omega
 have hcm7 : ¬ (i + 1 = i + m) := by omega
 clear hg hl hm hs ht hdl
 go_enter Tryz.func185, Tryz.ntmps185
 go_wp2_with fail
 go_region_law_o (refine Two.step_app2 rfl _ _ 41 rfl 85 Tryz.underlying41 size46 g i (i + 1) ⟨g, 0, none⟩ m 0 (by simp [Act.eval, Act.put]) (by simp [Act.eval, Act.put]) cur.toList HGd.out (erow (l.drop (i + 1))) HN1.out HSrc.out HOne.out hcm6 HFit.out ?_; intro w4 hg4 hgr4)
 all_goals
  have hcl : ∀ ty, (Builtin.clear_ #[41] ty #[.slice (some ⟨g, (i + m) * 2, none⟩) 1 (i + 1 - (i + m))]).run Tryz.prog w4 = .ok (.tuple #[]) (w4.setRow g ((splice cur.toList (i * 2) (erow (l.drop (i + 1)))).toArray.toList.take ((i + m) * 2) ++ [Value.string ⟨#[]⟩, Value.int .i64 0] ++ (splice cur.toList (i * 2) (erow (l.drop (i + 1)))).toArray.toList.drop ((i + m) * 2 + 2)).toArray) := fun ty =>
   Two.run_clear2 w4 41 85 ty (.agg #[.string ⟨#[]⟩, .int .i64 0]) _ _ Tryz.underlying41 Tryz.zeroValue85 rfl rfl rfl g ((i + m) * 2) (i + 1 - (i + m)) _ 85 hg4.out (by rw [List.size_toArray, HSl.out]; omega)
  have HS5 := Lib.hid (setRow_heap w4 g _ ((splice cur.toList (i * 2) (erow (l.drop (i + 1)))).toArray.toList.take ((i + m) * 2) ++ [Value.string ⟨#[]⟩, Value.int .i64 0] ++ (splice cur.toList (i * 2) (erow (l.drop (i + 1)))).toArray.toList.drop ((i + m) * 2 + 2)).toArray 85 _ hg4.out)
  have HR5 := Lib.hid (Two.grown_setRow w4 g ((splice cur.toList (i * 2) (erow (l.drop (i + 1)))).toArray.toList.take ((i + m) * 2) ++ [Value.string ⟨#[]⟩, Value.int .i64 0] ++ (splice cur.toList (i * 2) (erow (l.drop (i + 1)))).toArray.toList.drop ((i + m) * 2 + 2)).toArray)
  have HSz := Lib.hid (show ((splice cur.toList (i * 2) (erow (l.drop (i + 1)))).toArray.toList.take ((i + m) * 2) ++ [Value.string ⟨#[]⟩, Value.int .i64 0] ++ (splice cur.toList (i * 2) (erow (l.drop (i + 1)))).toArray.toList.drop ((i + m) * 2 + 2)).length = cap * 2 by
   simp only [List.length_append, List.length_take, List.length_drop, HSl.out, List.length_cons, List.length_nil]; omega)
  have HTk := Lib.hid (show ((splice cur.toList (i * 2) (erow (l.drop (i + 1)))).toArray.toList.take ((i + m) * 2) ++ [Value.string ⟨#[]⟩, Value.int .i64 0] ++ (splice cur.toList (i * 2) (erow (l.drop (i + 1)))).toArray.toList.drop ((i + m) * 2 + 2)).take ((i + m) * 2) = erow (l.take i ++ l.drop (i + 1)) by
   rw [List.append_assoc, List.take_append_of_le_length (by simp only [List.length_take, HSl.out]; omega), List.take_take, Nat.min_self, show i + m = i + 1 + m - 1 by omega]; exact HLaid.out)
  generalize (splice cur.toList (i * 2) (erow (l.drop (i + 1)))).toArray.toList.take ((i + m) * 2) ++ [Value.string ⟨#[]⟩, Value.int .i64 0] ++ (splice cur.toList (i * 2) (erow (l.drop (i + 1)))).toArray.toList.drop ((i + m) * 2 + 2) = Z at *
  generalize w4.setRow g Z.toArray = w5 at *
  go_wp2_with fail
  go_ret
  have hlen : (l.take i ++ l.drop (i + 1)).length = i + m := by rw [List.length_append, List.length_take, List.length_drop]; omega
  have hgr : w.grownBy w5 (some g) := ⟨HR5.out.os.trans hgr4.os, HR5.out.tape.trans hgr4.tape, HR5.out.output.trans hgr4.output, Nat.le_trans hgr4.size HR5.out.size, fun k hk hne => (HR5.out.block k (Nat.lt_of_lt_of_le hk hgr4.size) hne).trans (hgr4.block k hk hne)⟩
  refine ⟨some ⟨g, 0, none⟩, cap, by rw [hlen, hcc]; rfl, ⟨by rw [erow_length], .inr ⟨g, cap, _, rfl, hbg, HS5.out, by rw [hlen]; exact hcm2, HM.out, ?_, ?_⟩⟩, hgr⟩
  ·rw [List.size_toArray, HSz.out]
  ·rw [hlen]; exact HTk.out
theorem delete_any (base : Nat) (ao : Option Addr) (cp : Nat) (l : List En) (i : Nat) (w : World) (hO : Own base (.slice ao l.length cp) l w) (hi : i < l.length) (hl : l.length ≤ 100000) :
  Calls Tryz.prog 185 #[.slice ao l.length cp, .int .i64 (i : Int), .int .i64 ((i : Int) + 1)] w (Rowed2 base (.slice ao l.length cp) (l.take i ++ l.drop (i + 1)) w) := by
 obtain ⟨m, hlm⟩ : ∃ m, l.length = i + 1 + m := ⟨l.length - (i + 1), by omega⟩
 obtain ⟨hlen, ⟨e, h0⟩ | ⟨g, cap, cur, e, hbg, hg, hn, hm, hs, ht⟩⟩ := hO
 ·omega
 ·injection e with e1 e2 e3
  subst e1 e3
  by_cases hcc : cp = i + 1
  ·exact del_last base g cp cur l i m w hg hs ht hlm hn hm hl hbg hcc
  ·exact del_more base g cp cur l i m w hg hs ht hlm hn hm hl hbg hcc
end Go.Proofs.YthehblmjloohiaaGreatDoor

namespace Nd
def place (p : En → Bool) : List En → Nat
 | [] => 0
 | x :: l => if p x = true then 0 else place p l + 1
section
variable {p : En → Bool}
theorem place_le (l : List En) : place p l ≤ l.length := by
 induction l with
 | nil => exact Nat.le_refl _
 | cons x l ih => unfold place; split <;> simp only [List.length_cons] <;> omega
theorem place_append (a b : List En) : place p (a ++ b) = if place p a < a.length then place p a else a.length + place p b := by
 induction a with
 | nil => simp [place]
 | cons x a ih =>
  rw [List.cons_append, place, place, ih]
  by_cases h : p x = true
  ·rw [if_pos h, if_pos h, if_pos (by simp)]
  ·rw [if_neg h, if_neg h, List.length_cons]
   by_cases h2 : place p a < a.length
   ·rw [if_pos h2, if_pos (by omega)]
   ·rw [if_neg h2, if_neg (by omega)]; omega
theorem place_split {l : List En} {k : Nat} (h : k < l.length) (z : En) : l = l.take k ++ (l.getD k z :: l.drop (k + 1)) := by
 conv => lhs; rw [← List.take_append_drop k l]
 rw [List.drop_eq_getElem_cons h]
 simp [List.getD, List.getElem?_eq_getElem h]
theorem place_more {l : List En} {k : Nat} {z : En} (h : place p (l.take k) = k) (hk : k < l.length) (hp : p (l.getD k z) = false) : place p (l.take (k + 1)) = k + 1 := by
 have e : l.take (k + 1) = l.take k ++ [l.getD k z] := by
  rw [List.take_succ_eq_append_getElem hk]; simp [List.getD, List.getElem?_eq_getElem hk]
 have hl : (l.take k).length = k := by rw [List.length_take]; omega
 rw [e, place_append, if_neg (by omega), hl, place, hp]; rfl
theorem place_hit {l : List En} {k : Nat} {z : En} (h : place p (l.take k) = k) (hk : k < l.length) (hp : p (l.getD k z) = true) : place p l = k := by
 have hl : (l.take k).length = k := by rw [List.length_take]; omega
 rw [place_split hk z, place_append, if_neg (by omega), hl, place, hp]; rfl
theorem place_end {l : List En} (h : place p (l.take l.length) = l.length) : place p l = l.length := by rwa [List.take_length] at h
end
theorem find_place (l : List En) (k : ByteArray) (z : En) : find l k = if place (fun x => decide (x.1 = k)) l < l.length then some (l.getD (place (fun x => decide (x.1 = k)) l) z).2 else none := by
 induction l with
 | nil => rfl
 | cons x l ih =>
  by_cases h : x.1 = k
  ·have e : place (fun x => decide (x.1 = k)) (x :: l) = 0 := by rw [place, if_pos (decide_eq_true h)]
   rw [find, if_pos h, e, if_pos (by simp)]; rfl
  ·have e : place (fun x => decide (x.1 = k)) (x :: l) = place (fun x => decide (x.1 = k)) l + 1 := by rw [place, if_neg (by simpa using h)]
   rw [find, if_neg h, ih, e, List.length_cons]
   by_cases h2 : place (fun x => decide (x.1 = k)) l < l.length
   ·rw [if_pos h2, if_pos (by omega)]; rfl
   ·rw [if_neg h2, if_neg (by omega)]
theorem find_is (l : List En) (k : ByteArray) : (find l k).isSome = decide (place (fun x => decide (x.1 = k)) l < l.length) := by
 rw [find_place l k (k, 0)]
 by_cases h : place (fun x => decide (x.1 = k)) l < l.length
 ·rw [if_pos h, decide_eq_true h]; rfl
 ·rw [if_neg h, decide_eq_false h]; rfl
theorem cut_place (l : List En) (k : ByteArray) : cut l k = l.take (place (fun x => decide (x.1 = k)) l) ++ l.drop (place (fun x => decide (x.1 = k)) l + 1) := by
 induction l with
 | nil => rfl
 | cons x l ih =>
  rw [cut, place]
  by_cases h : x.1 = k
  ·rw [if_pos h, if_pos (by simpa using h)]; rfl
  ·rw [if_neg h, if_neg (by simpa using h), ih]; rfl
theorem ins_place (lt : ByteArray → ByteArray → Bool) (l : List En) (k : ByteArray) (i : Int) : ins lt l k i = l.take (place (fun x => !lt x.1 k) l) ++ (k, i) :: l.drop (place (fun x => !lt x.1 k) l) := by
 induction l with
 | nil => rfl
 | cons x l ih =>
  rw [ins, place]
  by_cases h : lt x.1 k = true
  ·rw [if_pos h, if_neg (by simp [h]), ih]; rfl
  ·rw [if_neg h, if_pos (by simpa using h)]; rfl
end Nd

namespace Go.Proofs.YthehblmjloohiaaGreatDoor
set_option maxRecDepth 100000
open Go.RowKit Go.Less
attribute [local go_sem 9000] sem_eql sem_neq sem_lss sem_leq sem_gtr sem_geq
def isNm (nm : ByteArray) (x : En) : Bool := decide (x.1 = nm)
def notLs (nm : ByteArray) (x : En) : Bool := !less x.1 nm
def ixz (p : En → Bool) (l : List En) : Int := if Nd.place p l < l.length then (Nd.place p l : Int) else -1
theorem ixz_hit {p : En → Bool} {l : List En} {k : Nat} (h : Nd.place p l = k) (hk : k < l.length) : ixz p l = (k : Int) := by unfold ixz; rw [h, if_pos hk]
theorem ixz_end {p : En → Bool} {l : List En} (h : Nd.place p l = l.length) : ixz p l = -1 := by unfold ixz; rw [h, if_neg (Nat.lt_irrefl _)]
abbrev ev (x : En) : Value := .agg #[.string x.1, .int .i64 x.2]
theorem clo43_any (x : En) (nm : ByteArray) (g : Nat) (w : World) (hg : w.cell? ⟨g, 0, none⟩ = some (.string nm)) : Calls Tryz.prog 173 #[ev x, .pointer (some ⟨g, 0, none⟩)] w fun e w' => e = .returned (.bool (isNm nm x)) ∧ Below w.heap.size w w' := by
 have hlt := block_lt_of_cell hg
 go_enter Tryz.func173, Tryz.ntmps173
 go_wp2_with fail
 go_ret
 exact ⟨rfl, (Below.refl _ _).alloc (Nat.le_refl _) _⟩
theorem clo31_any (x : En) (nm : ByteArray) (g : Nat) (w : World) (hg : w.cell? ⟨g, 0, none⟩ = some (.string nm)) : Calls Tryz.prog 183 #[ev x, .pointer (some ⟨g, 0, none⟩)] w fun e w' => e = .returned (.bool (notLs nm x)) ∧ Below w.heap.size w w' := by
 have hlt := block_lt_of_cell hg
 go_enter Tryz.func183, Tryz.ntmps183
 go_wp2_with fail
 go_ret
 exact ⟨rfl, (Below.refl _ _).alloc (Nat.le_refl _) _⟩
theorem named_any (nm : ByteArray) (w : World) : Calls Tryz.prog 140 #[.string nm] w fun e w' => e = .returned (.func (.func 173) #[] #[.pointer (some ⟨w.heap.size, 0, none⟩)]) ∧ w'.cell? ⟨w.heap.size, 0, none⟩ = some (.string nm) ∧ Below w.heap.size w w' := by
 go_enter Tryz.func140, Tryz.ntmps140
 go_wp2_with fail
 go_ret
 exact ⟨rfl, cell_obj (heap_alloc_new w _) 0, (Below.refl _ _).alloc (Nat.le_refl _) _⟩
set_option maxHeartbeats 4000000 in
theorem ixf43_any (a : Option Addr) (n cap : Nat) (l : List En) (nm : ByteArray) (g : Nat) (w : World) (hE : Ents a n l w) (hn : n ≤ 1000000) (hg : w.cell? ⟨g, 0, none⟩ = some (.string nm)) :
  Calls Tryz.prog 139 #[.slice a n cap, .func (.func 173) #[] #[.pointer (some ⟨g, 0, none⟩)]] w fun e w' => e = .returned (.int .i64 (ixz (isNm nm) l)) ∧ Below w.heap.size w w' := by
 have HNL := Lib.hid hE.count
 have hni : (n : Int) ≤ 1000000 := by omega
 have HE := Lib.hid (fun W (hb : Below w.heap.size w W) => hE.below hb)
 have HG := Lib.hid (show ∀ W, Below w.heap.size w W → W.cell? ⟨g, 0, none⟩ = some (.string nm) from fun W hb => (hb.cell (block_lt_of_cell hg)).trans hg)
 have eg : ∀ args w, (callFunc 173 args).run Tryz.prog w = .ok (.enter 173 args) w := enters_of Tryz.func173 (by kernel_rfl) rfl
 clear hE hg
 go_enter Tryz.func139, Tryz.ntmps139
 go_wp2_with fail
 go_loopw [8] (fun v wr => ∃ k : Nat, k ≤ n ∧ v = .int .i64 k ∧ Below w.heap.size w wr ∧ Hid (Nd.place (isNm nm) (l.take k) = k)) (fun v _ => n - (intOf v).toNat)
 case atStart => exact ⟨0, Nat.zero_le _, rfl, Below.refl _ _, rfl⟩
 case round =>
  obtain ⟨k, hk, rfl, hB, HA⟩ := hrel
  by_cases hlt : k < n
  ·have k0 : (k : Int) < (n : Int) := by omega
   have hk0 : (0 : Int) ≤ (k : Int) := by omega
   have hkl : k < l.length := by rw [← HNL.out]; exact hlt
   obtain ⟨b, off, rfl, c0, c1⟩ := (HE.out _ hB).cell k hlt
   have HM := Lib.hid (fun h => Nd.place_more (p := isNm nm) (z := z0) HA.out hkl h)
   have HH := Lib.hid (fun h => Nd.place_hit (p := isNm nm) (z := z0) HA.out hkl h)
   have HLt := Lib.hid hkl
   generalize l.getD k z0 = x at c0 c1 HM HH
   have HC := Lib.hid (clo43_any x nm g wr (HG.out _ hB))
   have HBh := Lib.hid hB
   clear hB hkl
   cases hr : isNm nm x with
   | false =>
    rw [hr] at HC
    have HR := Lib.hid (HM.out hr)
    clear hr HM HH
    go_wp2_with fail
    refine HC.out.mono ?_
    rintro e w2 ⟨rfl, hw2⟩
    have HB2 := Lib.hid (HBh.out.trans (hw2.mono HBh.out.size))
    clear hw2
    dsimp only
    go_wp2_with fail
    go_roundw
    case rel => exact ⟨k + 1, by omega, by go_num, HB2.out, HR.out⟩
    case measure => simp [intOf]; omega
   | true =>
    rw [hr] at HC
    have HR := Lib.hid (ixz_hit (HH.out hr) HLt.out)
    clear hr HM HH
    go_wp2_with fail
    refine HC.out.mono ?_
    rintro e w2 ⟨rfl, hw2⟩
    have HB2 := Lib.hid (HBh.out.trans (hw2.mono HBh.out.size))
    clear hw2
    dsimp only
    go_wp2_with fail
    go_ret
    rw [HR.out]
    exact ⟨rfl, HB2.out⟩
  ·obtain rfl : k = n := by omega
   have HR := Lib.hid (ixz_end (p := isNm nm) (l := l) (by have h := HA.out; rw [HNL.out, List.take_length] at h; rw [h]))
   have HBh := Lib.hid hB
   clear hB
   go_wp2_with fail
   go_ret
   rw [HR.out]
   exact ⟨rfl, HBh.out⟩
set_option maxHeartbeats 4000000 in
theorem ixf31_any (a : Option Addr) (n cap : Nat) (l : List En) (nm : ByteArray) (g : Nat) (w : World) (hE : Ents a n l w) (hn : n ≤ 1000000) (hg : w.cell? ⟨g, 0, none⟩ = some (.string nm)) :
  Calls Tryz.prog 139 #[.slice a n cap, .func (.func 183) #[] #[.pointer (some ⟨g, 0, none⟩)]] w fun e w' => e = .returned (.int .i64 (ixz (notLs nm) l)) ∧ Below w.heap.size w w' := by
 have HNL := Lib.hid hE.count
 have hni : (n : Int) ≤ 1000000 := by omega
 have HE := Lib.hid (fun W (hb : Below w.heap.size w W) => hE.below hb)
 have HG := Lib.hid (show ∀ W, Below w.heap.size w W → W.cell? ⟨g, 0, none⟩ = some (.string nm) from fun W hb => (hb.cell (block_lt_of_cell hg)).trans hg)
 have eg : ∀ args w, (callFunc 183 args).run Tryz.prog w = .ok (.enter 183 args) w := enters_of Tryz.func183 (by kernel_rfl) rfl
 clear hE hg
 go_enter Tryz.func139, Tryz.ntmps139
 go_wp2_with fail
 go_loopw [8] (fun v wr => ∃ k : Nat, k ≤ n ∧ v = .int .i64 k ∧ Below w.heap.size w wr ∧ Hid (Nd.place (notLs nm) (l.take k) = k)) (fun v _ => n - (intOf v).toNat)
 case atStart => exact ⟨0, Nat.zero_le _, rfl, Below.refl _ _, rfl⟩
 case round =>
  obtain ⟨k, hk, rfl, hB, HA⟩ := hrel
  by_cases hlt : k < n
  ·have k0 : (k : Int) < (n : Int) := by omega
   have hk0 : (0 : Int) ≤ (k : Int) := by omega
   have hkl : k < l.length := by rw [← HNL.out]; exact hlt
   obtain ⟨b, off, rfl, c0, c1⟩ := (HE.out _ hB).cell k hlt
   have HM := Lib.hid (fun h => Nd.place_more (p := notLs nm) (z := z0) HA.out hkl h)
   have HH := Lib.hid (fun h => Nd.place_hit (p := notLs nm) (z := z0) HA.out hkl h)
   have HLt := Lib.hid hkl
   generalize l.getD k z0 = x at c0 c1 HM HH
   have HC := Lib.hid (clo31_any x nm g wr (HG.out _ hB))
   have HBh := Lib.hid hB
   clear hB hkl
   cases hr : notLs nm x with
   | false =>
    rw [hr] at HC
    have HR := Lib.hid (HM.out hr)
    clear hr HM HH
    go_wp2_with fail
    refine HC.out.mono ?_
    rintro e w2 ⟨rfl, hw2⟩
    have HB2 := Lib.hid (HBh.out.trans (hw2.mono HBh.out.size))
    clear hw2
    dsimp only
    go_wp2_with fail
    go_roundw
    case rel => exact ⟨k + 1, by omega, by go_num, HB2.out, HR.out⟩
    case measure => simp [intOf]; omega
   | true =>
    rw [hr] at HC
    have HR := Lib.hid (ixz_hit (HH.out hr) HLt.out)
    clear hr HM HH
    go_wp2_with fail
    refine HC.out.mono ?_
    rintro e w2 ⟨rfl, hw2⟩
    have HB2 := Lib.hid (HBh.out.trans (hw2.mono HBh.out.size))
    clear hw2
    dsimp only
    go_wp2_with fail
    go_ret
    rw [HR.out]
    exact ⟨rfl, HB2.out⟩
  ·obtain rfl : k = n := by omega
   have HR := Lib.hid (ixz_end (p := notLs nm) (l := l) (by have h := HA.out; rw [HNL.out, List.take_length] at h; rw [h]))
   have HBh := Lib.hid hB
   clear hB
   go_wp2_with fail
   go_ret
   rw [HR.out]
   exact ⟨rfl, HBh.out⟩
set_option maxHeartbeats 2000000 in
theorem cof_any (a : Option Addr) (n cap : Nat) (l : List En) (nm : ByteArray) (g : Nat) (w : World) (hE : Ents a n l w) (hn : n ≤ 1000000) (hg : w.cell? ⟨g, 0, none⟩ = some (.string nm)) :
  Calls Tryz.prog 162 #[.slice a n cap, .func (.func 173) #[] #[.pointer (some ⟨g, 0, none⟩)]] w fun e w' => e = .returned (.bool (Nd.find l nm).isSome) ∧ Below w.heap.size w w' := by
 have HI := Lib.hid (ixf43_any a n cap l nm g w hE hn hg)
 have hf := Nd.find_is l nm
 clear hE hn hg
 by_cases h : Nd.place (isNm nm) l < l.length
 ·have HF := Lib.hid (hf.trans (decide_eq_true h))
  rw [show ixz (isNm nm) l = (Nd.place (isNm nm) l : Int) by unfold ixz; rw [if_pos h]] at HI
  clear hf h
  generalize Nd.place (isNm nm) l = z at HI
  have hz : (0 : Int) ≤ (z : Int) := by omega
  go_enter Tryz.func162, Tryz.ntmps162
  go_wp2_with fail
  refine HI.out.mono ?_
  rintro e w1 ⟨rfl, hB⟩
  dsimp only
  go_wp2_with fail
  go_ret
  rw [HF.out]
  exact ⟨rfl, hB⟩
 ·have HF := Lib.hid (hf.trans (decide_eq_false h))
  rw [show ixz (isNm nm) l = -1 by unfold ixz; rw [if_neg h]] at HI
  clear hf h
  go_enter Tryz.func162, Tryz.ntmps162
  go_wp2_with fail
  refine HI.out.mono ?_
  rintro e w1 ⟨rfl, hB⟩
  dsimp only
  go_wp2_with fail
  go_ret
  rw [HF.out]
  exact ⟨rfl, hB⟩
end Go.Proofs.YthehblmjloohiaaGreatDoor

namespace Go.Proofs.YthehblmjloohiaaGreatDoor
set_option maxRecDepth 100000
open Go.RowKit Go.Less
attribute [local go_sem 9000] sem_eql sem_neq sem_lss sem_leq sem_gtr sem_geq
structure PF (w : World) (cs : Array Value) (W : World) : Prop where
 box : W.heap[w.heap.size]? = some (.cells cs 43 (0, 0))
 below : Below w.heap.size w W
theorem PF.kept {w : World} {cs : Array Value} {W W' : World} (h : PF w cs W) (hb : Below W.heap.size W W') : PF w cs W' :=
 ⟨(hb.block _ (lt_of_obj h.box)).trans h.box, h.below.trans (hb.mono h.below.size)⟩
theorem PF.start (w : World) (cs : Array Value) : PF w cs (w.alloc (.cells cs 43)) := ⟨heap_alloc_new w _, (Below.refl _ w).alloc (Nat.le_refl _) _⟩
theorem getPF {w : World} {cs : Array Value} {v : Value} {W : World} (h : W.cell? ⟨w.heap.size, 4, none⟩ = some v ∧ PF w cs W) : PF w cs W := h.2
set_option maxHeartbeats 4000000 in
theorem find_any (k m : Int) (d t : ByteArray) (a : Option Addr) (n cap : Nat) (l : List En) (nm : ByteArray) (w : World) (hE : Ents a n l w) (hn : n ≤ 1000000) :
  Calls Tryz.prog 100 #[nv k m d t a n cap, .string nm] w (Found l nm w) := by
 have HNL := Lib.hid hE.count
 have HE := Lib.hid (fun W (hb : Below w.heap.size w W) => hE.below hb)
 have HIx := Lib.hid (show ∀ W g g', g' = g → W.cell? ⟨g, 0, none⟩ = some (.string nm) → Below w.heap.size w W → Calls Tryz.prog 139 #[.slice a n cap, .func (.func 173) #[] #[.pointer (some ⟨g', 0, none⟩)]] W fun e w' => e = .returned (.int .i64 (ixz (isNm nm) l)) ∧ Below W.heap.size W w' from fun W g g' e hg hb => by subst e; exact ixf43_any a n cap l nm _ W (hE.below hb) hn hg)
 have HP := Lib.hid (PF.start w #[.int .i64 k, .int .i64 m, .string d, .string t, .slice a n cap])
 have hni : (n : Int) ≤ 1000000 := by omega
 have HF := Lib.hid (Nd.find_place l nm z0)
 clear hE
 have c4 : (w.alloc (.cells #[.int .i64 k, .int .i64 m, .string d, .string t, .slice a n cap] 43)).cell? ⟨w.heap.size, 4, none⟩ = some (.slice a n cap) := cell_obj HP.out.box 4
 have HPd := Lib.hid (HP.out.kept (Below.refl _ _).drew)
 by_cases h : Nd.place (isNm nm) l < l.length
 ·rw [show ixz (isNm nm) l = (Nd.place (isNm nm) l : Int) by unfold ixz; rw [if_pos h]] at HIx
  have HF2 := Lib.hid (HF.out.trans (if_pos h))
  have hln : Nd.place (isNm nm) l < n := by have := HNL.out; omega
  change Hid (Nd.find l nm = some (l.getD (Nd.place (isNm nm) l) z0).2) at HF2
  clear h HF
  obtain ⟨b, off, rfl, _, _⟩ := (HE.out _ (Below.refl _ _)).cell _ hln
  have HC := Lib.hid (fun W (hb : Below w.heap.size w W) => (HE.out W hb).cell _ hln)
  generalize Nd.place (isNm nm) l = z at *
  generalize l.getD z z0 = x at *
  have hz0 : (0 : Int) ≤ (z : Int) := by omega
  have hz1 : (z : Int) < (n : Int) := by omega
  go_enter Tryz.func100, Tryz.ntmps100
  go_wp2_with fail
  go_region_held3 (fun W => W.cell? ⟨w.heap.size, 4, none⟩ = some (.slice (some ⟨b, off, none⟩) n cap) ∧ PF w #[.int .i64 k, .int .i64 m, .string d, .string t, .slice (some ⟨b, off, none⟩) n cap] W)
   (first | exact ⟨cell_obj HPd.out.box 4, HPd.out⟩ | exact ⟨cell_obj pB.out.box 4, pB.out⟩ | exact ⟨cell_obj pA.out.box 4, pA.out⟩ | assumption)
   (first
    | (go_at_call 140; (with_reducible refine (named_any nm _).mono ?_); rintro e wA ⟨rfl, hcA, hA⟩; have pA := Lib.hid (PF.kept (getPF (by assumption)) hA); clear hA)
    | (go_at_call 139; (with_reducible refine (HIx.out _ _ _ (by simp) hcA (PF.below (getPF (by assumption)))).mono ?_); rintro e wB ⟨rfl, hB⟩; have pB := Lib.hid (PF.kept (getPF (by assumption)) hB); clear hB))
  have cB : wB.cell? ⟨w.heap.size, 4, none⟩ = some (.slice (some ⟨b, off, none⟩) n cap) := cell_obj pB.out.box 4
  obtain ⟨b', off', eb, c0, c1⟩ := HC.out _ pB.out.below
  obtain ⟨rfl, rfl⟩ : b' = b ∧ off' = off := by cases eb; exact ⟨rfl, rfl⟩
  go_wp2_with fail
  go_ret2
  show Found l nm w _ _
  unfold Found
  rw [HF2.out]
  exact ⟨rfl, pB.out.below⟩
 ·rw [show ixz (isNm nm) l = -1 by unfold ixz; rw [if_neg h]] at HIx
  have HF2 := Lib.hid (HF.out.trans (if_neg h))
  clear h HF
  go_enter Tryz.func100, Tryz.ntmps100
  go_wp2_with fail
  go_region_held3 (fun W => W.cell? ⟨w.heap.size, 4, none⟩ = some (.slice a n cap) ∧ PF w #[.int .i64 k, .int .i64 m, .string d, .string t, .slice a n cap] W)
   (first | exact ⟨cell_obj HPd.out.box 4, HPd.out⟩ | exact ⟨cell_obj pB.out.box 4, pB.out⟩ | exact ⟨cell_obj pA.out.box 4, pA.out⟩ | assumption)
   (first
    | (go_at_call 140; (with_reducible refine (named_any nm _).mono ?_); rintro e wA ⟨rfl, hcA, hA⟩; have pA := Lib.hid (PF.kept (getPF (by assumption)) hA); clear hA)
    | (go_at_call 139; (with_reducible refine (HIx.out _ _ _ (by simp) hcA (PF.below (getPF (by assumption)))).mono ?_); rintro e wB ⟨rfl, hB⟩; have pB := Lib.hid (PF.kept (getPF (by assumption)) hB); clear hB))
  go_wp2_with fail
  go_ret2
  show Found l nm w _ _
  unfold Found
  rw [HF2.out]
  exact ⟨rfl, pB.out.below⟩
end Go.Proofs.YthehblmjloohiaaGreatDoor
