/- A part of the proofs. -/
import Derived.Shelf.Abstract
import Derived.Laws.RangeAny
import Derived.Lib.Bytealg
import Derived.BigCall
import Derived.BigGuard
import Derived.Test.YthbajmlmjjfgpaaGreatDoorC08
set_option maxRecDepth 1000000
set_option maxHeartbeats 16000000
open Go.Lib (hid)
open Go.Proofs.Tryz
namespace Go.Proofs.YthbajmlmjjfgpaaGreatDoor
open Go.RowKit Go.Less
theorem del_mid (cur : List Value) (l : List En) (i : Nat) (ht : cur.take (l.length * 2) = erow l) (hi : i < l.length) :
  (splice cur (i * 2) (erow (l.drop (i + 1)))).take ((l.length - 1) * 2) = erow (l.take i ++ l.drop (i + 1)) := by
 have h1 : cur.take (i * 2) = erow (l.take i) := by
  rw [<- erow_take, <- ht, List.take_take, Nat.min_eq_left (by omega)]
 rw [show splice cur (i * 2) (erow (l.drop (i + 1))) = (cur.take (i * 2) ++ erow (l.drop (i + 1))) ++ cur.drop (i * 2 + (erow (l.drop (i + 1))).length) from by unfold splice; rw [List.append_assoc], h1, <- erow_append, List.take_left']
 rw [erow_length, List.length_append, List.length_take, List.length_drop]
 omega
theorem del_more (base g cap : Nat) (cur : Array Value) (l : List En) (i m : Nat) (w : World) (hg : w.heap[g]? = some (.cells cur 146 (0, 0))) (hs : cur.size = cap * 2) (ht : cur.toList.take (l.length * 2) = erow l)
  (hlm : l.length = i + 1 + m) (hr : l.length <= cap) (hm : cap <= maxLen) (hl : l.length <= 100000) (hbg : base <= g) (hcc : ¬ cap = i + 1) :
  Calls prog 108 #[.slice (some ⟨g, 0, none⟩) l.length cap, .int .i64 (i : Int), .int .i64 ((i : Int) + 1)] w (Rowed2 base (.slice (some ⟨g, 0, none⟩) l.length cap) (l.take i ++ l.drop (i + 1)) w) := by
 have mixed := mixd
 have hdl : (erow (l.drop (i + 1))).length = m * 2 := by rw [erow_length, List.length_drop]; omega
 have HN1 := hid hdl
 have HGd := hid (show w.drew.heap[g]? = some (.cells cur.toList.toArray 146 (0, 0)) by rw [Array.toArray_toList]; exact hg)
 have HSrc := hid (show ∀ j v, (erow (l.drop (i + 1)))[j]? = some v -> w.drew.cell? ((⟨g, (i + 1) * 2, none⟩ : Addr).add j) = some v from λj v hj => by
  skip
  rw [Go.WideShapes.add_plain]
  show w.cell? _ = _
  rw [cell_obj hg, <- Array.getElem?_toList]
  rw [<- erow_drop, <- ht, List.getElem?_drop, List.getElem?_take] at hj
  split at hj
  ·exact hj
  ·cases hj)
 have HOne := hid (erow_one (l.drop (i + 1)))
 have HFit := hid (show i * 2 + (erow (l.drop (i + 1))).length <= cur.toList.length by rw [hdl, Array.length_toList, hs]; omega)
 have HSl := hid (show (splice cur.toList (i * 2) (erow (l.drop (i + 1)))).length = cap * 2 from (len_splice2 HFit.out).trans (Array.length_toList.trans hs))
 have HLaid := hid (del_mid cur.toList l i ht (by omega))
 have HM := hid hm
 rw [hlm] at hr hl
 generalize hn : l.length = n at *
 subst hlm
 have hni : (i : Int) + 1 + (m : Int) <= 100000 := by omega
 have hi0 : (0 : Int) <= (i : Int) := by omega
 have hb1 : (0 : Int) <= (i : Int) + 1 := by omega
 have hb2 : (i : Int) <= (i : Int) + 1 := by omega
 have hb3 : (i : Int) + 1 <= (i : Int) + 1 + (m : Int) := by omega
 have hb4 : (i : Int) + 1 + (m : Int) <= (cap : Int) := by omega
 have htn : ((i : Int) + 1).toNat = i + 1 := by omega
 have htn2 : ((i : Int) + 1 + (m : Int)).toNat = i + 1 + m := by omega
 have htn3 : ((i : Int) + (m : Int)).toNat = i + m := by omega
 have hic : i <= cap := by omega
 have hici : (i : Int) <= (cap : Int) := by omega
 have hjm : i + 1 + m - (i + 1) = m := by omega
 have hq1 : i + 1 + m - (i + m) = 1 := by omega
 have hb5 : (i : Int) + (m : Int) <= (i : Int) + 1 + (m : Int) := by omega
 have hb6 : (0 : Int) <= (i : Int) + (m : Int) := by omega
 have hcm : ¬ (cap = i + m) := by omega
 have hcm2 : i + m <= cap := by omega
 clear hg hl hm hs ht hdl
 go_enter func108, ntmps108
 go_wp2_with fail
 go_region_law_o (refine Two.step_app2 rfl _ _ 65 rfl 146 underlying65 size46 g i cap ⟨g, (i + 1) * 2, none⟩ m (cap - (i + 1)) (by simp [Act.eval, Act.put]) (by simp [Act.eval, Act.put]) cur.toList HGd.out (erow (l.drop (i + 1))) HN1.out HSrc.out HOne.out hcm2 HFit.out ?_; intro w4 hg4 hgr4)
 all_goals
  have hcl : ∀ ty, (Builtin.clear_ #[65] ty #[.slice (some ⟨g, (i + m) * 2, none⟩) 1 (cap - (i + m))]).run prog w4 = .ok (.tuple #[]) (w4.setRow g ((splice cur.toList (i * 2) (erow (l.drop (i + 1)))).toArray.toList.take ((i + m) * 2) ++ [Value.string ⟨#[]⟩, Value.int .i64 0] ++ (splice cur.toList (i * 2) (erow (l.drop (i + 1)))).toArray.toList.drop ((i + m) * 2 + 2)).toArray) := λty =>
   Two.run_clear2 w4 65 146 ty (.agg #[.string ⟨#[]⟩, .int .i64 0]) _ _ underlying65 Tryz.zeroValue146 rfl rfl rfl g ((i + m) * 2) (cap - (i + m)) _ 146 hg4.out (by rw [List.size_toArray, HSl.out]; omega)
  have HS5 := hid (setRow_heap w4 g _ ((splice cur.toList (i * 2) (erow (l.drop (i + 1)))).toArray.toList.take ((i + m) * 2) ++ [Value.string ⟨#[]⟩, Value.int .i64 0] ++ (splice cur.toList (i * 2) (erow (l.drop (i + 1)))).toArray.toList.drop ((i + m) * 2 + 2)).toArray 146 _ hg4.out)
  have HR5 := hid (Two.grown_setRow w4 g ((splice cur.toList (i * 2) (erow (l.drop (i + 1)))).toArray.toList.take ((i + m) * 2) ++ [Value.string ⟨#[]⟩, Value.int .i64 0] ++ (splice cur.toList (i * 2) (erow (l.drop (i + 1)))).toArray.toList.drop ((i + m) * 2 + 2)).toArray)
  have HSz := hid (show ((splice cur.toList (i * 2) (erow (l.drop (i + 1)))).toArray.toList.take ((i + m) * 2) ++ [Value.string ⟨#[]⟩, Value.int .i64 0] ++ (splice cur.toList (i * 2) (erow (l.drop (i + 1)))).toArray.toList.drop ((i + m) * 2 + 2)).length = cap * 2 by
   simp only [List.length_append, List.length_take, List.length_drop, HSl.out, List.length_cons, List.length_nil]; omega)
  have HTk := hid (show ((splice cur.toList (i * 2) (erow (l.drop (i + 1)))).toArray.toList.take ((i + m) * 2) ++ [Value.string ⟨#[]⟩, Value.int .i64 0] ++ (splice cur.toList (i * 2) (erow (l.drop (i + 1)))).toArray.toList.drop ((i + m) * 2 + 2)).take ((i + m) * 2) = erow (l.take i ++ l.drop (i + 1)) by
   rw [List.append_assoc, List.take_append_of_le_length (by simp only [List.length_take, HSl.out]; omega), List.take_take, Nat.min_self, show i + m = i + 1 + m - 1 by omega]; exact HLaid.out)
  generalize (splice cur.toList (i * 2) (erow (l.drop (i + 1)))).toArray.toList.take ((i + m) * 2) ++ [Value.string ⟨#[]⟩, Value.int .i64 0] ++ (splice cur.toList (i * 2) (erow (l.drop (i + 1)))).toArray.toList.drop ((i + m) * 2 + 2) = Z at *
  generalize w4.setRow g Z.toArray = w5 at *
  go_wp2_with fail
  go_ret
  have hlen : (l.take i ++ l.drop (i + 1)).length = i + m := by rw [List.length_append, List.length_take, List.length_drop]; omega
  have hgr : w.grownBy w5 (some g) := ⟨HR5.out.os.trans hgr4.os, HR5.out.tape.trans hgr4.tape, HR5.out.output.trans hgr4.output, Nat.le_trans hgr4.size HR5.out.size, λk hk hne => (HR5.out.block k (Nat.lt_of_lt_of_le hk hgr4.size) hne).trans (hgr4.block k hk hne)⟩
  refine ⟨some ⟨g, 0, none⟩, cap, by rw [hlen]; rfl, ⟨by rw [erow_length], .inr ⟨g, cap, _, rfl, hbg, HS5.out, by rw [hlen]; exact hcm2, HM.out, ?_, ?_⟩⟩, hgr⟩
  ·rw [List.size_toArray, HSz.out]
  ·rw [hlen]; exact HTk.out
theorem del_last (base g cap : Nat) (cur : Array Value) (l : List En) (i m : Nat) (w : World) (hg : w.heap[g]? = some (.cells cur 146 (0, 0))) (hs : cur.size = cap * 2) (ht : cur.toList.take (l.length * 2) = erow l)
  (hlm : l.length = i + 1 + m) (hr : l.length <= cap) (hm : cap <= maxLen) (hl : l.length <= 100000) (hbg : base <= g) (hcc : cap = i + 1) :
  Calls prog 108 #[.slice (some ⟨g, 0, none⟩) l.length cap, .int .i64 (i : Int), .int .i64 ((i : Int) + 1)] w (Rowed2 base (.slice (some ⟨g, 0, none⟩) l.length cap) (l.take i ++ l.drop (i + 1)) w) := by
 have mixed := mixd
 have hc63 : cap <= 9223372036854775807 := by unfold maxLen at hm; exact hm
 have hdl : (erow (l.drop (i + 1))).length = m * 2 := by rw [erow_length, List.length_drop]; omega
 have HN1 := hid hdl
 have HGd := hid (show w.drew.heap[g]? = some (.cells cur.toList.toArray 146 (0, 0)) by rw [Array.toArray_toList]; exact hg)
 have HSrc := hid (show ∀ j v, (erow (l.drop (i + 1)))[j]? = some v -> w.drew.cell? ((⟨g, 0, none⟩ : Addr).add j) = some v from λj v hj => by
  exfalso
  have h0 : (erow (l.drop (i + 1))).length = 0 := by rw [hdl]; omega
  rw [List.eq_nil_of_length_eq_zero h0] at hj
  simp at hj)
 have HOne := hid (erow_one (l.drop (i + 1)))
 have HFit := hid (show i * 2 + (erow (l.drop (i + 1))).length <= cur.toList.length by rw [hdl, Array.length_toList, hs]; omega)
 have HSl := hid (show (splice cur.toList (i * 2) (erow (l.drop (i + 1)))).length = cap * 2 from (len_splice2 HFit.out).trans (Array.length_toList.trans hs))
 have HLaid := hid (del_mid cur.toList l i ht (by omega))
 have HM := hid hm
 rw [hlm] at hr hl
 generalize hn : l.length = n at *
 subst hlm
 have hni : (i : Int) + 1 + (m : Int) <= 100000 := by omega
 have hi0 : (0 : Int) <= (i : Int) := by omega
 have hb1 : (0 : Int) <= (i : Int) + 1 := by omega
 have hb2 : (i : Int) <= (i : Int) + 1 := by omega
 have hb3 : (i : Int) + 1 <= (i : Int) + 1 + (m : Int) := by omega
 have htn : ((i : Int) + 1).toNat = i + 1 := by omega
 have htn2 : ((i : Int) + 1 + (m : Int)).toNat = i + 1 + m := by omega
 have htn3 : ((i : Int) + (m : Int)).toNat = i + m := by omega
 have hjm : i + 1 + m - (i + 1) = m := by omega
 have hq1 : i + 1 + m - (i + m) = 1 := by omega
 have hb5 : (i : Int) + (m : Int) <= (i : Int) + 1 + (m : Int) := by omega
 have hb6 : (0 : Int) <= (i : Int) + (m : Int) := by omega
 have hcm2 : i + m <= cap := by omega
 have hcm6 : i + m <= i + 1 := by omega
 clear hg hl hm hs ht hdl
 go_enter func108, ntmps108
 go_wp2_with fail
 go_region_law_o (refine Two.step_app2 rfl _ _ 65 rfl 146 underlying65 size46 g i (i + 1) ⟨g, 0, none⟩ m 0 (by simp [Act.eval, Act.put]) (by simp [Act.eval, Act.put]) cur.toList HGd.out (erow (l.drop (i + 1))) HN1.out HSrc.out HOne.out hcm6 HFit.out ?_; intro w4 hg4 hgr4)
 all_goals
  have hcl : ∀ ty, (Builtin.clear_ #[65] ty #[.slice (some ⟨g, (i + m) * 2, none⟩) 1 (i + 1 - (i + m))]).run prog w4 = .ok (.tuple #[]) (w4.setRow g ((splice cur.toList (i * 2) (erow (l.drop (i + 1)))).toArray.toList.take ((i + m) * 2) ++ [Value.string ⟨#[]⟩, Value.int .i64 0] ++ (splice cur.toList (i * 2) (erow (l.drop (i + 1)))).toArray.toList.drop ((i + m) * 2 + 2)).toArray) := λty =>
   Two.run_clear2 w4 65 146 ty (.agg #[.string ⟨#[]⟩, .int .i64 0]) _ _ underlying65 Tryz.zeroValue146 rfl rfl rfl g ((i + m) * 2) (i + 1 - (i + m)) _ 146 hg4.out (by rw [List.size_toArray, HSl.out]; omega)
  have HS5 := hid (setRow_heap w4 g _ ((splice cur.toList (i * 2) (erow (l.drop (i + 1)))).toArray.toList.take ((i + m) * 2) ++ [Value.string ⟨#[]⟩, Value.int .i64 0] ++ (splice cur.toList (i * 2) (erow (l.drop (i + 1)))).toArray.toList.drop ((i + m) * 2 + 2)).toArray 146 _ hg4.out)
  have HR5 := hid (Two.grown_setRow w4 g ((splice cur.toList (i * 2) (erow (l.drop (i + 1)))).toArray.toList.take ((i + m) * 2) ++ [Value.string ⟨#[]⟩, Value.int .i64 0] ++ (splice cur.toList (i * 2) (erow (l.drop (i + 1)))).toArray.toList.drop ((i + m) * 2 + 2)).toArray)
  have HSz := hid (show ((splice cur.toList (i * 2) (erow (l.drop (i + 1)))).toArray.toList.take ((i + m) * 2) ++ [Value.string ⟨#[]⟩, Value.int .i64 0] ++ (splice cur.toList (i * 2) (erow (l.drop (i + 1)))).toArray.toList.drop ((i + m) * 2 + 2)).length = cap * 2 by
   simp only [List.length_append, List.length_take, List.length_drop, HSl.out, List.length_cons, List.length_nil]; omega)
  have HTk := hid (show ((splice cur.toList (i * 2) (erow (l.drop (i + 1)))).toArray.toList.take ((i + m) * 2) ++ [Value.string ⟨#[]⟩, Value.int .i64 0] ++ (splice cur.toList (i * 2) (erow (l.drop (i + 1)))).toArray.toList.drop ((i + m) * 2 + 2)).take ((i + m) * 2) = erow (l.take i ++ l.drop (i + 1)) by
   rw [List.append_assoc, List.take_append_of_le_length (by simp only [List.length_take, HSl.out]; omega), List.take_take, Nat.min_self, show i + m = i + 1 + m - 1 by omega]; exact HLaid.out)
  generalize (splice cur.toList (i * 2) (erow (l.drop (i + 1)))).toArray.toList.take ((i + m) * 2) ++ [Value.string ⟨#[]⟩, Value.int .i64 0] ++ (splice cur.toList (i * 2) (erow (l.drop (i + 1)))).toArray.toList.drop ((i + m) * 2 + 2) = Z at *
  generalize w4.setRow g Z.toArray = w5 at *
  go_wp2_with fail
  go_ret
  have hlen : (l.take i ++ l.drop (i + 1)).length = i + m := by rw [List.length_append, List.length_take, List.length_drop]; omega
  have hgr : w.grownBy w5 (some g) := ⟨HR5.out.os.trans hgr4.os, HR5.out.tape.trans hgr4.tape, HR5.out.output.trans hgr4.output, Nat.le_trans hgr4.size HR5.out.size, λk hk hne => (HR5.out.block k (Nat.lt_of_lt_of_le hk hgr4.size) hne).trans (hgr4.block k hk hne)⟩
  refine ⟨some ⟨g, 0, none⟩, cap, by rw [hlen, hcc]; rfl, ⟨by rw [erow_length], .inr ⟨g, cap, _, rfl, hbg, HS5.out, by rw [hlen]; exact hcm2, HM.out, ?_, ?_⟩⟩, hgr⟩
  ·rw [List.size_toArray, HSz.out]
  ·rw [hlen]; exact HTk.out
theorem delete_any (base : Nat) (ao : Option Addr) (cp : Nat) (l : List En) (i : Nat) (w : World) (hO : Own base (.slice ao l.length cp) l w) (hi : i < l.length) (hl : l.length <= 100000) :
  Calls prog 108 #[.slice ao l.length cp, .int .i64 (i : Int), .int .i64 ((i : Int) + 1)] w (Rowed2 base (.slice ao l.length cp) (l.take i ++ l.drop (i + 1)) w) := by
 obtain ⟨m, hlm⟩ : ∃ m, l.length = i + 1 + m := ⟨l.length - (i + 1), by omega⟩
 obtain ⟨hlen, ⟨e, h0⟩ | ⟨g, cap, cur, e, hbg, hg, hn, hm, hs, ht⟩⟩ := hO
 ·omega
 ·injection e with e1 e2 e3
  subst e1 e3
  by_cases hcc : cp = i + 1
  ·exact del_last base g cp cur l i m w hg hs ht hlm hn hm hl hbg hcc
  ·exact del_more base g cp cur l i m w hg hs ht hlm hn hm hl hbg hcc
end Go.Proofs.YthbajmlmjjfgpaaGreatDoor
namespace Nd
def place (p : En -> Bool) : List En -> Nat
 | [] => 0
 | x :: l => if p x = true then 0 else place p l + 1
section
variable {p : En -> Bool}
theorem place_le (l : List En) : place p l <= l.length := by
 induction l with
 | nil => exact Nat.le_refl _
 | cons x l ih => unfold place; split <;> simp only [List.length_cons] <;> omega
theorem place_append (a b : List En) : place p (a ++ b) = if place p a < a.length then place p a else a.length + place p b := by
 induction a with
 | nil => simp [place]
 | cons x a ih =>
  rw [List.cons_append, place, place, ih]
  by_cases h : p x = true
  ·rw [if_pos h, if_pos h, if_pos (by simp)]
  ·rw [if_neg h, if_neg h, List.length_cons]
   by_cases h2 : place p a < a.length
   ·rw [if_pos h2, if_pos (by omega)]
   ·rw [if_neg h2, if_neg (by omega)]; omega
theorem place_split {l : List En} {k : Nat} (h : k < l.length) (z : En) : l = l.take k ++ (l.getD k z :: l.drop (k + 1)) := by
 conv => lhs; rw [<- List.take_append_drop k l]
 rw [List.drop_eq_getElem_cons h]
 simp [List.getD, List.getElem?_eq_getElem h]
theorem place_more {l : List En} {k : Nat} {z : En} (h : place p (l.take k) = k) (hk : k < l.length) (hp : p (l.getD k z) = false) : place p (l.take (k + 1)) = k + 1 := by
 have e : l.take (k + 1) = l.take k ++ [l.getD k z] := by
  rw [List.take_succ_eq_append_getElem hk]; simp [List.getD, List.getElem?_eq_getElem hk]
 have hl : (l.take k).length = k := by rw [List.length_take]; omega
 rw [e, place_append, if_neg (by omega), hl, place, hp]; rfl
theorem place_hit {l : List En} {k : Nat} {z : En} (h : place p (l.take k) = k) (hk : k < l.length) (hp : p (l.getD k z) = true) : place p l = k := by
 have hl : (l.take k).length = k := by rw [List.length_take]; omega
 rw [place_split hk z, place_append, if_neg (by omega), hl, place, hp]; rfl
theorem place_end {l : List En} (h : place p (l.take l.length) = l.length) : place p l = l.length := by rwa [List.take_length] at h
end
theorem find_place (l : List En) (k : ByteArray) (z : En) : find l k = if place (λx => decide (x.1 = k)) l < l.length then some (l.getD (place (λx => decide (x.1 = k)) l) z).2 else none := by
 induction l with
 | nil => rfl
 | cons x l ih =>
  by_cases h : x.1 = k
  ·have e : place (λx => decide (x.1 = k)) (x :: l) = 0 := by rw [place, if_pos (decide_eq_true h)]
   rw [find, if_pos h, e, if_pos (by simp)]; rfl
  ·have e : place (λx => decide (x.1 = k)) (x :: l) = place (λx => decide (x.1 = k)) l + 1 := by rw [place, if_neg (by simpa using h)]
   rw [find, if_neg h, ih, e, List.length_cons]
   by_cases h2 : place (λx => decide (x.1 = k)) l < l.length
   ·rw [if_pos h2, if_pos (by omega)]; rfl
   ·rw [if_neg h2, if_neg (by omega)]
theorem find_is (l : List En) (k : ByteArray) : (find l k).isSome = decide (place (λx => decide (x.1 = k)) l < l.length) := by
 rw [find_place l k (k, 0)]
 by_cases h : place (λx => decide (x.1 = k)) l < l.length
 ·rw [if_pos h, decide_eq_true h]; rfl
 ·rw [if_neg h, decide_eq_false h]; rfl
theorem cut_place (l : List En) (k : ByteArray) : cut l k = l.take (place (λx => decide (x.1 = k)) l) ++ l.drop (place (λx => decide (x.1 = k)) l + 1) := by
 induction l with
 | nil => rfl
 | cons x l ih =>
  rw [cut, place]
  by_cases h : x.1 = k
  ·rw [if_pos h, if_pos (by simpa using h)]; rfl
  ·rw [if_neg h, if_neg (by simpa using h), ih]; rfl
theorem ins_place (lt : ByteArray -> ByteArray -> Bool) (l : List En) (k : ByteArray) (i : Int) : ins lt l k i = l.take (place (λx => !lt x.1 k) l) ++ (k, i) :: l.drop (place (λx => !lt x.1 k) l) := by
 induction l with
 | nil => rfl
 | cons x l ih =>
  rw [ins, place]
  by_cases h : lt x.1 k = true
  ·rw [if_pos h, if_neg (by simp [h]), ih]; rfl
  ·rw [if_neg h, if_pos (by simpa using h)]; rfl
end Nd
namespace Go.Proofs.YthbajmlmjjfgpaaGreatDoor
open Go.RowKit Go.Less
attribute [local go_sem 9000] sem_eql sem_neq sem_lss sem_leq sem_gtr sem_geq
def isNm (nm : ByteArray) (x : En) : Bool := decide (x.1 = nm)
def notLs (nm : ByteArray) (x : En) : Bool := !less x.1 nm
def ixz (p : En -> Bool) (l : List En) : Int := if Nd.place p l < l.length then (Nd.place p l : Int) else -1
theorem ixz_hit {p : En -> Bool} {l : List En} {k : Nat} (h : Nd.place p l = k) (hk : k < l.length) : ixz p l = (k : Int) := by unfold ixz; rw [h, if_pos hk]
theorem ixz_end {p : En -> Bool} {l : List En} (h : Nd.place p l = l.length) : ixz p l = -1 := by unfold ixz; rw [h, if_neg (Nat.lt_irrefl _)]
abbrev ev (x : En) : Value := .agg #[.string x.1, .int .i64 x.2]
theorem clo43_any (x : En) (nm : ByteArray) (g : Nat) (w : World) (hg : w.cell? ⟨g, 0, none⟩ = some (.string nm)) : Calls prog 143 #[ev x, .pointer (some ⟨g, 0, none⟩)] w λe w' => e = .returned (.bool (isNm nm x)) /\ Below w.heap.size w w' := by
 have hlt := block_lt_of_cell hg
 go_enter func143, ntmps143
 go_wp2_with fail
 go_ret
 exact ⟨rfl, (Below.refl _ _).alloc (Nat.le_refl _) _⟩
theorem clo31_any (x : En) (nm : ByteArray) (g : Nat) (w : World) (hg : w.cell? ⟨g, 0, none⟩ = some (.string nm)) : Calls prog 141 #[ev x, .pointer (some ⟨g, 0, none⟩)] w λe w' => e = .returned (.bool (notLs nm x)) /\ Below w.heap.size w w' := by
 have hlt := block_lt_of_cell hg
 go_enter func141, ntmps141
 go_wp2_with fail
 go_ret
 exact ⟨rfl, (Below.refl _ _).alloc (Nat.le_refl _) _⟩
theorem named_any (nm : ByteArray) (w : World) : Calls prog 106 #[.string nm] w λe w' => e = .returned (.func (.func 143) #[] #[.pointer (some ⟨w.heap.size, 0, none⟩)]) /\ w'.cell? ⟨w.heap.size, 0, none⟩ = some (.string nm) /\ Below w.heap.size w w' := by
 go_enter func106, ntmps106
 go_wp2_with fail
 go_ret
 exact ⟨rfl, cell_obj (heap_alloc_new w _) 0, (Below.refl _ _).alloc (Nat.le_refl _) _⟩
theorem ixf43_any (a : Option Addr) (n cap : Nat) (l : List En) (nm : ByteArray) (g : Nat) (w : World) (hE : Ents a n l w) (hn : n <= 1000000) (hg : w.cell? ⟨g, 0, none⟩ = some (.string nm)) :
  Calls prog 105 #[.slice a n cap, .func (.func 143) #[] #[.pointer (some ⟨g, 0, none⟩)]] w λe w' => e = .returned (.int .i64 (ixz (isNm nm) l)) /\ Below w.heap.size w w' := by
 have HNL := hid hE.count
 have hni : (n : Int) <= 1000000 := by omega
 have HE := hid (λW (hb : Below w.heap.size w W) => hE.below hb)
 have HG := hid (show ∀ W, Below w.heap.size w W -> W.cell? ⟨g, 0, none⟩ = some (.string nm) from λW hb => (hb.cell (block_lt_of_cell hg)).trans hg)
 have eg : ∀ args w, (callFunc 143 args).run prog w = .ok (.enter 143 args) w := enters_of func143 (by kernel_rfl) rfl
 clear hE hg
 go_enter func105, ntmps105
 go_wp2_with fail
 go_loopw [8] (λv wr => ∃ k : Nat, k <= n /\ v = .int .i64 k /\ Below w.heap.size w wr /\ Hid (Nd.place (isNm nm) (l.take k) = k)) (λv _ => n - (intOf v).toNat)
 case atStart => exact ⟨0, Nat.zero_le _, rfl, Below.refl _ _, rfl⟩
 case round =>
  obtain ⟨k, hk, rfl, hB, HA⟩ := hrel
  by_cases hlt : k < n
  ·have k0 : (k : Int) < (n : Int) := by omega
   have hk0 : (0 : Int) <= (k : Int) := by omega
   have hkl : k < l.length := by rw [<- HNL.out]; exact hlt
   obtain ⟨b, off, rfl, c0, c1⟩ := (HE.out _ hB).cell k hlt
   have HM := hid (λh => Nd.place_more (p := isNm nm) (z := z0) HA.out hkl h)
   have HH := hid (λh => Nd.place_hit (p := isNm nm) (z := z0) HA.out hkl h)
   have HLt := hid hkl
   generalize l.getD k z0 = x at c0 c1 HM HH
   have HC := hid (clo43_any x nm g wr (HG.out _ hB))
   have HBh := hid hB
   clear hB hkl
   cases hr : isNm nm x with
   | false =>
    rw [hr] at HC
    have HR := hid (HM.out hr)
    clear hr HM HH
    go_wp2_with fail
    refine HC.out.mono ?_
    rintro e w2 ⟨rfl, hw2⟩
    have HB2 := hid (HBh.out.trans (hw2.mono HBh.out.size))
    clear hw2
    dsimp only
    go_wp2_with fail
    go_roundw
    case rel => exact ⟨k + 1, by omega, by go_num, HB2.out, HR.out⟩
    case measure => simp [intOf]; omega
   | true =>
    rw [hr] at HC
    have HR := hid (ixz_hit (HH.out hr) HLt.out)
    clear hr HM HH
    go_wp2_with fail
    refine HC.out.mono ?_
    rintro e w2 ⟨rfl, hw2⟩
    have HB2 := hid (HBh.out.trans (hw2.mono HBh.out.size))
    clear hw2
    dsimp only
    go_wp2_with fail
    go_ret
    rw [HR.out]
    exact ⟨rfl, HB2.out⟩
  ·obtain rfl : k = n := by omega
   have HR := hid (ixz_end (p := isNm nm) (l := l) (by have h := HA.out; rw [HNL.out, List.take_length] at h; rw [h]))
   have HBh := hid hB
   clear hB
   go_wp2_with fail
   go_ret
   rw [HR.out]
   exact ⟨rfl, HBh.out⟩
theorem ixf31_any (a : Option Addr) (n cap : Nat) (l : List En) (nm : ByteArray) (g : Nat) (w : World) (hE : Ents a n l w) (hn : n <= 1000000) (hg : w.cell? ⟨g, 0, none⟩ = some (.string nm)) :
  Calls prog 105 #[.slice a n cap, .func (.func 141) #[] #[.pointer (some ⟨g, 0, none⟩)]] w λe w' => e = .returned (.int .i64 (ixz (notLs nm) l)) /\ Below w.heap.size w w' := by
 have HNL := hid hE.count
 have hni : (n : Int) <= 1000000 := by omega
 have HE := hid (λW (hb : Below w.heap.size w W) => hE.below hb)
 have HG := hid (show ∀ W, Below w.heap.size w W -> W.cell? ⟨g, 0, none⟩ = some (.string nm) from λW hb => (hb.cell (block_lt_of_cell hg)).trans hg)
 have eg : ∀ args w, (callFunc 141 args).run prog w = .ok (.enter 141 args) w := enters_of func141 (by kernel_rfl) rfl
 clear hE hg
 go_enter func105, ntmps105
 go_wp2_with fail
 go_loopw [8] (λv wr => ∃ k : Nat, k <= n /\ v = .int .i64 k /\ Below w.heap.size w wr /\ Hid (Nd.place (notLs nm) (l.take k) = k)) (λv _ => n - (intOf v).toNat)
 case atStart => exact ⟨0, Nat.zero_le _, rfl, Below.refl _ _, rfl⟩
 case round =>
  obtain ⟨k, hk, rfl, hB, HA⟩ := hrel
  by_cases hlt : k < n
  ·have k0 : (k : Int) < (n : Int) := by omega
   have hk0 : (0 : Int) <= (k : Int) := by omega
   have hkl : k < l.length := by rw [<- HNL.out]; exact hlt
   obtain ⟨b, off, rfl, c0, c1⟩ := (HE.out _ hB).cell k hlt
   have HM := hid (λh => Nd.place_more (p := notLs nm) (z := z0) HA.out hkl h)
   have HH := hid (λh => Nd.place_hit (p := notLs nm) (z := z0) HA.out hkl h)
   have HLt := hid hkl
   generalize l.getD k z0 = x at c0 c1 HM HH
   have HC := hid (clo31_any x nm g wr (HG.out _ hB))
   have HBh := hid hB
   clear hB hkl
   cases hr : notLs nm x with
   | false =>
    rw [hr] at HC
    have HR := hid (HM.out hr)
    clear hr HM HH
    go_wp2_with fail
    refine HC.out.mono ?_
    rintro e w2 ⟨rfl, hw2⟩
    have HB2 := hid (HBh.out.trans (hw2.mono HBh.out.size))
    clear hw2
    dsimp only
    go_wp2_with fail
    go_roundw
    case rel => exact ⟨k + 1, by omega, by go_num, HB2.out, HR.out⟩
    case measure => simp [intOf]; omega
   | true =>
    rw [hr] at HC
    have HR := hid (ixz_hit (HH.out hr) HLt.out)
    clear hr HM HH
    go_wp2_with fail
    refine HC.out.mono ?_
    rintro e w2 ⟨rfl, hw2⟩
    have HB2 := hid (HBh.out.trans (hw2.mono HBh.out.size))
    clear hw2
    dsimp only
    go_wp2_with fail
    go_ret
    rw [HR.out]
    exact ⟨rfl, HB2.out⟩
  ·obtain rfl : k = n := by omega
   have HR := hid (ixz_end (p := notLs nm) (l := l) (by have h := HA.out; rw [HNL.out, List.take_length] at h; rw [h]))
   have HBh := hid hB
   clear hB
   go_wp2_with fail
   go_ret
   rw [HR.out]
   exact ⟨rfl, HBh.out⟩
theorem cof_any (a : Option Addr) (n cap : Nat) (l : List En) (nm : ByteArray) (g : Nat) (w : World) (hE : Ents a n l w) (hn : n <= 1000000) (hg : w.cell? ⟨g, 0, none⟩ = some (.string nm)) :
  Calls prog 140 #[.slice a n cap, .func (.func 143) #[] #[.pointer (some ⟨g, 0, none⟩)]] w λe w' => e = .returned (.bool (Nd.find l nm).isSome) /\ Below w.heap.size w w' := by
 have HI := hid (ixf43_any a n cap l nm g w hE hn hg)
 have hf := Nd.find_is l nm
 clear hE hn hg
 by_cases h : Nd.place (isNm nm) l < l.length
 ·have HF := hid (hf.trans (decide_eq_true h))
  rw [show ixz (isNm nm) l = (Nd.place (isNm nm) l : Int) by unfold ixz; rw [if_pos h]] at HI
  clear hf h
  generalize Nd.place (isNm nm) l = z at HI
  have hz : (0 : Int) <= (z : Int) := by omega
  go_enter func140, ntmps140
  go_wp2_with fail
  refine HI.out.mono ?_
  rintro e w1 ⟨rfl, hB⟩
  dsimp only
  go_wp2_with fail
  go_ret
  rw [HF.out]
  exact ⟨rfl, hB⟩
 ·have HF := hid (hf.trans (decide_eq_false h))
  rw [show ixz (isNm nm) l = -1 by unfold ixz; rw [if_neg h]] at HI
  clear hf h
  go_enter func140, ntmps140
  go_wp2_with fail
  refine HI.out.mono ?_
  rintro e w1 ⟨rfl, hB⟩
  dsimp only
  go_wp2_with fail
  go_ret
  rw [HF.out]
  exact ⟨rfl, hB⟩
structure PF (w : World) (cs : Array Value) (W : World) : Prop where
 box : W.heap[w.heap.size]? = some (.cells cs 67 (0, 0))
 below : Below w.heap.size w W
theorem PF.kept {w : World} {cs : Array Value} {W W' : World} (h : PF w cs W) (hb : Below W.heap.size W W') : PF w cs W' :=
 ⟨(hb.block _ (lt_of_obj h.box)).trans h.box, h.below.trans (hb.mono h.below.size)⟩
theorem PF.start (w : World) (cs : Array Value) : PF w cs (w.alloc (.cells cs 67)) := ⟨heap_alloc_new w _, (Below.refl _ w).alloc (Nat.le_refl _) _⟩
theorem getPF {w : World} {cs : Array Value} {v : Value} {W : World} (h : W.cell? ⟨w.heap.size, 4, none⟩ = some v /\ PF w cs W) : PF w cs W := h.2
theorem find_any (k m : Int) (d t : ByteArray) (a : Option Addr) (n cap : Nat) (l : List En) (nm : ByteArray) (w : World) (hE : Ents a n l w) (hn : n <= 1000000) :
  Calls prog 172 #[nv k m d t a n cap, .string nm] w (Found l nm w) := by
 have HNL := hid hE.count
 have HE := hid (λW (hb : Below w.heap.size w W) => hE.below hb)
 have HIx := hid (show ∀ W g g', g' = g -> W.cell? ⟨g, 0, none⟩ = some (.string nm) -> Below w.heap.size w W -> Calls prog 105 #[.slice a n cap, .func (.func 143) #[] #[.pointer (some ⟨g', 0, none⟩)]] W λe w' => e = .returned (.int .i64 (ixz (isNm nm) l)) /\ Below W.heap.size W w' from λW g g' e hg hb => by subst e; exact ixf43_any a n cap l nm _ W (hE.below hb) hn hg)
 have HP := hid (PF.start w #[.int .i64 k, .int .i64 m, .string d, .string t, .slice a n cap])
 have HF := hid (Nd.find_place l nm z0)
 clear hE
 have c4 : (w.alloc (.cells #[.int .i64 k, .int .i64 m, .string d, .string t, .slice a n cap] 67)).cell? ⟨w.heap.size, 4, none⟩ = some (.slice a n cap) := cell_obj HP.out.box 4
 have HPd := hid (HP.out.kept (Below.refl _ _).drew)
 by_cases h : Nd.place (isNm nm) l < l.length
 ·rw [show ixz (isNm nm) l = (Nd.place (isNm nm) l : Int) by unfold ixz; rw [if_pos h]] at HIx
  have HF2 := hid (HF.out.trans (if_pos h))
  have hln : Nd.place (isNm nm) l < n := by have := HNL.out; omega
  change Hid (Nd.find l nm = some (l.getD (Nd.place (isNm nm) l) z0).2) at HF2
  clear h HF
  obtain ⟨b, off, rfl, _, _⟩ := (HE.out _ (Below.refl _ _)).cell _ hln
  have HC := hid (λW (hb : Below w.heap.size w W) => (HE.out W hb).cell _ hln)
  generalize Nd.place (isNm nm) l = z at *
  generalize l.getD z z0 = x at *
  have hz0 : (0 : Int) <= (z : Int) := by omega
  have hz1 : (z : Int) < (n : Int) := by omega
  go_enter func172, ntmps172
  go_wp2_with fail
  go_region_held3 (λW => W.cell? ⟨w.heap.size, 4, none⟩ = some (.slice (some ⟨b, off, none⟩) n cap) /\ PF w #[.int .i64 k, .int .i64 m, .string d, .string t, .slice (some ⟨b, off, none⟩) n cap] W)
   (first | exact ⟨cell_obj HPd.out.box 4, HPd.out⟩ | exact ⟨cell_obj pB.out.box 4, pB.out⟩ | exact ⟨cell_obj pA.out.box 4, pA.out⟩ | assumption)
   (first
    | (go_at_call 106; (with_reducible refine (named_any nm _).mono ?_); rintro e wA ⟨rfl, hcA, hA⟩; have pA := hid (PF.kept (getPF (by assumption)) hA); clear hA)
    | (go_at_call 105; (with_reducible refine (HIx.out _ _ _ (by simp) hcA (PF.below (getPF (by assumption)))).mono ?_); rintro e wB ⟨rfl, hB⟩; have pB := hid (PF.kept (getPF (by assumption)) hB); clear hB))
  have cB : wB.cell? ⟨w.heap.size, 4, none⟩ = some (.slice (some ⟨b, off, none⟩) n cap) := cell_obj pB.out.box 4
  obtain ⟨b', off', eb, c0, c1⟩ := HC.out _ pB.out.below
  obtain ⟨rfl, rfl⟩ : b' = b /\ off' = off := by cases eb; exact ⟨rfl, rfl⟩
  go_wp2_with fail
  go_ret2
  show Found l nm w _ _
  unfold Found
  rw [HF2.out]
  exact ⟨rfl, pB.out.below⟩
 ·rw [show ixz (isNm nm) l = -1 by unfold ixz; rw [if_neg h]] at HIx
  have HF2 := hid (HF.out.trans (if_neg h))
  clear h HF
  go_enter func172, ntmps172
  go_wp2_with fail
  go_region_held3 (λW => W.cell? ⟨w.heap.size, 4, none⟩ = some (.slice a n cap) /\ PF w #[.int .i64 k, .int .i64 m, .string d, .string t, .slice a n cap] W)
   (first | exact ⟨cell_obj HPd.out.box 4, HPd.out⟩ | exact ⟨cell_obj pB.out.box 4, pB.out⟩ | exact ⟨cell_obj pA.out.box 4, pA.out⟩ | assumption)
   (first
    | (go_at_call 106; (with_reducible refine (named_any nm _).mono ?_); rintro e wA ⟨rfl, hcA, hA⟩; have pA := hid (PF.kept (getPF (by assumption)) hA); clear hA)
    | (go_at_call 105; (with_reducible refine (HIx.out _ _ _ (by simp) hcA (PF.below (getPF (by assumption)))).mono ?_); rintro e wB ⟨rfl, hB⟩; have pB := hid (PF.kept (getPF (by assumption)) hB); clear hB))
  go_wp2_with fail
  go_ret2
  show Found l nm w _ _
  unfold Found
  rw [HF2.out]
  exact ⟨rfl, pB.out.below⟩
structure BR (w : World) (b r : Nat) (cs : Array Value) (W : World) : Prop where
 box : W.heap[b]? = some (.cells cs 67 (0, 0))
 res : W.heap[r]? = some (.cells zc 67 (0, 0))
 lo : w.heap.size <= b /\ w.heap.size <= r /\ b ≠ r
 below : Below w.heap.size w W
theorem BR.kept {w : World} {b r : Nat} {cs : Array Value} {W W' : World} (h : BR w b r cs W) (hb : Below W.heap.size W W') : BR w b r cs W' :=
 ⟨(hb.block _ (lt_of_obj h.box)).trans h.box, (hb.block _ (lt_of_obj h.res)).trans h.res, h.lo, h.below.trans (hb.mono h.below.size)⟩
theorem BR.grown {w : World} {b r : Nat} {cs : Array Value} {W W' : World} {row : Option Nat} (h : BR w b r cs W) (hg : W.grownBy W' row) (hrow : ∀ k, row = some k -> w.heap.size <= k /\ k ≠ b /\ k ≠ r) : BR w b r cs W' :=
 ⟨grown_obj hg h.box (λe => (hrow b e.symm).2.1 rfl), grown_obj hg h.res (λe => (hrow r e.symm).2.2 rfl), h.lo, h.below.grown hg h.below.size (λj hj => (hrow j hj).1)⟩
theorem BR.set4 {w : World} {b r : Nat} {v0 v1 v2 v3 v4 : Value} {W : World} (h : BR w b r #[v0, v1, v2, v3, v4] W) (v : Value) : BR w b r #[v0, v1, v2, v3, v] (W.setCell ⟨b, 4, none⟩ v) := by
 refine ⟨by simpa using heap_setCell_same W b 4 _ 67 v h.box, ?_, h.lo, h.below.setCell h.lo.1 _⟩
 rw [heap_setCell_other W ⟨b, 4, none⟩ r _ (λe => h.lo.2.2 e.symm)]; exact h.res
theorem BR.set5 {w : World} {b r : Nat} {x0 x1 x2 x3 x4 : Value} {W : World} (h : BR w b r #[x0, x1, x2, x3, x4] W) (v0 v1 v2 v3 v4 : Value) :
  BR w b r #[v0, v1, v2, v3, v4] (((((W.setCell ⟨b, 0, none⟩ v0).setCell ⟨b, 1, none⟩ v1).setCell ⟨b, 2, none⟩ v2).setCell ⟨b, 3, none⟩ v3).setCell ⟨b, 4, none⟩ v4) := by
 have hne : r ≠ b := λe => h.lo.2.2 e.symm
 refine ⟨YthbajmlmjjfgpaaGreatDoor.set5 _ _ _ _ _ h.box, ?_, h.lo, below5 h.below h.lo.1 _ _ _ _ _⟩
 rw [heap_setCell_other _ ⟨b, 4, none⟩ r _ hne, heap_setCell_other _ ⟨b, 3, none⟩ r _ hne, heap_setCell_other _ ⟨b, 2, none⟩ r _ hne, heap_setCell_other _ ⟨b, 1, none⟩ r _ hne, heap_setCell_other _ ⟨b, 0, none⟩ r _ hne]
 exact h.res
theorem withoutE_no {m : Int} {d t : ByteArray} {l : List En} {nm : ByteArray} (h : ¬ Nd.place (isNm nm) l < l.length) : Nd.withoutE ⟨2, m, d, t, l⟩ nm = (Nd.none0, 4) := by
 unfold Nd.withoutE
 rw [if_neg (by simp), if_pos (by rw [Nd.find_is]; exact decide_eq_false h)]
theorem withoutE_yes {m : Int} {d t : ByteArray} {l : List En} {nm : ByteArray} (h : Nd.place (isNm nm) l < l.length) : Nd.withoutE ⟨2, m, d, t, l⟩ nm = (⟨2, m, d, t, l.take (Nd.place (isNm nm) l) ++ l.drop (Nd.place (isNm nm) l + 1)⟩, 0) := by
 unfold Nd.withoutE
 rw [if_neg (by simp), if_neg (by rw [Nd.find_is]; show ¬ decide (Nd.place (isNm nm) l < l.length) = false; rw [decide_eq_true h]; simp)]
 show (Nd.Node.mk 2 m d t (Nd.cut l nm), (0 : Int)) = _
 rw [Nd.cut_place]; rfl
theorem without_any (k m : Int) (d t : ByteArray) (a : Option Addr) (n cap : Nat) (l : List En) (nm : ByteArray) (w : World) (hE : Ents a n l w) (hn : n <= 100000) (hs : ∀ j, j < n -> (l.getD j z0).1.size <= 100000) (hd : d.size <= 100000) (ht : t.size <= 100000) :
  Calls prog 66 #[nv k m d t a n cap, .string nm] w (Noded (Nd.withoutE ⟨k, m, d, t, l⟩ nm) w) := by
 have HNL := hid hE.count
 have HB0 := hid (show ∀ x y : Obj, Below w.heap.size w ((w.alloc x).alloc y) from λx y => ((Below.refl _ w).alloc (Nat.le_refl _) _).alloc (by simp) _)
 by_cases e1 : ¬ k = 2
 ·have HR := hid (show Nd.withoutE ⟨k, m, d, t, l⟩ nm = (Nd.none0, 10) by unfold Nd.withoutE; rw [if_pos e1])
  clear hE hs hd ht
  go_enter func66, ntmps66
  go_wp2_with fail
  refine bodyPost_ret_by (results_nd rfl _ _ (w.heap.size + 1) _ _ _ _ _ rfl (two1 _ _ _)) rfl ⟨none, 0, by rw [HR.out]; rfl, by rw [HR.out]; exact ents_nil _, HB0.out _ _⟩
 obtain rfl := Decidable.not_not.1 e1
 clear e1
 have HIx := hid (show ∀ W g g', g' = g -> W.cell? ⟨g, 0, none⟩ = some (.string nm) -> Below w.heap.size w W -> Calls prog 105 #[.slice a n cap, .func (.func 143) #[] #[.pointer (some ⟨g', 0, none⟩)]] W λe w' => e = .returned (.int .i64 (ixz (isNm nm) l)) /\ Below W.heap.size W w' from λW g g' e hg hb => by subst e; exact ixf43_any a n cap l nm _ W (hE.below hb) (by omega) hg)
 have HOw := hid (λW (hb : Below w.heap.size w W) => own_any 2 m d t a n cap l W (hE.below hb) hn hs hd ht)
 have HPd := hid (show PF w #[.int .i64 2, .int .i64 m, .string d, .string t, .slice a n cap] (((w.alloc (.cells #[.int .i64 2, .int .i64 m, .string d, .string t, .slice a n cap] 67)).alloc (.cells #[.int .i64 0, .int .i64 0, .string ⟨#[]⟩, .string ⟨#[]⟩, .slice none 0 0] 67)).drew) from ⟨two0 _ _ _, (HB0.out _ _).drew⟩)
 have HRs := hid (show ((((w.alloc (.cells #[.int .i64 2, .int .i64 m, .string d, .string t, .slice a n cap] 67)).alloc (.cells #[.int .i64 0, .int .i64 0, .string ⟨#[]⟩, .string ⟨#[]⟩, .slice none 0 0] 67)).drew).heap[w.heap.size + 1]? = some (.cells zc 67 (0, 0))) from two1 _ _ _)
 have HRn := hid (show (w.heap.size <= w.heap.size /\ w.heap.size <= w.heap.size + 1 /\ w.heap.size ≠ w.heap.size + 1) from ⟨Nat.le_refl _, Nat.le_succ _, by omega⟩)
 clear hE hs hd ht
 by_cases h : Nd.place (isNm nm) l < l.length
 ·rw [show ixz (isNm nm) l = (Nd.place (isNm nm) l : Int) by unfold ixz; rw [if_pos h]] at HIx
  have HW := hid (withoutE_yes (m := m) (d := d) (t := t) h)
  have HH := hid h
  clear h
  generalize Nd.place (isNm nm) l = z at *
  have hz0 : (0 : Int) <= (z : Int) := by omega
  have hzn : z < n := by have := HNL.out; have := HH.out; omega
  have hw1 : IntKind.i64.wrap ((z : Int) + 1) = (z : Int) + 1 := IntWalk.i64_in _ (by omega)
  go_enter func66, ntmps66
  go_wp2_with fail
  go_region_held3 (λW => W.cell? ⟨w.heap.size, 4, none⟩ = some (.slice a n cap) /\ PF w #[.int .i64 2, .int .i64 m, .string d, .string t, .slice a n cap] W)
   (first | exact ⟨cell_obj HPd.out.box 4, HPd.out⟩ | exact ⟨cell_obj pB.out.box 4, pB.out⟩ | exact ⟨cell_obj pA.out.box 4, pA.out⟩ | assumption)
   (first
    | (go_at_call 106; (with_reducible refine (named_any nm _).mono ?_); rintro e wA ⟨rfl, hcA, hA⟩; have pA := hid (PF.kept (getPF (by assumption)) hA); have gA := hid hA; clear hA)
    | (go_at_call 105; (with_reducible refine (HIx.out _ _ _ (by simp) hcA (PF.below (getPF (by assumption)))).mono ?_); rintro e wB ⟨rfl, hB⟩; have pB := hid (PF.kept (getPF (by assumption)) hB); have gB := hid hB; clear hB))
  have HBR := hid (show BR w w.heap.size (w.heap.size + 1) #[.int .i64 2, .int .i64 m, .string d, .string t, .slice a n cap] wB from ⟨pB.out.box, ((gB.out.mono (Nat.le_refl _)).block _ (Nat.lt_of_lt_of_le (lt_of_obj HRs.out) gA.out.size)).trans ((gA.out.block _ (lt_of_obj HRs.out)).trans HRs.out), HRn.out, pB.out.below⟩)
  clear HIx HPd HRs
  have HOw1 := hid (HOw.out wB pB.out.below)
  have hRlt := lt_of_obj HBR.out.res
  have hx := HBR.out.box
  have x0 : wB.cell? ⟨w.heap.size, 0, none⟩ = some (.int .i64 2) := cell_obj hx 0
  have x1 : wB.cell? ⟨w.heap.size, 1, none⟩ = some (.int .i64 m) := cell_obj hx 1
  have x2 : wB.cell? ⟨w.heap.size, 2, none⟩ = some (.string d) := cell_obj hx 2
  have x3 : wB.cell? ⟨w.heap.size, 3, none⟩ = some (.string t) := cell_obj hx 3
  clear hx
  go_wp2_with fail
  refine HOw1.out.mono ?_
  rintro e w2 ⟨ao, cp, rfl, hown, hw2⟩
  have HBR2 := hid (HBR.out.kept hw2)
  have HO3 := hid (own_set5 hown (g := w.heap.size) (by omega) (.int .i64 2) (.int .i64 m) (.string d) (.string t) (.slice ao l.length cp))
  have HBR3 := hid (HBR2.out.set5 (.int .i64 2) (.int .i64 m) (.string d) (.string t) (.slice ao l.length cp))
  clear hown hw2 x0 x1 x2 x3 HBR HOw1 HOw
  have hx := HBR2.out.box
  have x0 : w2.cell? ⟨w.heap.size, 0, none⟩ = some (.int .i64 2) := cell_obj hx 0
  have x1 : w2.cell? ⟨w.heap.size, 1, none⟩ = some (.int .i64 m) := cell_obj hx 1
  have x2 : w2.cell? ⟨w.heap.size, 2, none⟩ = some (.string d) := cell_obj hx 2
  have x3 : w2.cell? ⟨w.heap.size, 3, none⟩ = some (.string t) := cell_obj hx 3
  have x4 : w2.cell? ⟨w.heap.size, 4, none⟩ = some (.slice a n cap) := cell_obj hx 4
  have f0 := bxf5 hx
  clear hx
  dsimp only
  go_wp2_with fail
  refine (delete_any wB.heap.size ao cp l z _ HO3.out HH.out (by have := HNL.out; omega)).mono ?_
  rintro e w5 ⟨ao5, cp5, rfl, hown5, hgr5⟩
  have HBR5 := hid (HBR3.out.grown hgr5 (λk hk => by have h1 := owns_lt HO3.out k hk; exact ⟨by omega, by omega, by omega⟩))
  have HO5 := hid hown5
  clear hown5 hgr5 x0 x1 x2 x3 x4 f0 HBR2 HBR3
  have HBR6 := hid (HBR5.out.set4 (.slice ao5 (l.take z ++ l.drop (z + 1)).length cp5))
  generalize hLen : (l.take z ++ l.drop (z + 1)).length = len5 at *
  have hx := HBR5.out.box
  have x0 : w5.cell? ⟨w.heap.size, 0, none⟩ = some (.int .i64 2) := cell_obj hx 0
  have x1 : w5.cell? ⟨w.heap.size, 1, none⟩ = some (.int .i64 m) := cell_obj hx 1
  have x2 : w5.cell? ⟨w.heap.size, 2, none⟩ = some (.string d) := cell_obj hx 2
  have x3 : w5.cell? ⟨w.heap.size, 3, none⟩ = some (.string t) := cell_obj hx 3
  have x4 : w5.cell? ⟨w.heap.size, 4, none⟩ = some (.slice ao l.length cp) := cell_obj hx 4
  have f0 := bxf5 hx
  clear hx
  have hr := HBR5.out.res
  have r0 := bxc5 hr
  have q0 := bxf5 hr
  clear hr
  dsimp only
  go_wp2_with fail
  refine bodyPost_ret_by (results_nd rfl _ _ (w.heap.size + 1) _ _ _ _ _ rfl (YthbajmlmjjfgpaaGreatDoor.set5 _ _ _ _ _ HBR6.out.res)) rfl ?_
  unfold Noded
  rw [HW.out]
  dsimp only
  rw [hLen]
  have ho5 := HO5.out
  refine ⟨ao5, cp5, rfl, ?_, below5 HBR6.out.below (Nat.le_succ _) _ _ _ _ _⟩
  rw [<- hLen] at ho5 |-
  exact own_ents (own_set5 (own_set ho5 (by omega) 4 _) (by omega) _ _ _ _ _)
 ·rw [show ixz (isNm nm) l = -1 by unfold ixz; rw [if_neg h]] at HIx
  have HW := hid (withoutE_no (m := m) (d := d) (t := t) h)
  clear h HOw
  go_enter func66, ntmps66
  go_wp2_with fail
  go_region_held3 (λW => W.cell? ⟨w.heap.size, 4, none⟩ = some (.slice a n cap) /\ PF w #[.int .i64 2, .int .i64 m, .string d, .string t, .slice a n cap] W)
   (first | exact ⟨cell_obj HPd.out.box 4, HPd.out⟩ | exact ⟨cell_obj pB.out.box 4, pB.out⟩ | exact ⟨cell_obj pA.out.box 4, pA.out⟩ | assumption)
   (first
    | (go_at_call 106; (with_reducible refine (named_any nm _).mono ?_); rintro e wA ⟨rfl, hcA, hA⟩; have pA := hid (PF.kept (getPF (by assumption)) hA); have gA := hid hA; clear hA)
    | (go_at_call 105; (with_reducible refine (HIx.out _ _ _ (by simp) hcA (PF.below (getPF (by assumption)))).mono ?_); rintro e wB ⟨rfl, hB⟩; have pB := hid (PF.kept (getPF (by assumption)) hB); have gB := hid hB; clear hB))
  have HBR := hid (show BR w w.heap.size (w.heap.size + 1) #[.int .i64 2, .int .i64 m, .string d, .string t, .slice a n cap] wB from ⟨pB.out.box, ((gB.out.mono (Nat.le_refl _)).block _ (Nat.lt_of_lt_of_le (lt_of_obj HRs.out) gA.out.size)).trans ((gA.out.block _ (lt_of_obj HRs.out)).trans HRs.out), HRn.out, pB.out.below⟩)
  clear HIx HPd HRs
  have hr := HBR.out.res
  have r0 := bxc5 hr
  have q0 := bxf5 hr
  clear hr
  go_wp2_with fail
  refine bodyPost_ret_by (results_nd rfl _ _ (w.heap.size + 1) _ _ _ _ _ rfl (YthbajmlmjjfgpaaGreatDoor.set5 _ _ _ _ _ HBR.out.res)) rfl ⟨none, 0, by rw [HW.out]; rfl, by rw [HW.out]; exact ents_nil _, below5 HBR.out.below (Nat.le_succ _) _ _ _ _ _⟩
end Go.Proofs.YthbajmlmjjfgpaaGreatDoor
namespace Go.Proofs.YthbajmlmjjfgpaaGreatDoor
open Go
theorem decode_wide (s : ByteArray) (pos : Nat) (h : pos < s.size) (ha : 128 <= (s[pos]'h).toNat) :
  pos + (Utf8.decode s pos).2 <= s.size /\ (∀ k, k < (Utf8.decode s pos).2 -> 128 <= (s.get! (pos + k)).toNat) /\ Utf8.valid (Utf8.decode s pos).1 = true := by
 have e0 : s.get! (pos + 0) = s[pos]'h := get_at s pos h
 have hn : ¬ (s[pos]'h).toNat < 128 := by omega
 have one : ∀ k, k < 1 -> 128 <= (s.get! (pos + k)).toNat := λk hk => by
  obtain rfl : k = 0 := by omega
  rw [e0]; exact ha
 unfold Utf8.decode
 simp only [e0, if_neg hn]
 have bad : pos + (Utf8.runeError, 1).2 <= s.size /\ (∀ k, k < (Utf8.runeError, 1).2 -> 128 <= (s.get! (pos + k)).toNat) /\ Utf8.valid ((Utf8.runeError, 1).1 : Nat) = true := ⟨h, one, by decide⟩
 split
 ·rename_i hc
  simp only [Bool.and_eq_true, decide_eq_true_eq, beq_iff_eq] at hc
  split
  ·refine ⟨by show pos + 2 <= s.size; omega, λk hk => ?_, ?_⟩
   ·have hk : k < 2 := hk
    rcases Nat.lt_or_ge k 1 with h1 | h1
    ·exact one k h1
    ·obtain rfl : k = 1 := by omega
     omega
   ·unfold Utf8.valid
    simp only [Bool.or_eq_true, Bool.and_eq_true, decide_eq_true_eq]
    left; omega
  ·exact bad
 ·split
  ·rename_i hc
   simp only [Bool.and_eq_true, decide_eq_true_eq, beq_iff_eq] at hc
   split
   ·rename_i hv
    simp only [Bool.and_eq_true, decide_eq_true_eq] at hv
    refine ⟨by show pos + 3 <= s.size; omega, λk hk => ?_, hv.2⟩
    have hk : k < 3 := hk
    rcases Nat.lt_or_ge k 1 with h1 | h1
    ·exact one k h1
    ·rcases Nat.lt_or_ge k 2 with h2 | h2
     ·obtain rfl : k = 1 := by omega
      omega
     ·obtain rfl : k = 2 := by omega
      omega
   ·exact bad
  ·split
   ·rename_i hc
    simp only [Bool.and_eq_true, decide_eq_true_eq, beq_iff_eq] at hc
    split
    ·rename_i hv
     simp only [Bool.and_eq_true, decide_eq_true_eq] at hv
     refine ⟨by show pos + 4 <= s.size; omega, λk hk => ?_, hv.2⟩
     have hk : k < 4 := hk
     rcases Nat.lt_or_ge k 1 with h1 | h1
     ·exact one k h1
     ·rcases Nat.lt_or_ge k 2 with h2 | h2
      ·obtain rfl : k = 1 := by omega
       omega
      ·rcases Nat.lt_or_ge k 3 with h3 | h3
       ·obtain rfl : k = 2 := by omega
        omega
       ·obtain rfl : k = 3 := by omega
        omega
    ·exact bad
   ·exact bad
theorem valid_rune {n : Nat} (h : Utf8.valid (n : Int) = true) : n < 55296 \/ (57343 < n /\ n <= 1114111) := by
 unfold Utf8.valid at h
 simp only [Bool.or_eq_true, Bool.and_eq_true, decide_eq_true_eq] at h
 omega
theorem encode_wide {n : Nat} (h : 128 <= n) (hv : Utf8.valid (n : Int) = true) : (∃ a b : UInt8, Utf8.encode (n : Int) = ⟨#[a, b]⟩ /\ 128 <= b.toNat) \/ 3 <= (Utf8.encode (n : Int)).size := by
 unfold Utf8.encode
 rw [if_pos hv]
 have e : (n : Int).toNat = n := Int.toNat_natCast n
 simp only [e]
 rw [if_neg (by omega)]
 split
 ·left
  refine ⟨_, _, rfl, ?_⟩
  simp only [UInt8.toNat_ofNat']
  omega
 ·right
  split
  ·show 3 <= (3 : Nat); omega
  ·show 3 <= (4 : Nat); omega
end Go.Proofs.YthbajmlmjjfgpaaGreatDoor
namespace Go.Proofs.YthbajmlmjjfgpaaGreatDoor
open Go.RowKit
theorem ib50 (s : ByteArray) (c : Int) (w : World) : Calls prog 219 #[.string s, .int .u8 c] w λe w' => e = .returned (.int .i64 (Lib.indexByte s.data.toList c.toNat.toUInt8)) /\ w' = w := by
 go_enter func219, ntmps219
 go_wp2
 rw [run_callFunc_extern func244 (by kernel_rfl) (by kernel_rfl) (by kernel_rfl) (e := Extern.BytealgIndexByte.indexByte) (by kernel_rfl), Lib.run_indexByteString]
 simp only [Result.andThen]
 rw [Oper.upon_value]
 go_wp2
 go_ret
 exact ⟨rfl, rfl⟩
theorem ib46 (s : ByteArray) (c : Int) (w : World) : Calls prog 248 #[.string s, .int .u8 c] w λe w' => e = .returned (.int .i64 (Lib.indexByte s.data.toList c.toNat.toUInt8)) /\ w' = w := by
 go_enter func248, ntmps248
 go_wp2_with fail
 refine (ib50 s c _).mono ?_
 rintro e w1 ⟨rfl, rfl⟩
 dsimp only
 go_wp2_with fail
 go_ret
 exact ⟨rfl, rfl⟩
def two (x : Nat) : Bool := x == 47 || x == 0
theorem ib_two {n : Nat} (h : n < 128) : (0 <= Lib.indexByte [47, 0] ((n : Int).toNat.toUInt8)) ↔ two n = true := by
 have hc : ∀ k : Fin 128, (0 <= Lib.indexByte [47, 0] (((k.val : Nat) : Int).toNat.toUInt8)) ↔ two k.val = true := by decide
 exact hc ⟨n, h⟩
end Go.Proofs.YthbajmlmjjfgpaaGreatDoor
