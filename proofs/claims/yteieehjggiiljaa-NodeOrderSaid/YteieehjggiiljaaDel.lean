/- slices.Delete of one entry. -/
import Derived.Test.YteieehjggiiljaaIns
namespace Go.Proofs.Yteieehjggiiljaa
set_option maxRecDepth 100000
open Go.RowKit Go.Less
/-- What stands ahead, and what stood behind moved up. -/
theorem del_mid (cur : List Value) (l : List En) (i : Nat) (ht : cur.take (l.length * 2) = erow l) (hi : i < l.length) :
    (splice cur (i * 2) (erow (l.drop (i + 1)))).take ((l.length - 1) * 2) = erow (l.take i ++ l.drop (i + 1)) := by
  have h1 : cur.take (i * 2) = erow (l.take i) := by
    rw [← erow_take, ← ht, List.take_take, Nat.min_eq_left (by omega)]
  rw [show splice cur (i * 2) (erow (l.drop (i + 1))) = (cur.take (i * 2) ++ erow (l.drop (i + 1))) ++ cur.drop (i * 2 + (erow (l.drop (i + 1))).length) from by unfold splice; rw [List.append_assoc], h1, ← erow_append, List.take_left']
  rw [erow_length, List.length_append, List.length_take, List.length_drop]
  omega

set_option maxHeartbeats 4000000 in
theorem del_more (base g cap : Nat) (cur : Array Value) (l : List En) (i m : Nat) (w : World) (hg : w.heap[g]? = some (.cells cur 46 (0, 0))) (hs : cur.size = cap * 2) (ht : cur.toList.take (l.length * 2) = erow l)
    (hlm : l.length = i + 1 + m) (hr : l.length ≤ cap) (hm : cap ≤ maxLen) (hl : l.length ≤ 100000) (hbg : base ≤ g) (hcc : ¬ cap = i + 1) :
    Calls Try.prog 35 #[.slice (some ⟨g, 0, none⟩) l.length cap, .int .i64 (i : Int), .int .i64 ((i : Int) + 1)] w (Rowed2 base (.slice (some ⟨g, 0, none⟩) l.length cap) (l.take i ++ l.drop (i + 1)) w) := by
  have mixed := mixd
  have HG := Lib.hid hg
  have hc63 : cap ≤ 9223372036854775807 := by unfold maxLen at hm; exact hm
  have hdl : (erow (l.drop (i + 1))).length = m * 2 := by rw [erow_length, List.length_drop]; omega
  have HN1 := Lib.hid hdl
  have HGd := Lib.hid (show w.drew.heap[g]? = some (.cells cur.toList.toArray 46 (0, 0)) by rw [Array.toArray_toList]; exact hg)
  have HSrc := Lib.hid (show ∀ j v, (erow (l.drop (i + 1)))[j]? = some v → w.drew.cell? ((⟨g, (i + 1) * 2, none⟩ : Addr).add j) = some v from fun j v hj => by
    skip
    rw [Go.WideShapes.add_plain]
    show w.cell? _ = _
    rw [cell_obj hg, ← Array.getElem?_toList]
    rw [← erow_drop, ← ht, List.getElem?_drop, List.getElem?_take] at hj
    split at hj
    · exact hj
    · cases hj)
  have HOne := Lib.hid (erow_one (l.drop (i + 1)))
  have HFit := Lib.hid (show i * 2 + (erow (l.drop (i + 1))).length ≤ cur.toList.length by rw [hdl, Array.length_toList, hs]; omega)
  have HSl := Lib.hid (show (splice cur.toList (i * 2) (erow (l.drop (i + 1)))).length = cap * 2 from (len_splice2 HFit.out).trans (Array.length_toList.trans hs))
  have HLaid := Lib.hid (del_mid cur.toList l i ht (by omega))
  have HM := Lib.hid hm
  rw [hlm] at hr hl
  generalize hn : l.length = n at *
  subst hlm
  have hni : (i : Int) + 1 + (m : Int) ≤ 100000 := by omega
  have hi0 : (0 : Int) ≤ (i : Int) := by omega
  have hm0 : (0 : Int) ≤ (m : Int) := by omega
  have hi1 : ¬ ((i : Int) = (i : Int) + 1) := by omega
  have hb1 : (0 : Int) ≤ (i : Int) + 1 := by omega
  have hb2 : (i : Int) ≤ (i : Int) + 1 := by omega
  have hb3 : (i : Int) + 1 ≤ (i : Int) + 1 + (m : Int) := by omega
  have hb4 : (i : Int) + 1 + (m : Int) ≤ (cap : Int) := by omega
  have htn : ((i : Int) + 1).toNat = i + 1 := by omega
  have htn2 : ((i : Int) + 1 + (m : Int)).toNat = i + 1 + m := by omega
  have htn3 : ((i : Int) + (m : Int)).toNat = i + m := by omega
  have hic : i ≤ cap := by omega
  have hici : (i : Int) ≤ (cap : Int) := by omega
  have hjm : i + 1 + m - (i + 1) = m := by omega
  have hq1 : i + 1 + m - (i + m) = 1 := by omega
  have hb5 : (i : Int) + (m : Int) ≤ (i : Int) + 1 + (m : Int) := by omega
  have hb6 : (0 : Int) ≤ (i : Int) + (m : Int) := by omega
  have hcm : ¬ (cap = i + m) := by omega
  have hcm2 : i + m ≤ cap := by omega
  have hcm3 : i + 1 + m ≤ cap := by omega
  have hcm4 : i + m ≤ i + 1 + m := by omega
  have hcm5 : i + 1 ≤ i + 1 + m := by omega
  clear hg hl hm hs ht hdl
  go_enter Try.func35, Try.ntmps35
  go_wp2_with fail
  go_region_law_o (refine Two.step_app2 rfl _ _ 22 rfl 46 Try.underlying22 size46 g i cap ⟨g, (i + 1) * 2, none⟩ m (cap - (i + 1)) (by simp [Act.eval, Act.put]) (by simp [Act.eval, Act.put]) cur.toList HGd.out (erow (l.drop (i + 1))) HN1.out HSrc.out HOne.out hcm2 HFit.out ?_; intro w4 hg4 hgr4)
  all_goals
    have hcl : ∀ ty, (Builtin.clear_ #[22] ty #[.slice (some ⟨g, (i + m) * 2, none⟩) 1 (cap - (i + m))]).run Try.prog w4 = .ok (.tuple #[]) (w4.setRow g ((splice cur.toList (i * 2) (erow (l.drop (i + 1)))).toArray.toList.take ((i + m) * 2) ++ [Value.string ⟨#[]⟩, Value.int .i64 0] ++ (splice cur.toList (i * 2) (erow (l.drop (i + 1)))).toArray.toList.drop ((i + m) * 2 + 2)).toArray) := fun ty =>
      Two.run_clear2 w4 22 46 ty (.agg #[.string ⟨#[]⟩, .int .i64 0]) _ _ Try.underlying22 Try.zeroValue46 rfl rfl rfl g ((i + m) * 2) (cap - (i + m)) _ 46 hg4.out (by rw [List.size_toArray, HSl.out]; omega)
    have HS5 := Lib.hid (setRow_heap w4 g _ ((splice cur.toList (i * 2) (erow (l.drop (i + 1)))).toArray.toList.take ((i + m) * 2) ++ [Value.string ⟨#[]⟩, Value.int .i64 0] ++ (splice cur.toList (i * 2) (erow (l.drop (i + 1)))).toArray.toList.drop ((i + m) * 2 + 2)).toArray 46 _ hg4.out)
    have HR5 := Lib.hid (Two.grown_setRow w4 g ((splice cur.toList (i * 2) (erow (l.drop (i + 1)))).toArray.toList.take ((i + m) * 2) ++ [Value.string ⟨#[]⟩, Value.int .i64 0] ++ (splice cur.toList (i * 2) (erow (l.drop (i + 1)))).toArray.toList.drop ((i + m) * 2 + 2)).toArray)
    have HSz := Lib.hid (show ((splice cur.toList (i * 2) (erow (l.drop (i + 1)))).toArray.toList.take ((i + m) * 2) ++ [Value.string ⟨#[]⟩, Value.int .i64 0] ++ (splice cur.toList (i * 2) (erow (l.drop (i + 1)))).toArray.toList.drop ((i + m) * 2 + 2)).length = cap * 2 by
      simp only [List.length_append, List.length_take, List.length_drop, HSl.out, List.length_cons, List.length_nil]; omega)
    have HTk := Lib.hid (show ((splice cur.toList (i * 2) (erow (l.drop (i + 1)))).toArray.toList.take ((i + m) * 2) ++ [Value.string ⟨#[]⟩, Value.int .i64 0] ++ (splice cur.toList (i * 2) (erow (l.drop (i + 1)))).toArray.toList.drop ((i + m) * 2 + 2)).take ((i + m) * 2) = erow (l.take i ++ l.drop (i + 1)) by
      rw [List.append_assoc, List.take_append_of_le_length (by simp only [List.length_take, HSl.out]; omega), List.take_take, Nat.min_self, show i + m = i + 1 + m - 1 by omega]; exact HLaid.out)
    generalize (splice cur.toList (i * 2) (erow (l.drop (i + 1)))).toArray.toList.take ((i + m) * 2) ++ [Value.string ⟨#[]⟩, Value.int .i64 0] ++ (splice cur.toList (i * 2) (erow (l.drop (i + 1)))).toArray.toList.drop ((i + m) * 2 + 2) = Z at *
    generalize w4.setRow g Z.toArray = w5 at *
    go_wp2_with fail
    go_ret
    have hlen : (l.take i ++ l.drop (i + 1)).length = i + m := by rw [List.length_append, List.length_take, List.length_drop]; omega
    have hgr : w.grownBy w5 (some g) := ⟨HR5.out.os.trans hgr4.os, HR5.out.tape.trans hgr4.tape, HR5.out.output.trans hgr4.output, Nat.le_trans hgr4.size HR5.out.size, fun k hk hne => (HR5.out.block k (Nat.lt_of_lt_of_le hk hgr4.size) hne).trans (hgr4.block k hk hne)⟩
    refine ⟨some ⟨g, 0, none⟩, cap, by rw [hlen]; rfl, ⟨by rw [erow_length], .inr ⟨g, cap, _, rfl, hbg, HS5.out, by rw [hlen]; exact hcm2, HM.out, ?_, ?_⟩⟩, hgr⟩
    · rw [List.size_toArray, HSz.out]
    · rw [hlen]; exact HTk.out

set_option maxHeartbeats 4000000 in
theorem del_last (base g cap : Nat) (cur : Array Value) (l : List En) (i m : Nat) (w : World) (hg : w.heap[g]? = some (.cells cur 46 (0, 0))) (hs : cur.size = cap * 2) (ht : cur.toList.take (l.length * 2) = erow l)
    (hlm : l.length = i + 1 + m) (hr : l.length ≤ cap) (hm : cap ≤ maxLen) (hl : l.length ≤ 100000) (hbg : base ≤ g) (hcc : cap = i + 1) :
    Calls Try.prog 35 #[.slice (some ⟨g, 0, none⟩) l.length cap, .int .i64 (i : Int), .int .i64 ((i : Int) + 1)] w (Rowed2 base (.slice (some ⟨g, 0, none⟩) l.length cap) (l.take i ++ l.drop (i + 1)) w) := by
  have mixed := mixd
  have HG := Lib.hid hg
  have hc63 : cap ≤ 9223372036854775807 := by unfold maxLen at hm; exact hm
  have hdl : (erow (l.drop (i + 1))).length = m * 2 := by rw [erow_length, List.length_drop]; omega
  have HN1 := Lib.hid hdl
  have HGd := Lib.hid (show w.drew.heap[g]? = some (.cells cur.toList.toArray 46 (0, 0)) by rw [Array.toArray_toList]; exact hg)
  have HSrc := Lib.hid (show ∀ j v, (erow (l.drop (i + 1)))[j]? = some v → w.drew.cell? ((⟨g, 0, none⟩ : Addr).add j) = some v from fun j v hj => by
    exfalso
    have h0 : (erow (l.drop (i + 1))).length = 0 := by rw [hdl]; omega
    rw [List.eq_nil_of_length_eq_zero h0] at hj
    simp at hj)
  have HOne := Lib.hid (erow_one (l.drop (i + 1)))
  have HFit := Lib.hid (show i * 2 + (erow (l.drop (i + 1))).length ≤ cur.toList.length by rw [hdl, Array.length_toList, hs]; omega)
  have HSl := Lib.hid (show (splice cur.toList (i * 2) (erow (l.drop (i + 1)))).length = cap * 2 from (len_splice2 HFit.out).trans (Array.length_toList.trans hs))
  have HLaid := Lib.hid (del_mid cur.toList l i ht (by omega))
  have HM := Lib.hid hm
  rw [hlm] at hr hl
  generalize hn : l.length = n at *
  subst hlm
  have hni : (i : Int) + 1 + (m : Int) ≤ 100000 := by omega
  have hi0 : (0 : Int) ≤ (i : Int) := by omega
  have hm0 : (0 : Int) ≤ (m : Int) := by omega
  have hi1 : ¬ ((i : Int) = (i : Int) + 1) := by omega
  have hb1 : (0 : Int) ≤ (i : Int) + 1 := by omega
  have hb2 : (i : Int) ≤ (i : Int) + 1 := by omega
  have hb3 : (i : Int) + 1 ≤ (i : Int) + 1 + (m : Int) := by omega
  have hb4 : (i : Int) + 1 + (m : Int) ≤ (cap : Int) := by omega
  have htn : ((i : Int) + 1).toNat = i + 1 := by omega
  have htn2 : ((i : Int) + 1 + (m : Int)).toNat = i + 1 + m := by omega
  have htn3 : ((i : Int) + (m : Int)).toNat = i + m := by omega
  have hic : i ≤ cap := by omega
  have hici : (i : Int) ≤ (cap : Int) := by omega
  have hjm : i + 1 + m - (i + 1) = m := by omega
  have hq1 : i + 1 + m - (i + m) = 1 := by omega
  have hb5 : (i : Int) + (m : Int) ≤ (i : Int) + 1 + (m : Int) := by omega
  have hb6 : (0 : Int) ≤ (i : Int) + (m : Int) := by omega
  have hcm : ¬ (cap = i + m) := by omega
  have hcm2 : i + m ≤ cap := by omega
  have hcm3 : i + 1 + m ≤ cap := by omega
  have hcm4 : i + m ≤ i + 1 + m := by omega
  have hcm5 : i + 1 ≤ i + 1 + m := by omega
  have hcm6 : i + m ≤ i + 1 := by omega
  have hcm7 : ¬ (i + 1 = i + m) := by omega
  clear hg hl hm hs ht hdl
  go_enter Try.func35, Try.ntmps35
  go_wp2_with fail
  go_region_law_o (refine Two.step_app2 rfl _ _ 22 rfl 46 Try.underlying22 size46 g i (i + 1) ⟨g, 0, none⟩ m 0 (by simp [Act.eval, Act.put]) (by simp [Act.eval, Act.put]) cur.toList HGd.out (erow (l.drop (i + 1))) HN1.out HSrc.out HOne.out hcm6 HFit.out ?_; intro w4 hg4 hgr4)
  all_goals
    have hcl : ∀ ty, (Builtin.clear_ #[22] ty #[.slice (some ⟨g, (i + m) * 2, none⟩) 1 (i + 1 - (i + m))]).run Try.prog w4 = .ok (.tuple #[]) (w4.setRow g ((splice cur.toList (i * 2) (erow (l.drop (i + 1)))).toArray.toList.take ((i + m) * 2) ++ [Value.string ⟨#[]⟩, Value.int .i64 0] ++ (splice cur.toList (i * 2) (erow (l.drop (i + 1)))).toArray.toList.drop ((i + m) * 2 + 2)).toArray) := fun ty =>
      Two.run_clear2 w4 22 46 ty (.agg #[.string ⟨#[]⟩, .int .i64 0]) _ _ Try.underlying22 Try.zeroValue46 rfl rfl rfl g ((i + m) * 2) (i + 1 - (i + m)) _ 46 hg4.out (by rw [List.size_toArray, HSl.out]; omega)
    have HS5 := Lib.hid (setRow_heap w4 g _ ((splice cur.toList (i * 2) (erow (l.drop (i + 1)))).toArray.toList.take ((i + m) * 2) ++ [Value.string ⟨#[]⟩, Value.int .i64 0] ++ (splice cur.toList (i * 2) (erow (l.drop (i + 1)))).toArray.toList.drop ((i + m) * 2 + 2)).toArray 46 _ hg4.out)
    have HR5 := Lib.hid (Two.grown_setRow w4 g ((splice cur.toList (i * 2) (erow (l.drop (i + 1)))).toArray.toList.take ((i + m) * 2) ++ [Value.string ⟨#[]⟩, Value.int .i64 0] ++ (splice cur.toList (i * 2) (erow (l.drop (i + 1)))).toArray.toList.drop ((i + m) * 2 + 2)).toArray)
    have HSz := Lib.hid (show ((splice cur.toList (i * 2) (erow (l.drop (i + 1)))).toArray.toList.take ((i + m) * 2) ++ [Value.string ⟨#[]⟩, Value.int .i64 0] ++ (splice cur.toList (i * 2) (erow (l.drop (i + 1)))).toArray.toList.drop ((i + m) * 2 + 2)).length = cap * 2 by
      simp only [List.length_append, List.length_take, List.length_drop, HSl.out, List.length_cons, List.length_nil]; omega)
    have HTk := Lib.hid (show ((splice cur.toList (i * 2) (erow (l.drop (i + 1)))).toArray.toList.take ((i + m) * 2) ++ [Value.string ⟨#[]⟩, Value.int .i64 0] ++ (splice cur.toList (i * 2) (erow (l.drop (i + 1)))).toArray.toList.drop ((i + m) * 2 + 2)).take ((i + m) * 2) = erow (l.take i ++ l.drop (i + 1)) by
      rw [List.append_assoc, List.take_append_of_le_length (by simp only [List.length_take, HSl.out]; omega), List.take_take, Nat.min_self, show i + m = i + 1 + m - 1 by omega]; exact HLaid.out)
    generalize (splice cur.toList (i * 2) (erow (l.drop (i + 1)))).toArray.toList.take ((i + m) * 2) ++ [Value.string ⟨#[]⟩, Value.int .i64 0] ++ (splice cur.toList (i * 2) (erow (l.drop (i + 1)))).toArray.toList.drop ((i + m) * 2 + 2) = Z at *
    generalize w4.setRow g Z.toArray = w5 at *
    go_wp2_with fail
    go_ret
    have hlen : (l.take i ++ l.drop (i + 1)).length = i + m := by rw [List.length_append, List.length_take, List.length_drop]; omega
    have hgr : w.grownBy w5 (some g) := ⟨HR5.out.os.trans hgr4.os, HR5.out.tape.trans hgr4.tape, HR5.out.output.trans hgr4.output, Nat.le_trans hgr4.size HR5.out.size, fun k hk hne => (HR5.out.block k (Nat.lt_of_lt_of_le hk hgr4.size) hne).trans (hgr4.block k hk hne)⟩
    refine ⟨some ⟨g, 0, none⟩, cap, by rw [hlen, hcc]; rfl, ⟨by rw [erow_length], .inr ⟨g, cap, _, rfl, hbg, HS5.out, by rw [hlen]; exact hcm2, HM.out, ?_, ?_⟩⟩, hgr⟩
    · rw [List.size_toArray, HSz.out]
    · rw [hlen]; exact HTk.out

theorem delete_any (base : Nat) (ao : Option Addr) (cp : Nat) (l : List En) (i : Nat) (w : World) (hO : Own base (.slice ao l.length cp) l w) (hi : i < l.length) (hl : l.length ≤ 100000) :
    Calls Try.prog 35 #[.slice ao l.length cp, .int .i64 (i : Int), .int .i64 ((i : Int) + 1)] w (Rowed2 base (.slice ao l.length cp) (l.take i ++ l.drop (i + 1)) w) := by
  obtain ⟨m, hlm⟩ : ∃ m, l.length = i + 1 + m := ⟨l.length - (i + 1), by omega⟩
  obtain ⟨hlen, ⟨e, h0⟩ | ⟨g, cap, cur, e, hbg, hg, hn, hm, hs, ht⟩⟩ := hO
  · omega
  · injection e with e1 e2 e3
    subst e1 e3
    by_cases hcc : cp = i + 1
    · exact del_last base g cp cur l i m w hg hs ht hlm hn hm hl hbg hcc
    · exact del_more base g cp cur l i m w hg hs ht hlm hn hm hl hbg hcc
end Go.Proofs.Yteieehjggiiljaa
