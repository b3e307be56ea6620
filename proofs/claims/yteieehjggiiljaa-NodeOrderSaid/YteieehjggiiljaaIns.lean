/- slices.Insert of one entry. -/
import Derived.Test.YteieehjggiiljaaOwn
import Derived.Test.YteieehjggiiljaaTwo
import Derived.Laws.Externs
import Derived.IntWalk
namespace Go.Proofs.Yteieehjggiiljaa
set_option maxRecDepth 100000
open Go.RowKit Go.Less
abbrev oc (x : En) : Obj := .cells #[.string x.1, .int .i64 x.2] 46
/-- A row of entries handed back, the old one changed or left. -/
def Rowed2 (base : Nat) (v : Value) (l : List En) (w : World) (e : Ending) (w' : World) : Prop := ∃ ao cap, e = .returned (.slice ao l.length cap) ∧ Own base (.slice ao l.length cap) l w' ∧ w.grownBy w' v.ownBlock
theorem own_blk (ao : Option Addr) (n c n' c' : Nat) : (Value.slice ao n c).ownBlock = (Value.slice ao n' c').ownBlock := by cases ao <;> rfl
theorem size46 : (Try.prog.info? 46).map (·.size) = some 2 := by kernel_rfl
set_option maxHeartbeats 4000000 in
theorem ins_end (base : Nat) (ao : Option Addr) (cp : Nat) (l : List En) (vb : Nat) (x : En) (w : World) (hO : Own base (.slice ao l.length cp) l w) (hx : w.heap[vb]? = some (oc x)) (hl : l.length ≤ 100000) (hb : base ≤ w.heap.size) :
    Calls Try.prog 32 #[.slice ao l.length cp, .int .i64 (l.length : Int), .slice (some ⟨vb, 0, none⟩) 1 1] w (Rowed2 base (.slice ao l.length cp) (l ++ [x]) w) := by
  have HO := Lib.hid hO
  have HX := Lib.hid hx
  have HL := Lib.hid hl
  have hli : (l.length : Int) ≤ 100000 := by omega
  have h0 : (0 : Int) ≤ (l.length : Int) := by omega
  have hcap : l.length ≤ cp := by
    obtain ⟨_, ⟨e, h0⟩ | ⟨g, cap', cur, e, _, _, h1, _⟩⟩ := hO
    · injection e with e1 e2 e3; omega
    · injection e with e1 e2 e3; omega
  clear hO hx hl
  generalize hn : l.length = n at *
  have hci : (n : Int) ≤ (cp : Int) := by omega
  go_enter Try.func32, Try.ntmps32
  go_wp2_with (first | (at_builtin; refine at_ent rfl _ _ rfl base _ l (by rfl) HO.out vb x (by rfl) HX.out (by rw [hn]; exact Nat.le_trans HL.out (by decide)) hb ?_; intro ao4 cap4 w4 hown4 hgrow4) | fail)
  all_goals
    go_ret
    exact ⟨ao4, cap4, by rw [List.length_append, hn]; rfl, by rw [List.length_append]; rw [hn] at hown4 ⊢; exact hown4, by first | exact hgrow4 | (rw [own_blk ao n n n cp]; exact hgrow4)⟩
/-- The cells behind a row's place. -/
theorem erow_drop (l : List En) (i : Nat) : (erow l).drop (i * 2) = erow (l.drop i) := by
  induction l generalizing i with
  | nil => simp [erow]
  | cons x l ih =>
    cases i with
    | zero => simp
    | succ i =>
      have e : erow (x :: l) = ecell x ++ erow l := rfl
      rw [e, show (i + 1) * 2 = 2 + i * 2 by omega, ← List.drop_drop, List.drop_left' (show (ecell x).length = 2 from rfl), ih]; rfl
theorem erow_take (l : List En) (i : Nat) : (erow l).take (i * 2) = erow (l.take i) := by
  induction l generalizing i with
  | nil => simp [erow]
  | cons x l ih =>
    cases i with
    | zero => simp [erow]
    | succ i =>
      have e : erow (x :: l) = ecell x ++ erow l := rfl
      rw [e, show (i + 1) * 2 = 2 + i * 2 by omega, List.take_append, List.take_of_length_le (show (ecell x).length ≤ 2 + i * 2 by show 2 ≤ _; omega), show 2 + i * 2 - (ecell x).length = i * 2 by show 2 + i * 2 - 2 = _; omega, ih]; rfl
theorem erow_one (l : List En) : ∀ v ∈ erow l, v.oneCell' = true := by
  intro v hv
  simp only [erow, List.mem_flatMap, ecell, List.mem_cons, List.not_mem_nil, or_false] at hv
  obtain ⟨x, _, rfl | rfl⟩ := hv <;> rfl
/-- One entry laid into the middle: first what stands behind is moved, then it is laid. -/
theorem laid_mid (cur : List Value) (l : List En) (i cap : Nat) (x : En) (hc : cur.length = cap * 2) (ht : cur.take (l.length * 2) = erow l) (hi : i ≤ l.length) (hr : l.length + 1 ≤ cap) :
    (splice (splice cur ((i + 1) * 2) (erow (l.drop i))) (i * 2) (ecell x)).take ((l.length + 1) * 2) = erow (l.take i ++ x :: l.drop i) := by
  have hl : (erow (l.drop i)).length = (l.length - i) * 2 := by rw [erow_length, List.length_drop]
  have h1 : cur.take (i * 2) = erow (l.take i) := by
    rw [← erow_take, ← ht, List.take_take, Nat.min_eq_left (by omega)]
  have e1 : (splice cur ((i + 1) * 2) (erow (l.drop i))).take (i * 2) = erow (l.take i) := by
    unfold splice
    rw [List.take_append_of_le_length (by rw [List.length_take]; omega), List.take_take, Nat.min_eq_left (by omega), h1]
  have e2 : (splice cur ((i + 1) * 2) (erow (l.drop i))).drop (i * 2 + 2) = erow (l.drop i) ++ cur.drop ((i + 1) * 2 + (erow (l.drop i)).length) := by
    unfold splice
    rw [show i * 2 + 2 = (cur.take ((i + 1) * 2)).length by rw [List.length_take]; omega, List.drop_left]
  have e3 : splice (splice cur ((i + 1) * 2) (erow (l.drop i))) (i * 2) (ecell x) = (erow (l.take i) ++ ecell x ++ erow (l.drop i)) ++ cur.drop ((i + 1) * 2 + (erow (l.drop i)).length) := by
    rw [show ∀ A : List Value, splice A (i * 2) (ecell x) = A.take (i * 2) ++ (ecell x ++ A.drop (i * 2 + (ecell x).length)) from fun _ => rfl, e1, show (ecell x).length = 2 from rfl, e2]
    simp only [List.append_assoc]
  have e4 : erow (l.take i) ++ ecell x ++ erow (l.drop i) = erow (l.take i ++ x :: l.drop i) := by
    rw [erow_append, show erow (x :: l.drop i) = ecell x ++ erow (l.drop i) from rfl, List.append_assoc]
  rw [e3, e4, List.take_left']
  rw [erow_length, List.length_append, List.length_cons, List.length_take, List.length_drop]
  omega
theorem len_splice2 {cur cs : List Value} {o : Nat} (h : o + cs.length ≤ cur.length) : (splice cur o cs).length = cur.length := length_splice cur o cs h
theorem mixd : Try.prog.follows .mixedOrders = true := by kernel_rfl
set_option maxHeartbeats 4000000 in
theorem ins_room (base g cap : Nat) (cur : Array Value) (l : List En) (i vb : Nat) (x : En) (w : World) (hg : w.heap[g]? = some (.cells cur 46 (0, 0))) (hs : cur.size = cap * 2) (ht : cur.toList.take (l.length * 2) = erow l) (hx : w.heap[vb]? = some (oc x)) (hvg : vb ≠ g)
    (hi : i < l.length) (hr : l.length + 1 ≤ cap) (hm : cap ≤ maxLen) (hl : l.length ≤ 100000) (hbg : base ≤ g) :
    Calls Try.prog 32 #[.slice (some ⟨g, 0, none⟩) l.length cap, .int .i64 (i : Int), .slice (some ⟨vb, 0, none⟩) 1 1] w (Rowed2 base (.slice (some ⟨g, 0, none⟩) l.length cap) (l.take i ++ x :: l.drop i) w) := by
  have mixed := mixd
  have HL := Lib.hid hl
  have HG := Lib.hid hg
  have HX := Lib.hid hx
  have hc63 : cap ≤ 9223372036854775807 := by unfold maxLen at hm; exact hm
  have hov : ∀ lb cb, (callFunc 45 #[.slice (some ⟨vb, 0, none⟩) 1 1, .slice (some ⟨g, (i + 1) * 2, none⟩) lb cb]).run Try.prog w = .ok (.value (.bool false)) w := fun lb cb => by
    rw [run_callFunc_extern Try.func45 (by kernel_rfl) (by kernel_rfl) (by kernel_rfl) (e := Extern.SlicesOverlaps.overlaps #[22, 22] #[4]) (by kernel_rfl),
      Lib.run_overlaps_apart w 22 4 46 Try.underlying22 2 Try.sizeOf46 ⟨vb, 0, none⟩ ⟨g, (i + 1) * 2, none⟩ 1 1 lb cb hvg 46 46 2 cur.size (by simp [World.shape?, hx]) (by simp [World.shape?, hg]) (by omega) (free_obj hx 0) (free_obj hx 2)]
    rfl
  generalize hn : l.length = n at *
  have hni : (n : Int) ≤ 100000 := by omega
  have hi0 : (0 : Int) ≤ (i : Int) := by omega
  have hi1 : (i : Int) < (n : Int) := by omega
  have hi2 : ¬ ((i : Int) = (n : Int)) := by omega
  have hr1 : ¬ ((cap : Int) < (n : Int) + 1) := by omega
  have hb2 : ¬ (cap = i + 1) := by omega
  have hb3 : (i : Int) ≤ (n : Int) + 1 := by omega
  have hb4 : ¬ (cap = i) := by omega
  have hw1 : IntKind.i64.wrap ((i : Int) + 1) = (i : Int) + 1 := IntWalk.i64_in _ (by omega)
  have htn : ((i : Int) + 1).toNat = i + 1 := by omega
  have hin : i ≤ n := by omega
  have hb1 : (0 : Int) ≤ (i : Int) + 1 := by omega
  have HGd := Lib.hid (show w.drew.heap[g]? = some (.cells cur.toList.toArray 46 (0, 0)) by rw [Array.toArray_toList]; exact hg)
  have hdl : (erow (l.drop i)).length = (n - i) * 2 := by rw [erow_length, List.length_drop, hn]
  have HK := Lib.hid (show n - i = Nat.min (n + 1 - i) (n - i) by simp only [Nat.min_def]; split <;> omega)
  have HN1 := Lib.hid hdl
  have HSrc := Lib.hid (show ∀ j v, (erow (l.drop i))[j]? = some v → w.drew.cell? ((⟨g, i * 2, none⟩ : Addr).add j) = some v from fun j v hj => by
    rw [Go.WideShapes.add_plain]
    show w.cell? _ = _
    rw [cell_obj hg, ← Array.getElem?_toList]
    rw [← erow_drop, ← ht, List.getElem?_drop, List.getElem?_take] at hj
    split at hj
    · exact hj
    · cases hj)
  have HFit := Lib.hid (show (i + 1) * 2 + (erow (l.drop i)).length ≤ cur.toList.length by rw [hdl, Array.length_toList, hs]; omega)
  have HOne := Lib.hid (erow_one (l.drop i))
  have HLaid := Lib.hid (laid_mid cur.toList l i cap x (by rw [Array.length_toList, hs]) (by rw [hn]; exact ht) (by omega) (by omega))
  have HSl := Lib.hid (show (splice cur.toList ((i + 1) * 2) (erow (l.drop i))).length = cap * 2 from (len_splice2 HFit.out).trans (Array.length_toList.trans hs))
  have HK1 := Lib.hid (show 1 = Nat.min 1 (n + 1 - i) by simp only [Nat.min_def]; split <;> omega)
  have HFit2 := Lib.hid (show i * 2 + (ecell x).length ≤ (splice cur.toList ((i + 1) * 2) (erow (l.drop i))).length by rw [HSl.out]; show i * 2 + 2 ≤ _; omega)
  have HOne2 := Lib.hid (show ∀ v ∈ ecell x, v.oneCell' = true from fun v hv => by simp [ecell] at hv; rcases hv with rfl | rfl <;> rfl)
  have HM := Lib.hid hm
  clear hg hx hl hm hs ht hdl
  go_enter Try.func32, Try.ntmps32
  go_wp2_with (simp only [hov])
  go_region_law_o (refine Two.step_copy2 rfl _ _ 22 22 rfl 46 Try.underlying22 size46 g ((i + 1) * 2) (n - i) (cap - (i + 1)) ⟨g, i * 2, none⟩ (n + 1 - i) (cap - i) (n - i) (by simp [Act.eval, Act.put]) (by simp [Act.eval, Act.put]) cur.toList 46 HGd.out (erow (l.drop i)) HK.out HN1.out HSrc.out HFit.out HOne.out ?_; intro w4 hg4 hgr4)
  all_goals
    have HX4 := Lib.hid (show w4.heap[vb]? = some (oc x) from (hgr4.block vb (lt_of_obj HX.out) (fun e => hvg (by injection e))).trans HX.out)
    have HCk := Lib.hid (show ∀ j v, (ecell x)[j]? = some v → w4.cell? ((⟨vb, 0, none⟩ : Addr).add j) = some v from fun j v hj => by
      rw [Go.WideShapes.add_plain, Nat.zero_add, cell_obj HX4.out]
      match j with
      | 0 => exact hj
      | 1 => exact hj
      | j + 2 => simp [ecell] at hj)
    go_wp2_with (first | ((with_reducible refine Two.wpList_copy2 (P := Try.prog) rfl (.tmp 80) (.tmp 81) 22 22 rfl 46 Try.underlying22 size46 g (i * 2) (n + 1 - i) (cap - i) ⟨vb, 0, none⟩ 1 1 1 ?_ ?_ (splice cur.toList ((i + 1) * 2) (erow (l.drop i))) 46 hg4.out (ecell x) HK1.out ?_ HCk.out HFit2.out HOne2.out ?_); exact rfl; exact rfl; exact rfl; intro w5 hg5 hgr5) | fail)
    go_ret
    have hlen : (l.take i ++ x :: l.drop i).length = n + 1 := by rw [List.length_append, List.length_cons, List.length_take, List.length_drop]; omega
    have hgr : w.grownBy w5 (some g) := ⟨hgr5.os.trans hgr4.os, hgr5.tape.trans hgr4.tape, hgr5.output.trans hgr4.output, Nat.le_trans hgr4.size hgr5.size, fun k hk hne => (hgr5.block k (Nat.lt_of_lt_of_le hk hgr4.size) hne).trans (hgr4.block k hk hne)⟩
    refine ⟨some ⟨g, 0, none⟩, cap, by rw [hlen]; rfl, ⟨by rw [erow_length], .inr ⟨g, cap, _, rfl, hbg, hg5.out, by rw [hlen]; exact hr, HM.out, ?_, ?_⟩⟩, hgr⟩
    · rw [List.size_toArray, len_splice2 HFit2.out, HSl.out]
    · have h := HLaid.out
      rw [hn] at h
      rw [hlen]
      exact h
/-- A new row: first it is laid, then what stands behind. -/
theorem laid_new (R : List Value) (l : List En) (i : Nat) (x : En) (ht : R.take (i * 2) = erow (l.take i)) (hi : i ≤ l.length) :
    (splice (splice R (i * 2) (ecell x)) ((i + 1) * 2) (erow (l.drop i))).take ((l.length + 1) * 2) = erow (l.take i ++ x :: l.drop i) := by
  have hl : (erow (l.drop i)).length = (l.length - i) * 2 := by rw [erow_length, List.length_drop]
  have e0 : splice R (i * 2) (ecell x) = (erow (l.take i) ++ ecell x) ++ R.drop (i * 2 + 2) := by
    rw [show splice R (i * 2) (ecell x) = R.take (i * 2) ++ (ecell x ++ R.drop (i * 2 + 2)) from rfl, ht, List.append_assoc]
  have h1 : (erow (l.take i) ++ ecell x).length = (i + 1) * 2 := by rw [List.length_append, erow_length, List.length_take]; show _ + 2 = _; omega
  have e1 : (splice R (i * 2) (ecell x)).take ((i + 1) * 2) = erow (l.take i) ++ ecell x := by rw [e0, ← h1, List.take_left]
  have e3 : splice (splice R (i * 2) (ecell x)) ((i + 1) * 2) (erow (l.drop i)) = (erow (l.take i) ++ ecell x ++ erow (l.drop i)) ++ (splice R (i * 2) (ecell x)).drop ((i + 1) * 2 + (erow (l.drop i)).length) := by
    rw [show ∀ A : List Value, splice A ((i + 1) * 2) (erow (l.drop i)) = A.take ((i + 1) * 2) ++ (erow (l.drop i) ++ A.drop ((i + 1) * 2 + (erow (l.drop i)).length)) from fun _ => rfl, e1]
    simp only [List.append_assoc]
  have e4 : erow (l.take i) ++ ecell x ++ erow (l.drop i) = erow (l.take i ++ x :: l.drop i) := by
    rw [erow_append, show erow (x :: l.drop i) = ecell x ++ erow (l.drop i) from rfl, List.append_assoc]
  rw [e3, e4, List.take_left']
  rw [erow_length, List.length_append, List.length_cons, List.length_take, List.length_drop]
  omega
set_option maxHeartbeats 4000000 in
theorem ins_grow (base g cap : Nat) (cur : Array Value) (l : List En) (i vb : Nat) (x : En) (w : World) (hg : w.heap[g]? = some (.cells cur 46 (0, 0))) (hs : cur.size = cap * 2) (ht : cur.toList.take (l.length * 2) = erow l) (hx : w.heap[vb]? = some (oc x))
    (hi : i < l.length) (hr : cap < l.length + 1) (hm : l.length ≤ cap) (hl : l.length ≤ 100000) (hbw : base ≤ w.heap.size) :
    Calls Try.prog 32 #[.slice (some ⟨g, 0, none⟩) l.length cap, .int .i64 (i : Int), .slice (some ⟨vb, 0, none⟩) 1 1] w (Rowed2 base (.slice (some ⟨g, 0, none⟩) l.length cap) (l.take i ++ x :: l.drop i) w) := by
  have mixed := mixd
  obtain ⟨i0, hi0, hz0, hz1, hz2⟩ := info_parts info46
  obtain rfl : cap = l.length := by omega
  have HG := Lib.hid hg
  have HX := Lib.hid hx
  have hgw := lt_of_obj hg
  have hvw := lt_of_obj hx
  have htk : cur.toList.take (i * 2) = erow (l.take i) := by rw [← erow_take, ← ht, List.take_take, Nat.min_eq_left (by omega)]
  have hol : (erow (l.take i)).length = i * 2 := by rw [erow_length, List.length_take]; omega
  have hold : (Builtin.firstCells i0.size i (.slice (some ⟨g, 0, none⟩) i l.length)).run Try.prog w.drew = .ok (erow (l.take i)).toArray w.drew := by
    rw [hz1]
    exact run_firstCells_some (P := Try.prog) w.drew 2 i ⟨g, 0, none⟩ i l.length (erow (l.take i)) hol (fun j v hj => by
      rw [Go.WideShapes.add_plain, Nat.zero_add]
      show w.cell? _ = _
      rw [cell_obj hg, ← Array.getElem?_toList]
      rw [← htk, List.getElem?_take] at hj
      split at hj
      · exact hj
      · cases hj)
  have hrz : ∀ ty, (Builtin.append_ #[22, 3] ty #[.slice (some ⟨g, 0, none⟩) i l.length, .int .i64 ((l.length : Int) + 1 - (i : Int))]).run Try.prog w =
      .ok (.slice (some ⟨w.heap.size, 0, none⟩) (l.length + 1) (grownCap w (l.length + 1) l.length 46)) (w.drew.alloc (.cells ((erow (l.take i)).toArray ++ Builtin.zeroCells (Value.agg #[.string ⟨#[]⟩, .int .i64 0]).cells (l.length + 1 - i) ++ Builtin.zeroCells (Value.agg #[.string ⟨#[]⟩, .int .i64 0]).cells (grownCap w (l.length + 1) l.length 46 - (l.length + 1))) 46)) := fun ty => by
    have h := Lib.run_append_grow_zeros (P := Try.prog) w 22 3 ty 46 i0 _ .i64 .i64 Try.underlying22 Try.underlying3 hi0 hz0 (some ⟨g, 0, none⟩) i l.length (erow (l.take i)) hold (l.length + 1 - i) (by omega) (by omega) (by omega) (by omega) (by rw [hz2]; omega) (by rw [hz2, show i + (l.length + 1 - i) = l.length + 1 by omega]; exact growslice_fits (by omega) (by omega))
    rw [show i + (l.length + 1 - i) = l.length + 1 by omega] at h
    rw [show (l.length : Int) + 1 - (i : Int) = ((l.length + 1 - i : Nat) : Int) by omega]
    exact h
  have hGn : l.length + 1 ≤ grownCap w (l.length + 1) l.length 46 := grownCap_ge w _ _ _
  have hGm : grownCap w (l.length + 1) l.length 46 ≤ maxLen := grownCap_le_maxLen w _ _ _ (by unfold maxLen; omega)
  generalize grownCap w (l.length + 1) l.length 46 = G at *
  obtain ⟨R, hR⟩ : ∃ R : List Value, R.toArray = (erow (l.take i)).toArray ++ Builtin.zeroCells (Value.agg #[.string ⟨#[]⟩, .int .i64 0]).cells (l.length + 1 - i) ++ Builtin.zeroCells (Value.agg #[.string ⟨#[]⟩, .int .i64 0]).cells (G - (l.length + 1)) := ⟨_, Array.toArray_toList⟩
  have hRt : R.take (i * 2) = erow (l.take i) := by
    have e := congrArg Array.toList hR
    simp only [Array.toList_append] at e
    rw [e, List.append_assoc, ← hol, List.take_left]
  have hRl : R.length = G * 2 := by
    have e := congrArg Array.size hR
    simp only [Array.size_append, List.size_toArray, size_zeroCells, hol] at e
    have e2 : (Value.agg #[.string ⟨#[]⟩, .int .i64 0]).cells.size = 2 := rfl
    rw [e2] at e
    omega
  rw [← hR] at hrz
  have HRn := Lib.hid (heap_alloc_new w.drew (.cells R.toArray 46))
  have HLaid := Lib.hid (laid_new R l i x hRt (by omega))
  have hdl : (erow (l.drop i)).length = (l.length - i) * 2 := by rw [erow_length, List.length_drop]
  have HN1 := Lib.hid hdl
  have HOne := Lib.hid (erow_one (l.drop i))
  have HOne2 := Lib.hid (show ∀ v ∈ ecell x, v.oneCell' = true from fun v hv => by simp [ecell] at hv; rcases hv with rfl | rfl <;> rfl)
  have HFit1 := Lib.hid (show i * 2 + (ecell x).length ≤ R.length by rw [hRl]; show i * 2 + 2 ≤ _; omega)
  have HSl := Lib.hid (show (splice R (i * 2) (ecell x)).length = G * 2 from (len_splice2 HFit1.out).trans hRl)
  have HFit := Lib.hid (show (i + 1) * 2 + (erow (l.drop i)).length ≤ (splice R (i * 2) (ecell x)).length by rw [HSl.out, hdl]; omega)
  have HS0 := Lib.hid (show ∀ W : World, W.heap[g]? = w.heap[g]? → ∀ j v, (erow (l.drop i))[j]? = some v → W.cell? ((⟨g, i * 2, none⟩ : Addr).add j) = some v from fun W hW j v hj => by
    rw [Go.WideShapes.add_plain, cell_obj (hW.trans hg), ← Array.getElem?_toList]
    rw [← erow_drop, ← ht, List.getElem?_drop, List.getElem?_take] at hj
    split at hj
    · exact hj
    · cases hj)
  have HM := Lib.hid hGm
  generalize hn : l.length = n at *
  have HK1 := Lib.hid (show 1 = Nat.min 1 (n + 1 - i) by simp only [Nat.min_def]; split <;> omega)
  have HK := Lib.hid (show n - i = Nat.min (n - i) (n - i) by simp)
  have hni : (n : Int) ≤ 100000 := by omega
  have hi00 : (0 : Int) ≤ (i : Int) := by omega
  have hi1 : (i : Int) < (n : Int) := by omega
  have hi2 : ¬ ((i : Int) = (n : Int)) := by omega
  have hr1 : (n : Int) < (n : Int) + 1 := by omega
  have hw1 : IntKind.i64.wrap ((i : Int) + 1) = (i : Int) + 1 := IntWalk.i64_in _ (by omega)
  have htn : ((i : Int) + 1).toNat = i + 1 := by omega
  have hin : i ≤ n := by omega
  have hb1 : (0 : Int) ≤ (i : Int) + 1 := by omega
  have hb3 : (i : Int) ≤ (n : Int) := by omega
  have hG63 : G ≤ 9223372036854775807 := by unfold maxLen at hGm; exact hGm
  have hGi : ¬ (G = i) := by omega
  have hGim : ¬ (G = i + 1) := by omega
  have hci : ¬ (n = i) := by omega
  have HGR := Lib.hid (show w.grownBy (w.drew.alloc (.cells R.toArray 46)) none from ⟨rfl, rfl, rfl, by simp, fun k hk _ => (below_one w.drew (.cells R.toArray 46)).block k hk⟩)
  have HCk := Lib.hid (show ∀ j v, (ecell x)[j]? = some v → (w.drew.alloc (.cells R.toArray 46)).cell? ((⟨vb, 0, none⟩ : Addr).add j) = some v from fun j v hj => by
    rw [Go.WideShapes.add_plain, Nat.zero_add, cell_obj (((below_one w.drew (.cells R.toArray 46)).block vb hvw).trans HX.out)]
    match j with
    | 0 => exact hj
    | 1 => exact hj
    | j + 2 => simp [ecell] at hj)
  clear hg hx hl hm hs ht hdl hold hR hRt hRl hol htk hi0 hz0 hz1 hz2
  go_enter Try.func32, Try.ntmps32
  go_wp2_with (first
    | (at_builtin; refine Lib.wpList_append_run _ rfl _ _ _ _ rfl _ _ rfl rfl _ _ (hrz _) ?_)
    | ((with_reducible refine Two.wpList_copy2 (P := Try.prog) rfl (.tmp 43) (.tmp 44) 22 22 rfl 46 Try.underlying22 size46 w.heap.size (i * 2) (n + 1 - i) (G - i) ⟨vb, 0, none⟩ 1 1 1 ?_ ?_ R 46 ?_ (ecell x) HK1.out ?_ ?_ HFit1.out HOne2.out ?_); exact rfl; exact rfl; exact HRn.out; exact rfl; exact HCk.out; intro w4 hg4 hgr4)
    | fail)
  have HGR4 := Lib.hid (show w.grownBy w4 (some w.heap.size) from ⟨hgr4.os, hgr4.tape, hgr4.output, Nat.le_trans HGR.out.size hgr4.size, fun k hk hne => (hgr4.block k (Nat.lt_of_lt_of_le hk HGR.out.size) hne).trans (HGR.out.block k hk (by simp))⟩)
  have HSrc := Lib.hid (HS0.out w4.drew (HGR4.out.block g hgw (fun e => by injection e with e; omega)))
  go_region_law_o (refine Two.step_copy2 rfl _ _ 22 22 rfl 46 Try.underlying22 size46 w.heap.size ((i + 1) * 2) (n - i) (G - (i + 1)) ⟨g, i * 2, none⟩ (n - i) (n - i) (n - i) (by simp [Act.eval, Act.put]) (by simp [Act.eval, Act.put]) (splice R (i * 2) (ecell x)) 46 hg4.out (erow (l.drop i)) HK.out HN1.out HSrc.out HFit.out HOne.out ?_; intro w5 hg5 hgr5)
  all_goals
    go_wp2_with fail
    go_ret
    have hlen : (l.take i ++ x :: l.drop i).length = n + 1 := by rw [List.length_append, List.length_cons, List.length_take, List.length_drop]; omega
    have hgr : w.grownBy w5 (some g) := ⟨hgr5.os.trans HGR4.out.os, hgr5.tape.trans HGR4.out.tape, hgr5.output.trans HGR4.out.output, Nat.le_trans HGR4.out.size hgr5.size, fun k hk _ => (hgr5.block k (Nat.lt_of_lt_of_le hk HGR4.out.size) (fun e => by injection e with e; omega)).trans (HGR4.out.block k hk (fun e => by injection e with e; omega))⟩
    refine ⟨some ⟨w.heap.size, 0, none⟩, G, by rw [hlen]; rfl, ⟨by rw [erow_length], .inr ⟨w.heap.size, G, _, rfl, hbw, hg5.out, by rw [hlen]; exact hGn, HM.out, ?_, ?_⟩⟩, hgr⟩
    · rw [List.size_toArray, len_splice2 HFit.out, HSl.out]
    · have h := HLaid.out
      rw [hlen]
      exact h
theorem insert_any (base : Nat) (ao : Option Addr) (cp : Nat) (l : List En) (i vb : Nat) (x : En) (w : World) (hO : Own base (.slice ao l.length cp) l w) (hx : w.heap[vb]? = some (oc x)) (hvb : some vb ≠ (Value.slice ao l.length cp).ownBlock) (hi : i ≤ l.length) (hl : l.length ≤ 100000) (hb : base ≤ w.heap.size) :
    Calls Try.prog 32 #[.slice ao l.length cp, .int .i64 (i : Int), .slice (some ⟨vb, 0, none⟩) 1 1] w (Rowed2 base (.slice ao l.length cp) (l.take i ++ x :: l.drop i) w) := by
  rcases Nat.eq_or_lt_of_le hi with h | h
  · subst h
    rw [List.take_length, List.drop_length]
    exact ins_end base ao cp l vb x w hO hx hl hb
  · obtain ⟨hlen, ⟨e, h0⟩ | ⟨g, cap, cur, e, hbg, hg, hn, hm, hs, ht⟩⟩ := hO
    · omega
    · injection e with e1 e2 e3
      subst e1 e3
      rcases Nat.lt_or_ge cp (l.length + 1) with hr | hr
      · exact ins_grow base g cp cur l i vb x w hg hs ht hx h hr hn hl hb
      · exact ins_room base g cp cur l i vb x w hg hs ht hx (fun e => hvb (by rw [e]; rfl)) h hr hm hl hbg
end Go.Proofs.Yteieehjggiiljaa
