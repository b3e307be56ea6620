/- Layer 11, a part of the proofs: no statement of its own. -/
import Derived.Deep.RegionLaw
import Derived.BigQuiet
import Derived.Deep.QuietTactic
import Derived.Laws.Strings3
import Derived.Test.YthehblmjloohiaaGreatDoorM17
namespace Go.Proofs.YthehblmjloohiaaGreatDoor
set_option maxRecDepth 100000
open Go.RowKit
theorem stringslite_Clone (s : ByteArray) (w : World) (hlim : s.size ≤ 281474976710656) : Calls Tryz.prog 103 #[.string s] w fun e w' => e = .returned (.string s) ∧ Below w.heap.size w w' := Any.stringslite_Clone laysM316 s w hlim
theorem set_obj {w : World} {b : Nat} {x y : Value} {t : TypeId} (h : w.heap[b]? = some (.cells #[x] t (0, 0))) : (w.setCell ⟨b, 0, none⟩ y).heap[b]? = some (.cells #[y] t (0, 0)) := by
 have := heap_setCell_same w b 0 #[x] t y h
 simpa using this
structure Box (w : World) (g : Nat) (l : List (List UInt8)) (W : World) : Prop where
 row : ∃ ao cap, W.heap[g]? = some (.cells #[.slice ao l.length cap] 52 (0, 0)) ∧ Trow (g + 1) (.slice ao l.length cap) l W
 lo : w.heap.size ≤ g
 below : Below w.heap.size w W
theorem Box.kept {w W W' : World} {g : Nat} {l : List (List UInt8)} (h : Box w g l W) (hb : Below W.heap.size W W') : Box w g l W' := by
 obtain ⟨ao, cap, h1, h2⟩ := h.row
 exact ⟨⟨ao, cap, (hb.block _ (lt_of_obj h1)).trans h1, trow_below h2 hb⟩, h.lo, h.below.trans (hb.mono h.below.size)⟩
theorem box_more {w W w1 w4 : World} {g : Nat} {l : List (List UInt8)} {k : List UInt8} {ao ao4 : Option Addr} {cap cap4 : Nat} (h : Box w g l W) (hw : Below W.heap.size W w1)
  (hO : Trow (g + 1) (.slice ao l.length cap) l (w1.alloc (.cells #[.string (lstr k)] 9)))
  (hO4 : Trow (g + 1) (.slice ao4 (l.length + 1) cap4) (l ++ [k]) w4)
  (hg : (w1.alloc (.cells #[.string (lstr k)] 9)).grownBy w4 (Value.slice ao l.length cap).ownBlock) :
  Box w g (l ++ [k]) (w4.setCell ⟨g, 0, none⟩ (.slice ao4 (l.length + 1) cap4)) := by
 have h3 := (h.kept hw).kept (below_one w1 (.cells #[.string (lstr k)] 9))
 have hne : ∀ x, x ≤ g → some x ≠ (Value.slice ao l.length cap).ownBlock := fun x hx e => by have := trow_lt hO x e.symm; omega
 have hlt4 : ∀ j, (Value.slice ao4 (l.length + 1) cap4).ownBlock = some j → j ≠ g := fun j hj e => by have := trow_lt hO4 j hj; omega
 obtain ⟨a0, c0, hk, _⟩ := h3.row
 have hk4 := grown_obj hg hk (hne g (Nat.le_refl _))
 have lo := h.lo
 have hl : (l ++ [k]).length = l.length + 1 := by simp
 refine ⟨⟨ao4, cap4, ?_, ?_⟩, lo, ?_⟩
 ·rw [hl]; exact set_obj hk4
 ·rw [hl]
  refine World.ownsRow.kept hO4 (?_ : w4.grownBy _ (some g)) (.inr fun e => ?_)
  ·exact ⟨rfl, rfl, rfl, by simp [World.setCell], fun j hj hne => heap_setCell_other w4 ⟨g, 0, none⟩ j _ (fun e => hne (by rw [e]))⟩
  ·exact hlt4 g e rfl
 ·refine Below.setCell ?_ lo _
  exact h3.below.grown hg h3.below.size (fun j hj => by have := trow_lt hO j hj; omega)
theorem box_mid {w W w1 w4 : World} {g : Nat} {l : List (List UInt8)} {k : List UInt8} {ao : Option Addr} {cap : Nat} (h : Box w g l W) (hw : Below W.heap.size W w1)
  (hO : Trow (g + 1) (.slice ao l.length cap) l (w1.alloc (.cells #[.string (lstr k)] 9))) (hg : (w1.alloc (.cells #[.string (lstr k)] 9)).grownBy w4 (Value.slice ao l.length cap).ownBlock) :
  (∃ v, w4.heap[g]? = some (.cells #[v] 52 (0, 0))) ∧ Below w.heap.size w w4 := by
 have h3 := (h.kept hw).kept (below_one w1 (.cells #[.string (lstr k)] 9))
 obtain ⟨a0, c0, hk, _⟩ := h3.row
 have lo := h.lo
 exact ⟨⟨_, grown_obj hg hk fun e => by have := trow_lt hO g e.symm; omega⟩, h3.below.grown hg h3.below.size (fun j hj => by have := trow_lt hO j hj; omega)⟩
theorem step_appt {ops : Array Oper} {o : Oper} {a : Act} {w : World} {K : Act → World → Prop} {E : Prop} {Q : Exit → Act → World → Prop} (hgd : o.guard = none) (s x : Operand)
  (ho : o.op = .call { callee := .builtin .append, args := #[s, x], argTypes := #[52, 52] })
  (base : Nat) (v : Value) (ls : List (List UInt8)) (hs : a.eval s = v) (hown : Trow base v ls w)
  (b : Nat) (c : List UInt8) (hx : a.eval x = .slice (some ⟨b, 0, none⟩) 1 1) (hc : w.cell? ⟨b, 0, none⟩ = some (.string (lstr c))) (hn : ls.length ≤ 1000000) (hbase : base ≤ w.heap.size)
  (h : ∀ ao' cap' w', Trow base (.slice ao' (ls.length + 1) cap') (ls ++ [c]) w' → w.grownBy w' v.ownBlock → K (a.put o.dst (.slice ao' (ls.length + 1) cap')) w') :
  if Region.wanted o (yielded ops a.tmps) = true then Oper.wp Tryz.prog o a w K Q else E := by
 have hw : Region.wanted o (yielded ops a.tmps) = true := by simp [Region.wanted, hgd]
 rw [if_pos hw]
 obtain ⟨i0, hi, hz0, hz1, hz2⟩ := info_parts info9c
 refine wp_append_own w s x 52 ho base 9 i0 (.string ⟨#[]⟩) 1 16 Tryz.underlying52 hi hz0 hz1 hz2 rfl (by decide) v ls.length (ls.map fun l => .string (lstr l)) hs hown ⟨b, 0, none⟩ 1 1 [.string (lstr c)] hx rfl ?_ ?_ (by unfold maxLen; omega) (by omega) hbase ?_
 ·intro j y hj
  match j with
  | 0 => simp at hj; subst hj; simpa [Addr.add] using hc
  | j + 1 => simp at hj
 ·intro y hy; simp at hy; subst hy; rfl
 ·intro v' w' hown' hg _
  have hB' : Trow base v' (ls ++ [c]) w' := by
   unfold Trow
   rw [List.length_append, List.map_append]
   exact hown'
  obtain ⟨ao', cap', rfl⟩ := trow_form hB'
  rw [List.length_append] at hB' ⊢
  exact h ao' cap' w' hB' hg
def Tells (w : World) (g : Nat) (l : List (List UInt8)) (e : Ending) (W : World) : Prop := e = .returned (.tuple #[]) ∧ Box w g l W
set_option maxHeartbeats 4000000 in
theorem tell_any (w W : World) (g : Nat) (XL : List (List UInt8)) (k : List UInt8) (hk : k.length ≤ 140737488355328) (hX : XL.length ≤ 100) (HB : Box w g XL W) :
  Calls Tryz.prog 138 #[.string (lstr k), .pointer (some ⟨g, 0, none⟩)] W (Tells w g (XL ++ [k])) := by
 have HC := Lib.hid (fun W1 => clone_any (lstr k) W1 (by rw [lstr_size]; omega))
 have HLen := Lib.hid hX
 have HK5 := Lib.hid HB
 obtain ⟨ao, cap, hk1, hk2⟩ := HB.row
 have ck5 : W.cell? ⟨g, 0, none⟩ = some (.slice ao XL.length cap) := cell_obj hk1 0
 have hgk := lt_of_obj hk1
 have HO5 := Lib.hid hk2
 clear hk1 hk2 HB hk hX
 go_enter Tryz.func138, Tryz.ntmps138
 go_wp2_with fail
 go_region_law (first
   | (refine step_appt rfl _ _ rfl (g + 1) _ XL (by rfl) HO3.out w1.heap.size k (by rfl) (by simp) (Nat.le_trans HLen.out (by decide)) HZ.out ?_; intro ao4 cap4 w4 hown4 hgrow4; have HK4 := Lib.hid (box_more HK5.out hw1 HO3.out hown4 hgrow4); have hmid := box_mid HK5.out hw1 HO3.out hgrow4; have HB4 := Lib.hid hmid.2; obtain ⟨v4, hk4⟩ := hmid.1; have ck4 := cell_obj hk4 0; have fk4 := free_obj hk4 0; clear hown4 hgrow4 hk4 hmid)
   | (go_simp; (with_reducible refine (HC.out _).mono ?_); rintro e w1 ⟨rfl, hw1d⟩; have hw1 := below_drew hw1d; have ck1 := (hw1.cell (p := ⟨g, 0, none⟩) hgk).trans ck5; have hgk1 := Nat.lt_of_lt_of_le hgk hw1.size; have HB3 := Lib.hid (hw1.trans ((below_one w1 (.cells #[.string (lstr k)] 9)).mono hw1.size)); have HO3 := Lib.hid (trow_below (trow_below HO5.out hw1) (below_one w1 (.cells #[.string (lstr k)] 9))); have HZ := Lib.hid (Nat.le_trans (Nat.succ_le_of_lt hgk) HB3.out.size)))
 all_goals
  go_wp2_with fail
  go_end0
  exact ⟨rfl, HK4.out⟩
end Go.Proofs.YthehblmjloohiaaGreatDoor

namespace Nm
theorem split_path {p : List UInt8} {ns : List (List UInt8)} (h : split p = some ns) : p = pathOf ns ∧ ns.length ≤ 8 ∧ ns.all right = true := by
 have h1 := join_split h
 unfold join at h1
 split at h1
 ·rename_i hx
  cases h1; exact ⟨rfl, hx⟩
 ·cases h1
theorem path_split {ns : List (List UInt8)} (h8 : ns.length ≤ 8) (hr : ns.all right = true) : split (pathOf ns) = some ns := split_join (by unfold join; rw [if_pos ⟨h8, hr⟩])
theorem isPrefixOf_iff (x y : List (List UInt8)) : x.isPrefixOf y = true ↔ ∃ z, y = x ++ z := by
 induction x generalizing y with
 | nil => exact ⟨fun _ => ⟨y, rfl⟩, fun _ => rfl⟩
 | cons a x ih =>
  cases y with
  | nil => exact ⟨(fun h => by cases h), (fun ⟨z, h⟩ => by cases h)⟩
  | cons b y =>
   show (a == b && x.isPrefixOf y) = true ↔ _
   rw [Bool.and_eq_true, ih, beq_iff_eq]
   constructor
   ·rintro ⟨rfl, z, rfl⟩; exact ⟨z, rfl⟩
   ·rintro ⟨z, h⟩; cases h; exact ⟨rfl, z, rfl⟩
structure Parted (a p n : List UInt8) : Prop where
 inside : within p a = true
 not : within a p = false
 right : right n = true
 deep : p ≠ [47] → a = p ++ [47] ++ n
 flat : p = [47] → a = 47 :: n
end Nm

namespace Go.Proofs.YthehblmjloohiaaGreatDoor
set_option maxRecDepth 100000
open Go.RowKit
attribute [local go_sem 9000] sem_stralike sem_strnot
theorem ix_no : ∀ l : List UInt8, Lib.indexByte l 47 < 0 → Nm.pieces l = [l]
 | [], _ => rfl
 | x :: l, h => by
  unfold Lib.indexByte at h
  unfold Nm.pieces
  by_cases hx : x = 47
  ·subst hx; simp at h
  ·have hb : (x == 47) = false := beq_eq_false_iff_ne.2 hx
   rw [hb] at h
   simp only [Bool.false_eq_true, if_false] at h
   have hl : Lib.indexByte l 47 < 0 := by
    have hge := Lib.indexByte_ge l 47
    split at h
    ·rename_i h2; rw [beq_iff_eq] at h2; omega
    ·omega
   rw [if_neg hx, ix_no l hl]
theorem ix_yes : ∀ l : List UInt8, 0 ≤ Lib.indexByte l 47 → ∃ i : Nat, Lib.indexByte l 47 = i ∧ i < l.length ∧ Nm.pieces l = l.take i :: Nm.pieces (l.drop (i + 1))
 | [], h => by simp [Lib.indexByte] at h
 | x :: l, h => by
  unfold Lib.indexByte at h ⊢
  by_cases hx : x = 47
  ·subst hx
   exact ⟨0, by simp, by simp, by simp [Nm.pieces]⟩
  ·have hb : (x == 47) = false := beq_eq_false_iff_ne.2 hx
   rw [hb] at h ⊢
   simp only [Bool.false_eq_true, if_false] at h ⊢
   have hge := Lib.indexByte_ge l 47
   by_cases h2 : (Lib.indexByte l 47 == -1) = true
   ·rw [if_pos h2] at h; omega
   ·rw [if_neg h2] at h ⊢
    rw [beq_iff_eq] at h2
    obtain ⟨i, hi, hlt, hp⟩ := ix_yes l (by omega)
    refine ⟨i + 1, by omega, by simp; omega, ?_⟩
    rw [show Nm.pieces (x :: l) = (if x = 47 then [] :: Nm.pieces l else match Nm.pieces l with | [] => [[x]] | c :: cs => (x :: c) :: cs) from rfl, if_neg hx, hp]
    rfl
theorem index_any (s : ByteArray) (w : World) : Calls Tryz.prog 188 #[.string s, .string ⟨#[47]⟩] w fun e w' => e = .returned (.int .i64 (Lib.indexByte s.data.toList 47)) ∧ w' = w := by
 cases ha : talike ⟨#[47]⟩ s with
 | true =>
  have hz : Lib.indexByte s.data.toList 47 = 0 := by
   have e : s = ⟨#[47]⟩ := (of_decide_eq_true ha).symm
   rw [e]; decide
  rw [hz]
  clear hz
  go_enter Tryz.func188, Tryz.ntmps188
  go_wp2_with fail
  go_ret
  exact ⟨rfl, rfl⟩
 | false =>
  have HI := Lib.hid (fun w => ib50 s 47 w)
  go_enter Tryz.func188, Tryz.ntmps188
  go_wp2_with fail
  refine (HI.out _).mono ?_
  rintro e w1 ⟨rfl, rfl⟩
  dsimp only
  go_wp2_with fail
  go_ret
  exact ⟨rfl, rfl⟩
structure CutIs (s a b : ByteArray) (f : Bool) : Prop where
 sep : f = true → Nm.pieces s.data.toList = a.data.toList :: Nm.pieces b.data.toList
 not : f = false → Nm.pieces s.data.toList = [a.data.toList]
 la : a.size ≤ s.size
 lb : b.size ≤ s.size
theorem cut_no {s : ByteArray} (h : Lib.indexByte s.data.toList 47 < 0) : CutIs s s ⟨#[]⟩ false :=
 ⟨(fun h => by cases h), (fun _ => ix_no _ h), Nat.le_refl _, Nat.zero_le _⟩
theorem cut_yes {s : ByteArray} {i : Nat} (hi : i < s.data.toList.length) (hp : Nm.pieces s.data.toList = s.data.toList.take i :: Nm.pieces (s.data.toList.drop (i + 1))) : CutIs s (s.extract 0 i) (s.extract (i + 1) s.size) true := by
 have hl : s.data.toList.length = s.size := Array.length_toList
 refine ⟨fun _ => ?_, (fun h => by cases h), ?_, ?_⟩
 ·rw [hp, ByteArray.data_extract, ByteArray.data_extract, Array.toList_extract, Array.toList_extract, List.extract_eq_take_drop, List.extract_eq_take_drop]
  rw [List.drop_zero, Nat.sub_zero, List.take_of_length_le (i := s.size - (i + 1)) (by rw [List.length_drop]; omega)]
 ·rw [ByteArray.size_extract]; omega
 ·rw [ByteArray.size_extract]; omega
theorem cut35_any (s : ByteArray) (w : World) (hs : s.size ≤ 140737488355328) : Calls Tryz.prog 190 #[.string s, .string ⟨#[47]⟩] w fun e w' => (∃ a b f, e = .returned (.tuple #[.string a, .string b, .bool f]) ∧ CutIs s a b f) ∧ ∃ n, w' = w.drewN n := by
 have HI := Lib.hid (fun w => index_any s w)
 have HN := Lib.hid (fun h => cut_no (s := s) h)
 have HY := Lib.hid (ix_yes s.data.toList)
 have HC := Lib.hid (fun i => cut_yes (s := s) (i := i))
 have hl : s.data.toList.length = s.size := Array.length_toList
 generalize Lib.indexByte s.data.toList 47 = z at *
 by_cases hz : z < 0
 ·go_enter Tryz.func190, Tryz.ntmps190
  go_wp2_with fail
  refine (HI.out _).mono ?_
  rintro e w1 ⟨rfl, rfl⟩
  dsimp only
  go_wp2_with fail
  go_ret3
  exact ⟨⟨_, _, _, rfl, HN.out hz⟩, 0, rfl⟩
 ·obtain ⟨i, rfl, hi, hp⟩ := HY.out (by omega)
  have HF := Lib.hid (HC.out i hi hp)
  rw [hl] at hi
  have c1 : (0 : Int) ≤ (i : Int) := by omega
  have c2 : (i : Int) ≤ (s.size : Int) := by omega
  have c3 : (0 : Int) ≤ (i : Int) + 1 := by omega
  have c4 : (i : Int) + 1 ≤ (s.size : Int) := by omega
  clear HN HY HC hp hl hz
  go_enter Tryz.func190, Tryz.ntmps190
  go_wp2_with fail
  refine (HI.out _).mono ?_
  rintro e w1 ⟨rfl, rfl⟩
  dsimp only
  go_wp2_with fail
  go_quiet (fail)
  go_wp2_with fail
  go_ret3
  exact ⟨⟨_, _, _, rfl, HF.out⟩, _, rfl⟩
theorem cut_any (s : ByteArray) (w : World) (hs : s.size ≤ 140737488355328) : Calls Tryz.prog 171 #[.string s, .string ⟨#[47]⟩] w fun e w' => (∃ a b f, e = .returned (.tuple #[.string a, .string b, .bool f]) ∧ CutIs s a b f) ∧ ∃ n, w' = w.drewN n := by
 go_enter Tryz.func171, Tryz.ntmps171
 go_wp2_with fail
 refine (cut35_any s _ hs).mono ?_
 rintro e w1 ⟨⟨a, b, f, rfl, hc⟩, n, rfl⟩
 dsimp only
 go_wp2_with fail
 go_ret3
 exact ⟨⟨_, _, _, rfl, hc⟩, _, rfl⟩
def slashed (s : ByteArray) : Bool := s.data.toList.head? == some 47
theorem slashed_is {s : ByteArray} : slashed s = (decide (1 ≤ s.size) && talike (s.extract 0 1) ⟨#[47]⟩) := by
 unfold slashed
 have hl : s.data.toList.length = s.size := Array.length_toList
 have he : (s.extract 0 1).data.toList = s.data.toList.take 1 := by
  rw [ByteArray.data_extract, Array.toList_extract, List.extract_eq_take_drop, List.drop_zero]
 have ha : talike (s.extract 0 1) ⟨#[47]⟩ = decide (s.data.toList.take 1 = [47]) := by
  unfold talike
  rw [← he]
  apply decide_eq_decide.2
  exact ⟨fun h => by rw [h], fun h => Go.WideShapes.bytes_inj h⟩
 rw [ha, ← hl]
 cases s.data.toList with
 | nil => rfl
 | cons x l =>
  show (some x == some (47 : UInt8)) = _
  by_cases hx : x = 47
  ·subst hx; simp
  ·have : (x == 47) = false := beq_eq_false_iff_ne.2 hx
   simp [hx]
theorem has_any (s : ByteArray) (w : World) (hs : s.size ≤ 140737488355328) : Calls Tryz.prog 217 #[.string s, .string ⟨#[47]⟩] w fun e w' => e = .returned (.bool (slashed s)) ∧ w' = w := by
 rw [slashed_is]
 by_cases h1 : 1 ≤ s.size
 ·have h1i : (1 : Int) ≤ (s.size : Int) := by omega
  go_enter Tryz.func217, Tryz.ntmps217
  go_wp2_with fail
  go_ret
  refine ⟨?_, rfl⟩
  simp [h1]
 ·have h1i : ¬ (1 : Int) ≤ (s.size : Int) := by omega
  go_enter Tryz.func217, Tryz.ntmps217
  go_wp2_with fail
  go_ret
  refine ⟨?_, rfl⟩
  simp
theorem slashed_yes {s : ByteArray} (h : slashed s = true) : 1 ≤ s.size ∧ s.data.toList = 47 :: (s.extract 1 s.size).data.toList := by
 unfold slashed at h
 have hl : s.data.toList.length = s.size := Array.length_toList
 have he : (s.extract 1 s.size).data.toList = s.data.toList.drop 1 := by
  rw [ByteArray.data_extract, Array.toList_extract, List.extract_eq_take_drop, List.take_of_length_le (by rw [List.length_drop]; omega)]
 rw [he, ← hl]
 cases hd : s.data.toList with
 | nil => rw [hd] at h; simp at h
 | cons x l =>
  rw [hd] at h
  simp at h
  subst h
  simp
theorem slashed_no {s : ByteArray} (h : slashed s = false) : Nm.split s.data.toList = none := by
 unfold slashed at h
 have hne := beq_eq_false_iff_ne.1 h
 refine Nm.split_no (fun e => hne (by rw [e]; rfl)) ?_
 cases hd : s.data.toList with
 | nil => left; rfl
 | cons x l => right; rw [hd] at hne; simpa using hne
theorem cutp34_any (s : ByteArray) (w : World) (hs : s.size ≤ 140737488355328) : Calls Tryz.prog 189 #[.string s, .string ⟨#[47]⟩] w fun e w' => e = .returned (.tuple #[.string (if slashed s then s.extract 1 s.size else s), .bool (slashed s)]) ∧ w' = w := by
 have HI := Lib.hid (fun w => has_any s w hs)
 have HY := Lib.hid (fun h => (slashed_yes (s := s) h).1)
 generalize slashed s = f at *
 cases f with
 | true =>
  have c1 : (1 : Int) ≤ (s.size : Int) := by have := HY.out rfl; omega
  go_enter Tryz.func189, Tryz.ntmps189
  go_wp2_with fail
  refine (HI.out _).mono ?_
  rintro e w1 ⟨rfl, rfl⟩
  dsimp only
  go_wp2_with fail
  go_ret2
  exact ⟨rfl, rfl⟩
 | false =>
  go_enter Tryz.func189, Tryz.ntmps189
  go_wp2_with fail
  refine (HI.out _).mono ?_
  rintro e w1 ⟨rfl, rfl⟩
  dsimp only
  go_wp2_with fail
  go_ret2
  exact ⟨rfl, rfl⟩
theorem cutp_any (s : ByteArray) (w : World) (hs : s.size ≤ 140737488355328) : Calls Tryz.prog 170 #[.string s, .string ⟨#[47]⟩] w fun e w' => e = .returned (.tuple #[.string (if slashed s then s.extract 1 s.size else s), .bool (slashed s)]) ∧ w' = w := by
 have HI := Lib.hid (fun w => cutp34_any s w hs)
 generalize slashed s = f at *
 generalize (if f = true then s.extract 1 s.size else s) = r at *
 go_enter Tryz.func170, Tryz.ntmps170
 go_wp2_with fail
 refine (HI.out _).mono ?_
 rintro e w1 ⟨rfl, rfl⟩
 dsimp only
 go_wp2_with fail
 go_ret2
 exact ⟨rfl, rfl⟩
end Go.Proofs.YthehblmjloohiaaGreatDoor

namespace Go.Proofs.YthehblmjloohiaaGreatDoor
set_option maxRecDepth 100000
open Go.RowKit
attribute [local go_sem 9000] sem_stralike sem_strnot
def cand (r : List UInt8) : List (List UInt8) := if r = [] then [] else Nm.pieces r
theorem split_cand (r : List UInt8) : Nm.split (47 :: r) = if (cand r).all Nm.right = true ∧ (cand r).length ≤ 8 then some (cand r) else none := by
 unfold cand
 by_cases h : r = []
 ·subst h; rfl
 ·rw [if_neg h, Nm.split_is (by simp) (by simp) (by simpa using h)]
  rfl
structure Goes (L T : List (List UInt8)) (m : Bool) (r : ByteArray) : Prop where
 few : T.length ≤ 8
 right : T.all Nm.right = true
 all : L = T ++ (if m = true then Nm.pieces r.data.toList else [])
 size : r.size ≤ 140737488355328
theorem Goes.done {L T : List (List UInt8)} {r : ByteArray} (h : Goes L T false r) : L = T := by rw [h.all]; simp
theorem Goes.many {L T : List (List UInt8)} {r : ByteArray} (h : Goes L T true r) (h8 : T.length = 8) : ¬ (L.all Nm.right = true ∧ L.length ≤ 8) := by
 rintro ⟨_, h2⟩
 rw [h.all, if_pos rfl, List.length_append, h8] at h2
 exact Nm.pieces_ne r.data.toList (List.eq_nil_of_length_eq_zero (by omega))
theorem Goes.wrong {L T : List (List UInt8)} {r a b : ByteArray} {f : Bool} (h : Goes L T true r) (hc : CutIs r a b f) (ha : Nm.right a.data.toList = false) : ¬ (L.all Nm.right = true ∧ L.length ≤ 8) := by
 rintro ⟨h1, _⟩
 rw [h.all, if_pos rfl, List.all_append, Bool.and_eq_true] at h1
 have h2 := h1.2
 cases f with
 | true => rw [hc.sep rfl, List.all_cons, ha] at h2; cases h2
 | false => rw [hc.not rfl, List.all_cons, ha] at h2; cases h2
theorem Goes.next {L T : List (List UInt8)} {r a b : ByteArray} {f : Bool} (h : Goes L T true r) (h8 : T.length < 8) (hc : CutIs r a b f) (ha : Nm.right a.data.toList = true) : Goes L (T ++ [a.data.toList]) f b := by
 have hs := h.size
 have hlb := hc.lb
 refine ⟨by simp; omega, by rw [List.all_append, h.right]; simp [ha], ?_, by omega⟩
 rw [h.all, if_pos rfl]
 cases f with
 | true => rw [hc.sep rfl]; simp
 | false => rw [hc.not rfl]; simp
structure Walked (w0 : World) (g : Nat) (l : List UInt8) (e : Ending) (w' : World) : Prop where
 end_ : (∃ ns, e = .returned (.bool true) ∧ Nm.split l = some ns ∧ Box w0 g ns w') ∨ (e = .returned (.bool false) ∧ Nm.split l = none)
 below : Below w0.heap.size w0 w'
set_option maxHeartbeats 2000000 in
theorem walk_any (w0 W : World) (g : Nat) (p : ByteArray) (hp : p.size ≤ 140737488355328) (HB0 : Box w0 g [] W) : Calls Tryz.prog 137 #[.string p, .func (.func 138) #[] #[.pointer (some ⟨g, 0, none⟩)]] W (Walked w0 g p.data.toList) := by
 have HP := Lib.hid (fun w => cutp_any p w (by omega))
 have HB := Lib.hid HB0
 clear HB0
 have eg : ∀ args w, (callFunc 138 args).run Tryz.prog w = .ok (.enter 138 args) w := enters_of Tryz.func138 (by kernel_rfl) rfl
 cases hsl : slashed p with
 | false =>
  have HN := Lib.hid (slashed_no hsl)
  rw [hsl] at HP
  clear hsl
  go_enter Tryz.func137, Tryz.ntmps137
  go_wp2_with fail
  refine (HP.out _).mono ?_
  rintro e w1 ⟨rfl, rfl⟩
  dsimp only
  go_wp2_with fail
  go_ret
  exact ⟨.inr ⟨rfl, HN.out⟩, HB.out.below⟩
 | true =>
  have HY := Lib.hid (slashed_yes hsl)
  rw [hsl] at HP
  rw [if_pos rfl] at HP
  clear hsl
  rw [HY.out.2]
  have hr : (p.extract 1 p.size).size ≤ 140737488355328 := by rw [ByteArray.size_extract]; omega
  generalize p.extract 1 p.size = r at *
  have HS := Lib.hid (split_cand r.data.toList)
  have HG : Hid (Goes (cand r.data.toList) [] (!talike r ⟨#[]⟩) r) := by
   refine ⟨Nat.zero_le _, rfl, ?_, hr⟩
   unfold cand talike
   by_cases h : r = ⟨#[]⟩
   ·subst h; rfl
   ·have h2 : ¬ r.data.toList = [] := fun e => h (Go.WideShapes.bytes_inj e)
    rw [if_neg h2, decide_eq_false h]; simp
  generalize cand r.data.toList = L at *
  clear hr
  go_enter Tryz.func137, Tryz.ntmps137
  go_wp2_with fail
  refine (HP.out _).mono ?_
  rintro e w1 ⟨rfl, rfl⟩
  dsimp only
  go_wp2_with fail
  go_loopw [5, 7, 8] (fun v5 v7 v8 wr => ∃ (q : ByteArray) (m : Bool) (T : List (List UInt8)), v5 = .string q ∧ v7 = .bool m ∧ v8 = .int .i64 T.length ∧ Hid (Goes L T m q) ∧ Hid (Box w0 g T wr)) (fun _ _ v8 _ => 9 - (intOf v8).toNat)
  case atStart => exact ⟨r, _, [], rfl, rfl, rfl, HG, HB⟩
  case round =>
   obtain ⟨q, m, T, rfl, rfl, rfl, HG1, HB1⟩ := hrel
   cases m with
   | false =>
    go_wp2_with fail
    go_ret
    exact ⟨.inl ⟨T, rfl, by rw [HS.out, HG1.out.done, if_pos ⟨HG1.out.right, HG1.out.few⟩], HB1.out⟩, HB1.out.below⟩
   | true =>
    have HC := Lib.hid (fun w => cut_any q w (by have := HG1.out.size; omega))
    go_wp2_with fail
    refine (HC.out _).mono ?_
    rintro e w2 ⟨⟨a, b, f, rfl, hc⟩, n, rfl⟩
    have HC1 := Lib.hid hc
    have HB2 := Lib.hid (HB1.out.kept (bdn (Below.refl _ _) n))
    clear hc HC
    dsimp only
    have h8 := HG1.out.few
    by_cases h8e : T.length = 8
    ·have h8i : (T.length : Int) = 8 := by omega
     go_wp2_with fail
     go_ret
     exact ⟨.inr ⟨rfl, by rw [HS.out, if_neg (HG1.out.many h8e)]⟩, HB2.out.below⟩
    ·have h8i : ¬ (T.length : Int) = 8 := by omega
     have HR := Lib.hid (fun w => right_any a w (by have := HG1.out.size; have := HC1.out.la; omega))
     cases hra : Nm.right a.data.toList with
     | false =>
      have HRA := Lib.hid hra
      rw [hra] at HR
      clear hra
      go_wp2_with fail
      refine (HR.out _).mono ?_
      rintro e w3 ⟨rfl, hw3⟩
      have HB3 := Lib.hid (HB2.out.kept hw3)
      clear hw3
      dsimp only
      go_wp2_with fail
      go_ret
      exact ⟨.inr ⟨rfl, by rw [HS.out, if_neg (HG1.out.wrong HC1.out HRA.out)]⟩, HB3.out.below⟩
     | true =>
      have HRA := Lib.hid hra
      rw [hra] at HR
      clear hra
      go_wp2_with fail
      refine (HR.out _).mono ?_
      rintro e w3 ⟨rfl, hw3⟩
      have HB3 := Lib.hid (HB2.out.kept hw3)
      clear hw3
      have HT := Lib.hid (tell_any w0 w3 g T a.data.toList (by have := HG1.out.size; have := HC1.out.la; have h := Array.length_toList (xs := a.data); have h : a.data.toList.length = a.size := h; omega) (by omega) HB3.out)
      dsimp only
      go_wp2_with fail
      refine HT.out.mono ?_
      rintro e w4 ⟨rfl, hB4⟩
      have HB4 := Lib.hid hB4
      clear hB4
      dsimp only
      go_wp2_with fail
      go_roundw
      case rel => exact ⟨b, f, T ++ [a.data.toList], rfl, rfl, by simp, HG1.out.next (by omega) HC1.out HRA.out, HB4⟩
      case measure => simp [intOf]; omega
theorem box_new (w : World) : Box w w.heap.size [] (w.alloc (.cells #[.slice none 0 0] 52)) := by
 refine ⟨⟨none, 0, ?_, ?_⟩, Nat.le_refl _, below_one _ _⟩
 ·show (w.heap.push _)[w.heap.size]? = _
  simp
 ·exact World.ownsRow_nil _ _ _ _
theorem box_out {w W : World} {g : Nat} {l : List (List UInt8)} (h : Box w g l W) : ∃ ao cap, W.heap[g]? = some (.cells #[.slice ao l.length cap] 52 (0, 0)) ∧ Trow w.heap.size (.slice ao l.length cap) l W := by
 obtain ⟨ao, cap, h1, h2, h3⟩ := h.row
 have lo := h.lo
 refine ⟨ao, cap, h1, h2, ?_⟩
 rcases h3 with h3 | ⟨g', c, cur, h4, h5, h6⟩
 ·exact .inl h3
 ·exact .inr ⟨g', c, cur, h4, by omega, h6⟩
theorem split_any (p : ByteArray) (w : World) (hp : p.size ≤ 140737488355328) : Calls Tryz.prog 99 #[.string p] w (Splitted p.data.toList w) := by
 have HW := Lib.hid (fun W h => walk_any w W w.heap.size p hp h)
 have HB := Lib.hid (box_new w)
 go_enter Tryz.func99, Tryz.ntmps99
 go_wp2_with fail
 refine (HW.out _ HB.out).mono ?_
 rintro e w1 ⟨h | ⟨rfl, hn⟩, hB⟩
 ·obtain ⟨ns, rfl, hs, hbx⟩ := h
  have HS := Lib.hid hs
  obtain ⟨ao, cap, hk, ht⟩ := box_out hbx
  have ck := cell_obj hk 0
  have HT := Lib.hid ht
  have HBB := Lib.hid hB
  clear hk ht hbx hs hB
  dsimp only
  go_wp2_with fail
  go_ret2
  exact split_some HS.out HT.out HBB.out
 ·have HN := Lib.hid hn
  have HBB := Lib.hid hB
  clear hn hB
  dsimp only
  go_wp2_with fail
  go_ret2
  exact split_none HN.out HBB.out
end Go.Proofs.YthehblmjloohiaaGreatDoor

namespace Go.Proofs.YthehblmjloohiaaGreatDoor
set_option maxRecDepth 100000
open Go.RowKit Go.Less
attribute [local go_sem 9000] sem_eql sem_neq
theorem trow_cap {base n c : Nat} {a : Option Addr} {ls : List (List UInt8)} {w : World} (h : Trow base (.slice a n c) ls w) : n ≤ c := by
 obtain ⟨_, ⟨e, h0⟩ | ⟨g, cap', cur, e, _, _, h1, _⟩⟩ := h
 ·injection e with e1 e2 e3; omega
 ·injection e with e1 e2 e3; omega
theorem below_draws {B n : Nat} {w wr : World} (h : Below B w wr) : Below B w (wr.drewN n) := h.trans ⟨rfl, rfl, rfl, Nat.le_refl _, fun _ _ => rfl⟩
theorem place_end (l : List Fs.Item) (ps : List ByteArray) (n : ByteArray) : Fs.place l (ps ++ [n]) = match Fs.walk l 1 ps with
  | .error e => .error e
  | .ok d => if (Fs.nodeD l d).kind ≠ 2 then .error 10 else .ok (d, n) := by
 unfold Fs.place
 rw [show (ps ++ [n]).getLast? = some n by simp, List.dropLast_concat]
 rfl
end Go.Proofs.YthehblmjloohiaaGreatDoor

namespace Go.Proofs.YthehblmjloohiaaGreatDoor
set_option maxRecDepth 100000
open Go.RowKit Go.Less
attribute [local go_sem 9000] sem_eql sem_neq
theorem place_code (l : List Fs.Item) (ns : List ByteArray) : (∃ r, Fs.place l ns = .ok r) ∨ Fs.place l ns = .error 5 ∨ Fs.place l ns = .error 10 ∨ Fs.place l ns = .error 4 := by
 rcases Gr.snoc_cases ns with rfl | ⟨ps, x, rfl⟩
 ·exact .inr (.inl rfl)
 ·rw [place_end]
  rcases walk_code l ps 1 with ⟨j, h⟩ | h | h
  ·rw [h]
   by_cases hk : (Fs.nodeD l j).kind ≠ 2
   ·simp only [if_pos hk]; exact .inr (.inr (.inl trivial))
   ·simp only [if_neg hk]; exact .inl ⟨_, rfl⟩
  ·rw [h]; exact .inr (.inr (.inl rfl))
  ·rw [h]; exact .inr (.inr (.inr rfl))
end Go.Proofs.YthehblmjloohiaaGreatDoor

namespace Go.Proofs.YthehblmjloohiaaGreatDoor
set_option maxRecDepth 100000
open Go.RowKit Go.Less
attribute [local go_sem 9000] sem_eql sem_neq
structure Eb (w : World) (a : Option Addr) (n c : Nat) (nx : Int) (W : World) : Prop where
 box : W.heap[w.heap.size]? = some (.cells #[.slice a n c, .int .i64 nx] 29 (0, 0))
 res : W.heap[w.heap.size + 1]? = some (.cells #[.slice none 0 0, .int .i64 0] 29 (0, 0))
 below : Below w.heap.size w W
theorem Eb.kept {w W W' : World} {a : Option Addr} {n c : Nat} {nx : Int} (h : Eb w a n c nx W) (hb : Below W.heap.size W W') : Eb w a n c nx W' :=
 ⟨(hb.block _ (lt_of_obj h.box)).trans h.box, (hb.block _ (lt_of_obj h.res)).trans h.res, h.below.trans (hb.mono h.below.size)⟩
theorem items_keep {a : Option Addr} {n p : Nat} {L : List MI} {W : World} {a' : Option Addr} {n' c' : Nat} {z : Int} (h : Items a n L W) (hp : W.heap[p]? = some (.cells #[.slice a' n' c', .int .i64 z] 29 (0, 0))) (v0 v1 : Value) :
  Items a n L ((W.setCell ⟨p, 0, none⟩ v0).setCell ⟨p, 1, none⟩ v1) := by
 have hk : ∀ q, q ≠ p → ((W.setCell ⟨p, 0, none⟩ v0).setCell ⟨p, 1, none⟩ v1).heap[q]? = W.heap[q]? := fun q hq => by
  rw [heap_setCell_other _ _ q _ (fun e => hq e), heap_setCell_other _ _ q _ (fun e => hq e)]
 refine ⟨h.count, fun i x hx => ?_, fun x hx => ?_⟩
 ·obtain ⟨b, off, e, hc⟩ := h.cell i x hx
  refine ⟨b, off, e, fun j v hj => ?_⟩
  by_cases hb : b = p
  ·subst hb
   have h4 := hc 4 _ rfl
   rw [cell_obj hp] at h4
   have : off + i * 6 + 4 < 2 := by
    rcases Nat.lt_or_ge (off + i * 6 + 4) 2 with h | h
    ·exact h
    ·rw [Array.getElem?_eq_none (by show 2 ≤ _; omega)] at h4; cases h4
   omega
  ·rw [← hc j v hj]; simp only [World.cell?, hk b hb]
 ·have hE := h.ents x hx
  refine ⟨hE.count, fun i hi => ?_⟩
  obtain ⟨b, off, e, h0, h1⟩ := hE.cell i hi
  by_cases hb : b = p
  ·subst hb
   rw [cell_obj hp] at h0
   generalize off + i * 2 = j at h0
   match j with
   | 0 => cases h0
   | 1 => cases h0
   | j + 2 => simp at h0
  ·exact ⟨b, off, e, by rw [← h0]; simp only [World.cell?, hk b hb], by rw [← h1]; simp only [World.cell?, hk b hb]⟩
theorem FsR.store {l : List Fs.Item} {nx : Int} {w W' : World} {a : Option Addr} {n c : Nat} {L : List MI} {a' : Option Addr} {n' c' : Nat} {z : Int} {p : Nat} (hl : its L = l) (hI : Items a L.length L W') (hn : n = L.length) (hb : Below w.heap.size w W')
  (hp : W'.heap[p]? = some (.cells #[.slice a' n' c', .int .i64 z] 29 (0, 0))) (hpw : w.heap.size ≤ p) : FsR l nx w (.returned (.agg #[.slice a n c, .int .i64 nx])) ((W'.setCell ⟨p, 0, none⟩ (.slice a n c)).setCell ⟨p, 1, none⟩ (.int .i64 nx)) := by
 subst hn
 exact ⟨a, c, L, hl, rfl, items_keep hI hp _ _, (hb.setCell (p := ⟨p, 0, none⟩) hpw _).setCell (p := ⟨p, 1, none⟩) hpw _⟩
end Go.Proofs.YthehblmjloohiaaGreatDoor

namespace Go.Proofs.YthehblmjloohiaaGreatDoor
set_option maxRecDepth 100000
open Go.RowKit Go.Less
attribute [local go_sem 9000] sem_eql sem_neq
def FewM (L : List MI) : Prop := ∀ x ∈ L, x.x.ents.length ≤ 1000
def cnt (es : List En) (i : Int) : Nat := es.countP fun e => decide (e.2 = i)
theorem cnt_le (es : List En) (i : Int) : cnt es i ≤ es.length := List.countP_le_length
theorem ents_at {b off n : Nat} {l : List En} {W : World} (h : Ents (some ⟨b, off, none⟩) n l W) {j : Nat} (hj : j < n) : ∃ x, l[j]? = some x ∧ W.cell? ⟨b, off + j * 2, none⟩ = some (.string x.1) ∧ W.cell? ⟨b, off + j * 2 + 1, none⟩ = some (.int .i64 x.2) := by
 obtain ⟨b', off', e, h0, h1⟩ := h.cell j hj
 obtain ⟨rfl, rfl⟩ : b' = b ∧ off' = off := by cases e; exact ⟨rfl, rfl⟩
 have hl : j < l.length := by rw [← h.count]; exact hj
 refine ⟨l[j], List.getElem?_eq_getElem hl, ?_, ?_⟩
 ·rw [h0, List.getD, List.getElem?_eq_getElem hl]; rfl
 ·rw [h1, List.getD, List.getElem?_eq_getElem hl]; rfl
end Go.Proofs.YthehblmjloohiaaGreatDoor

namespace Go.Proofs.YthehblmjloohiaaGreatDoor
set_option maxRecDepth 100000
open Go.RowKit Go.Less
attribute [local go_sem 9000] sem_eql sem_neq
def Dp (l : List Fs.Item) : Nat → Int → Prop
 | 0, i => (Fs.nodeD l i).ents = []
 | k + 1, i => ∀ e ∈ (Fs.nodeD l i).ents, Dp l k e.2
def vfold (V : En → Nat) (es : List En) : Nat := es.foldl (fun n e => max n (1 + V e)) 0
theorem vfold_snoc (V : En → Nat) (es : List En) (e : En) : vfold V (es ++ [e]) = max (vfold V es) (1 + V e) := by
 unfold vfold; rw [List.foldl_append]; rfl
theorem vfold_small {V : En → Nat} {es : List En} (h : ∀ e ∈ es, V e ≤ 100) : vfold V es ≤ 101 := by
 induction es using Nd.snoc_rec with
 | nil => exact Nat.zero_le _
 | append_singleton es e ih =>
  rw [vfold_snoc]
  have h1 := ih fun x hx => h x (List.mem_append_left _ hx)
  have h2 := h e (List.mem_append_right _ (List.mem_singleton.2 rfl))
  exact Nat.max_le.2 ⟨h1, by omega⟩
theorem deep_small (l : List Fs.Item) : ∀ (k : Nat) (i : Int), Fs.deep l k i ≤ k
 | 0, _ => Nat.le_refl _
 | k + 1, i => by
  have key : ∀ (es : List En) (a : Nat), a ≤ k + 1 → es.foldl (fun n e => max n (1 + Fs.deep l k e.2)) a ≤ k + 1 := by
   intro es
   induction es with
   | nil => exact fun a h => h
   | cons e es ih => exact fun a h => ih _ (Nat.max_le.2 ⟨h, by have := deep_small l k e.2; omega⟩)
  exact key _ 0 (Nat.zero_le _)
structure Nf (w : World) (a : Option Addr) (n c : Nat) (nx : Int) (p : Nat) (k m : Int) (d t : ByteArray) (ea : Option Addr) (ec : Nat) (es : List En) (W : World) : Prop where
 wb : Wb w a n c nx W
 nb : W.heap[p]? = some (.cells #[.int .i64 k, .int .i64 m, .string d, .string t, .slice ea es.length ec] 43 (0, 0))
 ents : Ents ea es.length es W
theorem Nf.kept {w : World} {a : Option Addr} {n c : Nat} {nx : Int} {p : Nat} {k m : Int} {d t : ByteArray} {ea : Option Addr} {ec : Nat} {es : List En} {W W' : World} (h : Nf w a n c nx p k m d t ea ec es W) (hb : Below W.heap.size W W') : Nf w a n c nx p k m d t ea ec es W' :=
 ⟨h.wb.kept hb, (hb.block _ (lt_of_obj h.nb)).trans h.nb, h.ents.below hb⟩
end Go.Proofs.YthehblmjloohiaaGreatDoor

namespace Go.Proofs.YthehblmjloohiaaGreatDoor
set_option maxRecDepth 100000
open Go.RowKit Go.Less
attribute [local go_sem 9000] sem_eql sem_neq
def fileR (l : List Fs.Item) (p : ByteArray) : Int × Nd.Node × Int :=
 if (findR l p).2.2 ≠ 0 then (0, (findR l p).2.1, (findR l p).2.2) else if (findR l p).2.1.kind = 2 then (0, Nd.none0, 11) else if (findR l p).2.1.kind = 3 then (0, Nd.none0, 16) else ((findR l p).1, (findR l p).2.1, 0)
end Go.Proofs.YthehblmjloohiaaGreatDoor
