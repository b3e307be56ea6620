/- Layer 11, a part of the proofs: no statement of its own. -/
import Derived.Maps.OwnSet
import Derived.Deep.RegionHeld3
import Derived.Test.YthehblmjloohiaaGreatDoorM31
namespace Go.Proofs.YthehblmjloohiaaGreatDoor
set_option maxRecDepth 100000
open Go.RowKit Go.Less Go.Maps
attribute [local go_sem 9000] sem_eql sem_neq
abbrev ik (a : Int) : Lit := .int .i64 a
theorem law3 : Keyed Tryz.prog 3 := int_keyed Tryz.underlying3
def upd {α : Type} (f : Int → Option α) (a : Int) (v : α) : Int → Option α := fun x => if x = a then some v else f x
def held (v : Value) : Option (DataW Value × List MemPlace) := some (.held v, [])
def Mp (w : World) (b n : Nat) (f : Int → Option Value) : Prop :=
 ∃ D : DataW Value, w.ownsMap Tryz.prog 3 held b n D ∧ ∀ a, (ik a).wf = true → (∀ z, D.atKey (ik a) (.held z) = .held ((f a).getD z)) ∧ Maps.has D (ik a) = (f a).isSome
theorem Mp.lt {w : World} {b n : Nat} {f : Int → Option Value} (h : Mp w b n f) : b < w.heap.size := by
 obtain ⟨D, ho, _⟩ := h; exact ho.lt
theorem Mp.kept {w w' : World} {b n : Nat} {f : Int → Option Value} (h : Mp w b n f) (hb : w'.heap[b]? = w.heap[b]?) : Mp w' b n f := by
 obtain ⟨D, ⟨es, c, h1, h2⟩, h3⟩ := h; exact ⟨D, ⟨es, c, hb.trans h1, h2⟩, h3⟩
theorem Mp.below {w w' : World} {b n : Nat} {f : Int → Option Value} (h : Mp w b n f) (hb : Below w.heap.size w w') : Mp w' b n f := h.kept (hb.block _ h.lt)
theorem Mp.made (w : World) : Mp (w.alloc (.map #[] 0)) w.heap.size 0 (fun _ => none) :=
 ⟨.map [], World.ownsMap_made w _ _ _, fun _ _ => ⟨fun _ => rfl, rfl⟩⟩
theorem Mp.look_ok {w : World} {b n : Nat} {f : Int → Option Value} (h : Mp w b n f) {t e : TypeId} (ht : Tryz.prog.underlying t = some (.map 3 e)) {z : Value} (hz : (zeroValue e).run Tryz.prog w = .ok z w) {a : Int} (ha : (ik a).wf = true) :
  (Instr.lookup t (.map (some b)) (.int .i64 a) true).run Tryz.prog w = .ok (.tuple #[(f a).getD z, .bool (f a).isSome]) w := by
 obtain ⟨D, ho, h2⟩ := h
 obtain ⟨v, ps, hr, hv⟩ := ho.look_ok law3 ht hz (zd := .held z) (zp := []) rfl (keyOf_int_mk Tryz.underlying3 ha)
 rw [(h2 a ha).1 z] at hv
 rw [hr, (h2 a ha).2]
 unfold held at hv
 injection hv with hv
 injection hv with hv _
 injection hv with hv
 rw [hv]
theorem ik_key (a : Int) : WideAt.IsKeyLit (ik a) := trivial
theorem Mp.store {w : World} {b n : Nat} {f : Int → Option Value} (h : Mp w b n f) {t e : TypeId} (ht : Tryz.prog.underlying t = some (.map 3 e)) (hn : n < maxLen) {a : Int} (ha : (ik a).wf = true) (v : Value) :
  ∃ w', (Instr.mapUpdate t (.map (some b)) (.int .i64 a) v).run Tryz.prog w = .ok () w' ∧ Mp w' b (n + 1) (upd f a v) ∧ w.mapTurned w' b := by
 obtain ⟨D, ho, h2⟩ := h
 have hm := ho.isMap
 obtain ⟨w', hr, h3, h4⟩ := ho.store law3 ht hn (keyOf_int_mk Tryz.underlying3 ha) (val := v) (d := .held v) (ps := []) rfl
 refine ⟨w', hr, ⟨_, h3, fun x hx => ?_⟩, h4⟩
 unfold upd
 by_cases hxa : x = a
 ·subst hxa
  rw [if_pos rfl]
  exact ⟨fun z => atKey_put_same hm (ik_key _) _ _, has_put_same hm (ik_key _) _⟩
 ·rw [if_neg hxa]
  have hne : ik x ≠ ik a := fun e => hxa (by injection e)
  exact ⟨fun z => (atKey_put_other hne _ _).trans ((h2 x hx).1 z), (has_put_other hne _).trans (h2 x hx).2⟩
theorem below_turned {w0 w w' : World} {b : Nat} (h : Below w0.heap.size w0 w) (ht : w.mapTurned w' b) (hb : w0.heap.size ≤ b) : Below w0.heap.size w0 w' := by
 have hg := ht.grown
 have hs : w.heap.size ≤ w'.heap.size := hg.size
 refine ⟨hg.os.trans h.os, hg.tape.trans h.tape, hg.output.trans h.output, Nat.le_trans h.size hs, fun k hk => ?_⟩
 rw [hg.block k (Nat.lt_of_lt_of_le hk h.size) (fun e => by injection e; omega)]
 exact h.block k hk
def fnv (k : Nat) : Value := .func (.func k) #[] #[]
def fdo : Int → Option Value := upd (upd (upd (upd (upd (upd (upd (upd (upd (upd (upd (fun _ => none) 1 (fnv 88)) 2 (fnv 89)) 3 (fnv 90)) 4 (fnv 91)) 5 (fnv 92)) 6 (fnv 93)) 7 (fnv 94)) 8 (fnv 95)) 9 (fnv 96)) 10 (fnv 97)) 11 (fnv 98)
theorem fdo_out {k : Int} (h : k < 1 ∨ 11 < k) : fdo k = none := by
 unfold fdo upd
 simp only
 repeat rw [if_neg (by omega)]
set_option maxHeartbeats 4000000 in
theorem doings_any (w : World) : Calls Tryz.prog 54 #[] w fun e w' => ∃ mb, e = .returned (.map (some mb)) ∧ Mp w' mb 11 fdo ∧ Below w.heap.size w w' := by
 have hmm := @run_makeMap Tryz.prog
 have M0 := Mp.made w
 have B0 := below_one w (.map #[] 0)
 obtain ⟨w1, hr1, M1, ht1⟩ := M0.store Tryz.underlying107 (by decide) (a := 1) (by decide) (fnv 88)
 have B1 := below_turned B0 ht1 (Nat.le_refl _)
 clear ht1
 obtain ⟨w2, hr2, M2, ht2⟩ := M1.store Tryz.underlying107 (by decide) (a := 2) (by decide) (fnv 89)
 have B2 := below_turned B1 ht2 (Nat.le_refl _)
 clear ht2
 obtain ⟨w3, hr3, M3, ht3⟩ := M2.store Tryz.underlying107 (by decide) (a := 3) (by decide) (fnv 90)
 have B3 := below_turned B2 ht3 (Nat.le_refl _)
 clear ht3
 obtain ⟨w4, hr4, M4, ht4⟩ := M3.store Tryz.underlying107 (by decide) (a := 4) (by decide) (fnv 91)
 have B4 := below_turned B3 ht4 (Nat.le_refl _)
 clear ht4
 obtain ⟨w5, hr5, M5, ht5⟩ := M4.store Tryz.underlying107 (by decide) (a := 5) (by decide) (fnv 92)
 have B5 := below_turned B4 ht5 (Nat.le_refl _)
 clear ht5
 obtain ⟨w6, hr6, M6, ht6⟩ := M5.store Tryz.underlying107 (by decide) (a := 6) (by decide) (fnv 93)
 have B6 := below_turned B5 ht6 (Nat.le_refl _)
 clear ht6
 obtain ⟨w7, hr7, M7, ht7⟩ := M6.store Tryz.underlying107 (by decide) (a := 7) (by decide) (fnv 94)
 have B7 := below_turned B6 ht7 (Nat.le_refl _)
 clear ht7
 obtain ⟨w8, hr8, M8, ht8⟩ := M7.store Tryz.underlying107 (by decide) (a := 8) (by decide) (fnv 95)
 have B8 := below_turned B7 ht8 (Nat.le_refl _)
 clear ht8
 obtain ⟨w9, hr9, M9, ht9⟩ := M8.store Tryz.underlying107 (by decide) (a := 9) (by decide) (fnv 96)
 have B9 := below_turned B8 ht9 (Nat.le_refl _)
 clear ht9
 obtain ⟨w10, hr10, M10, ht10⟩ := M9.store Tryz.underlying107 (by decide) (a := 10) (by decide) (fnv 97)
 have B10 := below_turned B9 ht10 (Nat.le_refl _)
 clear ht10
 obtain ⟨w11, hr11, M11, ht11⟩ := M10.store Tryz.underlying107 (by decide) (a := 11) (by decide) (fnv 98)
 have B11 := below_turned B10 ht11 (Nat.le_refl _)
 clear ht11
 have HM := Lib.hid M11
 have HB := Lib.hid B11
 clear M0 B0 M1 B1 M2 B2 M3 B3 M4 B4 M5 B5 M6 B6 M7 B7 M8 B8 M9 B9 M10 B10 M11 B11
 unfold fnv at hr1 hr2 hr3 hr4 hr5 hr6 hr7 hr8 hr9 hr10 hr11
 go_enter Tryz.func54, Tryz.ntmps54
 go_wp2_with fail
 go_ret
 exact ⟨_, rfl, HM.out, HB.out⟩
end Go.Proofs.YthehblmjloohiaaGreatDoor

namespace Go.Proofs.YthehblmjloohiaaGreatDoor
set_option maxRecDepth 100000
open Go.RowKit
structure Names : Prop where
 right : ∀ (s : ByteArray) (w : World), s.size ≤ 140737488355328 → Calls Tryz.prog 172 #[.string s] w fun e w' => e = .returned (.bool (Nm.right s.data.toList)) ∧ Below w.heap.size w w'
 split : ∀ (p : ByteArray) (w : World), p.size ≤ 140737488355328 → Calls Tryz.prog 99 #[.string p] w (Splitted p.data.toList w)
 join : ∀ (a : Option Addr) (ln cn : Nat) (ss : List ByteArray) (w : World), Strs a ln ss w → ln ≤ 140737488355328 → ln ≤ cn → (∀ i, i < ss.length → (ss.getD i ByteArray.empty).size ≤ 140737488355328) → Calls Tryz.prog 187 #[.slice a ln cn] w fun e w' => e = .returned (.tuple #[.string (lstr (joinR (dat ss)).1), .int .i64 (joinR (dat ss)).2]) ∧ Below w.heap.size w w'
 parent : ∀ (p : ByteArray) (w : World), p.size ≤ 140737488355328 → Calls Tryz.prog 165 #[.string p] w (ParentPost p.data.toList w)
 within : ∀ (a b : ByteArray) (w : World), a.size ≤ 140737488355328 → b.size ≤ 140737488355328 → Calls Tryz.prog 124 #[.string a, .string b] w (WithinPost a.data.toList b.data.toList w)
end Go.Proofs.YthehblmjloohiaaGreatDoor

namespace Go.Proofs.YthehblmjloohiaaGreatDoor
set_option maxRecDepth 100000
open Go.RowKit
attribute [local go_sem 9000] sem_stralike sem_strnot
theorem getD_ext {α : Type} {l m : List α} {d : α} (hl : l.length = m.length) (h : ∀ i, i < l.length → l.getD i d = m.getD i d) : l = m := by
 apply List.ext_getElem hl
 intro i h1 h2
 have := h i h1
 rwa [List.getD, List.getD, List.getElem?_eq_getElem h1, List.getElem?_eq_getElem h2] at this
theorem drewN_add (w : World) (m n : Nat) : (w.drewN m).drewN n = w.drewN (m + n) := by unfold World.drewN; simp only [Nat.add_assoc]
theorem ret_bool {a b : Bool} (h : b = a) : Ending.returned (.bool a) = .returned (.bool b) := by rw [h]
def rowsAlike (a b : List ByteArray) : Bool := decide (a = b)
set_option maxRecDepth 100000 in
set_option maxHeartbeats 1000000 in
theorem pequal_any (a b : Option Addr) (la ca lb cb : Nat) (sa sb : List ByteArray) (w : World) (hA : Strs a la sa w) (hB : Strs b lb sb w) (hla : la ≤ 140737488355328) (hlb : lb ≤ 140737488355328) :
  Calls Tryz.prog 164 #[.slice a la ca, .slice b lb cb] w fun e w' => e = .returned (.bool (rowsAlike sa sb)) ∧ ∃ n, w' = w.drewN n := by
 have hl1 : (la : Int) ≤ 140737488355328 := by omega
 have hl2 : (lb : Int) ≤ 140737488355328 := by omega
 by_cases hne : la = lb
 ·subst hne
  go_enter Tryz.func164, Tryz.ntmps164
  go_wp2
  go_loopw [13] (fun i wr => ∃ k n : Nat, k ≤ la ∧ i = .int .i64 k ∧ wr = w.drewN n ∧ ∀ i, i < k → sa.getD i ByteArray.empty = sb.getD i ByteArray.empty) (fun i _ => la - (intOf i).toNat)
  case atStart => exact ⟨0, 0, by omega, rfl, rfl, fun i hi => by omega⟩
  case round =>
   obtain ⟨k, n, hk, rfl, rfl, hall⟩ := hrel
   have HA := Lib.hid hall
   clear hall
   by_cases hlt : k < la
   ·obtain ⟨b1, o1, rfl, hc1⟩ := hA.cell k hlt
    obtain ⟨b2, o2, rfl, hc2⟩ := hB.cell k hlt
    have hk0 : (k : Int) < (la : Int) := by omega
    by_cases he : sa.getD k ByteArray.empty = sb.getD k ByteArray.empty
    ·have HN := Lib.hid (show ∀ i, i < k + 1 → sa.getD i ByteArray.empty = sb.getD i ByteArray.empty from fun i hi => by
      rcases Nat.lt_or_ge i k with h | h
      ·exact HA.out i h
      ·obtain rfl : i = k := by omega
       exact he)
     have ha : talike (sa.getD k ByteArray.empty) (sb.getD k ByteArray.empty) = true := decide_eq_true he
     generalize sa.getD k ByteArray.empty = x at hc1 ha
     generalize sb.getD k ByteArray.empty = y at hc2 ha
     clear he
     go_wp2_with fail
     go_quiet (fail)
     go_wp2_with fail
     go_roundw
     case rel => exact ⟨k + 1, _, by omega, by go_num, rfl, HN.out⟩
     case measure => simp [intOf]; omega
    ·have HD := Lib.hid (show rowsAlike sa sb = false from decide_eq_false fun e => he (by rw [e]))
     have ha : talike (sa.getD k ByteArray.empty) (sb.getD k ByteArray.empty) = false := decide_eq_false he
     generalize sa.getD k ByteArray.empty = x at hc1 ha
     generalize sb.getD k ByteArray.empty = y at hc2 ha
     clear he
     go_wp2_with fail
     go_quiet (fail)
     go_wp2_with fail
     go_ret
     exact ⟨ret_bool HD.out, _, drewN_add _ _ _⟩
   ·obtain rfl : k = la := by omega
    have HD := Lib.hid (show rowsAlike sa sb = true from decide_eq_true (getD_ext (by rw [← hA.count, ← hB.count]) fun i hi => HA.out i (by rw [hA.count]; exact hi)))
    go_wp2_with fail
    go_ret
    exact ⟨ret_bool HD.out, _, rfl⟩
 ·have hne' : ¬ (la : Int) = (lb : Int) := by omega
  have HD := Lib.hid (show rowsAlike sa sb = false from decide_eq_false fun e => hne (by rw [hA.count, hB.count, e]))
  go_enter Tryz.func164, Tryz.ntmps164
  go_wp2
  go_ret
  exact ⟨ret_bool HD.out, 0, rfl⟩
theorem prefix_take {xs ys : List (List UInt8)} (hl : xs.length ≤ ys.length) : xs.isPrefixOf ys = rowsAlike ((ys.map lstr).take xs.length) (xs.map lstr) := by
 unfold rowsAlike
 rw [← List.map_take]
 have hinj : ∀ u v : List (List UInt8), u.map lstr = v.map lstr ↔ u = v := fun u v => by
  constructor
  ·intro h
   have := congrArg dat h
   rwa [dat_lstr, dat_lstr] at this
  ·intro h; rw [h]
 rw [decide_eq_decide.2 (hinj _ _)]
 by_cases h : ys.take xs.length = xs
 ·have e := List.take_append_drop xs.length ys
  rw [h] at e
  rw [decide_eq_true h, (Nm.isPrefixOf_iff xs ys).2 ⟨ys.drop xs.length, e.symm⟩]
 ·rw [decide_eq_false h, Bool.eq_false_iff]
  intro h2
  obtain ⟨z, rfl⟩ := (Nm.isPrefixOf_iff xs ys).1 h2
  exact h (by simp)
set_option maxHeartbeats 4000000 in
theorem inside_any (a b : ByteArray) (w : World) (ha : a.size ≤ 140737488355328) (hb : b.size ≤ 140737488355328) : Calls Tryz.prog 124 #[.string a, .string b] w (WithinPost a.data.toList b.data.toList w) := by
 go_enter Tryz.func124, Tryz.ntmps124
 go_wp2_with fail
 refine (split_any a w ha).mono ?_
 rintro e w1 hX
 have HB := Lib.hid hX.below
 have HY := Lib.hid (split_any b w1 hb)
 cases hsa : Nm.split a.data.toList with
 | none =>
  obtain rfl := hX.no hsa
  have HP := Lib.hid (within_post (a := a.data.toList) (b := b.data.toList) (show Nm.within a.data.toList b.data.toList = false from by unfold Nm.within; rw [hsa]) HB.out)
  clear hX hsa
  dsimp only
  go_wp2_with fail
  go_ret
  exact HP.out
 | some xs =>
  obtain ⟨ao, cap, rfl, hT⟩ := hX.yes xs hsa
  have h8 := (split_shape hsa).1
  have HS := Lib.hid (trow_strs hT rfl)
  clear hX hT
  have hxl : (xs.length : Int) ≤ 8 := by omega
  dsimp only
  go_wp2_with fail
  refine HY.out.mono ?_
  rintro e w2 hX2
  have HB2 := Lib.hid (HB.out.trans (hX2.below.mono HB.out.size))
  have HS2 := Lib.hid (HS.out.below hX2.below)
  clear HS
  cases hsb : Nm.split b.data.toList with
  | none =>
   obtain rfl := hX2.no hsb
   have HP := Lib.hid (within_post (a := a.data.toList) (b := b.data.toList) (show Nm.within a.data.toList b.data.toList = false from by unfold Nm.within; rw [hsa, hsb]) HB2.out)
   clear hX2 hsa hsb
   dsimp only
   go_wp2_with fail
   go_ret
   exact HP.out
  | some ys =>
   obtain ⟨ao2, cap2, rfl, hT2⟩ := hX2.yes ys hsb
   have h82 := (split_shape hsb).1
   have hcap := trow_cap hT2
   have HT := Lib.hid (trow_strs hT2 rfl)
   have hW : Nm.within a.data.toList b.data.toList = xs.isPrefixOf ys := by unfold Nm.within; rw [hsa, hsb]
   have HW := Lib.hid hW
   clear hX2 hT2 hsa hsb hW
   have hyl : (ys.length : Int) ≤ 8 := by omega
   dsimp only
   rcases Nat.lt_or_ge ys.length xs.length with hl | hl
   ·have hli : (ys.length : Int) < (xs.length : Int) := by omega
    have HP := Lib.hid (within_post (HW.out.trans (prefix_long hl)) HB2.out)
    clear hl
    generalize xs.length = lx at *
    generalize ys.length = ly at *
    go_wp2_with fail
    go_ret
    exact HP.out
   ·have hli : ¬ (ys.length : Int) < (xs.length : Int) := by omega
    have hci : (xs.length : Int) ≤ (cap2 : Int) := by omega
    have HE := Lib.hid (pequal_any ao2 ao xs.length cap2 xs.length cap _ _ w2 (strs_take HT.out hl) HS2.out (by omega) (by omega))
    have HP := Lib.hid (fun (w' : World) (hb : Below w.heap.size w w') => within_post (HW.out.trans (prefix_take hl)) hb)
    clear HT HS2 HW hl
    generalize rowsAlike ((ys.map lstr).take xs.length) (xs.map lstr) = r at *
    generalize xs.length = lx at *
    generalize ys.length = ly at *
    go_wp2_with fail
    refine HE.out.mono ?_
    rintro e w3 ⟨rfl, n, rfl⟩
    dsimp only
    go_wp2_with fail
    go_ret
    exact HP.out _ (below_draws HB2.out)
theorem names : Names := ⟨right_any, split_any, join_any, parent_any, inside_any⟩
end Go.Proofs.YthehblmjloohiaaGreatDoor
