/- A part of the proofs. -/
import Derived.Shelf.Strings.AsciiSet
import Derived.Test.YthbajmlmjjfgpaaGreatDoorC06
set_option maxRecDepth 1000000
set_option maxHeartbeats 16000000
open Go.Lib (hid)
open Go.Proofs.Tryz
namespace Go.Proofs.YthbajmlmjjfgpaaGreatDoor
open Go.RowKit
theorem b_at (s : ByteArray) {i : Nat} (h : i < s.size) : s[i] = s.data.toList.getD i 0 := by
 rw [List.getD, List.getElem?_eq_getElem (by rw [Array.length_toList]; exact h)]; rfl
theorem all_take {l : List UInt8} {p : UInt8 -> Bool} {k : Nat} (h : k < l.length) (ha : (l.take k).all p = true) (hk : p (l.getD k 0) = true) : (l.take (k + 1)).all p = true := by
 rw [List.take_succ_eq_append_getElem h, List.all_append, ha]
 rw [List.getD, List.getElem?_eq_getElem h] at hk
 simpa using hk
theorem not_all {l : List UInt8} {p : UInt8 -> Bool} {k : Nat} (h : k < l.length) (hk : p (l.getD k 0) = false) : l.all p = false := by
 rw [List.all_eq_false]
 refine ⟨l[k], List.getElem_mem h, ?_⟩
 rw [List.getD, List.getElem?_eq_getElem h] at hk
 simpa using hk
theorem right_no {l : List UInt8} {k : Nat} (h : k < l.length) (hk : l.getD k 0 = 47 \/ l.getD k 0 = 0) : Nm.right l = false := by
 unfold Nm.right
 rw [not_all h (by rcases hk with e | e <;> rw [e] <;> rfl)]; simp
def RightPost (s : ByteArray) (w : World) (e : Ending) (w' : World) : Prop := e = .returned (.bool (Nm.right s.data.toList)) /\ w = w'
theorem refRight_any (s : ByteArray) (w : World) (hs : s.size <= 140737488355328) : Calls prog 30 #[.string s] w (RightPost s w) := by
 have HL := hid (show s.data.toList.length = s.size from Array.length_toList)
 go_enter func30, ntmps30
 go_wp2_with fail
 go_loop [3] (λi => ∃ k : Nat, k <= s.size /\ i = .int .i64 k /\ (s.data.toList.take k).all (λx => x != 47 && x != 0) = true) (λi => s.size - (intOf i).toNat)
 case atStart => exact ⟨0, Nat.zero_le _, rfl, rfl⟩
 case round =>
  obtain ⟨k, hk, rfl, hb⟩ := hrel
  by_cases hlt : k < s.size
  ·have k0 : (k : Int) < (s.size : Int) := by omega
   have hk0 : (0 : Int) <= (k : Int) := by omega
   have hko : k < s.data.size := hlt
   have hat := b_at s hlt
   have HA := hid (λh => all_take (l := s.data.toList) (k := k) (by rw [HL.out]; exact hlt) hb h)
   have HN := hid (λh => right_no (l := s.data.toList) (k := k) (by rw [HL.out]; exact hlt) h)
   rw [<- hat] at HA HN
   clear hb hat
   by_cases h47 : s[k] = 47
   ·have hz : s[k].toNat = 47 := by rw [h47]; rfl
    have HR := hid (HN.out (.inl h47))
    clear h47 HA HN
    go_wp2_with fail
    go_ret
    show RightPost s w _ _
    unfold RightPost
    rw [HR.out]
    exact ⟨rfl, rfl⟩
   ·by_cases h0 : s[k] = 0
    ·have hz : s[k].toNat = 0 := by rw [h0]; rfl
     have HR := hid (HN.out (.inr h0))
     clear h47 h0 HA HN
     go_wp2_with fail
     go_ret
     show RightPost s w _ _
     unfold RightPost
     rw [HR.out]
     exact ⟨rfl, rfl⟩
    ·have hz1 : ¬ s[k].toNat = 47 := λe => h47 (UInt8.toNat_inj.1 e)
     have hz0 : ¬ s[k].toNat = 0 := λe => h0 (UInt8.toNat_inj.1 e)
     have hb1 : ((s[k].toNat : Int) == 47) = false := by rw [beq_eq_false_iff_ne]; omega
     have hb0 : ((s[k].toNat : Int) == 0) = false := by rw [beq_eq_false_iff_ne]; omega
     have HR := hid (HA.out (by simp [h47, h0]))
     clear h47 h0 HA HN
     go_wp2_with fail
     go_round
     case rel => exact ⟨k + 1, by omega, by go_num, HR.out⟩
     case measure => simp [intOf]; omega
  ·obtain rfl : k = s.size := by omega
   have hall : s.data.toList.all (λx => x != 47 && x != 0) = true := by rw [<- HL.out, List.take_length] at hb; exact hb
   have HR := hid (show Nm.right s.data.toList = (decide (1 <= s.size) && decide (s.size <= 16) && (s.data.toList != [46]) && (s.data.toList != [46, 46])) from by unfold Nm.right; rw [hall, HL.out]; simp)
   clear hb hall
   have fin : ∀ (b : Bool), (decide (1 <= s.size) && decide (s.size <= 16) && (s.data.toList != [46]) && (s.data.toList != [46, 46])) = b -> RightPost s w (.returned (.bool b)) w := λb hb => by
    unfold RightPost
    rw [HR.out, hb]
    exact ⟨rfl, rfl⟩
   have HF := hid fin
   clear fin HR
   have ht : s.toList = s.data.toList := Lib.toList_data s
   rcases Nat.lt_or_ge s.size 1 with a1 | a1
   ·have b1 : (s.size : Int) < 1 := by omega
    have HB := hid (HF.out false (by rw [decide_eq_false (by omega)]; rfl))
    clear a1 ht
    go_wp2_with fail
    go_ret
    exact HB.out
   have b1 : (1 : Int) <= (s.size : Int) := by omega
   rcases Nat.lt_or_ge 16 s.size with a2 | a2
   ·have b2 : (16 : Int) < (s.size : Int) := by omega
    have HB := hid (HF.out false (by rw [decide_eq_false (p := s.size <= 16) (by omega)]; simp))
    clear a1 a2 ht
    go_wp2_with fail
    go_ret
    exact HB.out
   have b2 : (s.size : Int) <= 16 := by omega
   have hd1 : decide (1 <= s.size) = true := by simp; exact a1
   have hd2 : decide (s.size <= 16) = true := by simp; exact a2
   by_cases e1 : s.data.toList = [46]
   ·have c1 : (s.toList == [46]) = true := by rw [ht, e1]; rfl
    have HB := hid (HF.out false (by rw [e1]; simp))
    clear a1 a2 ht e1 hd1 hd2
    go_wp2_with fail
    go_ret
    exact HB.out
   have c1 : (s.toList == [46]) = false := by rw [ht, beq_eq_false_iff_ne]; exact e1
   by_cases e2 : s.data.toList = [46, 46]
   ·have c2 : (s.toList == [46, 46]) = true := by rw [ht, e2]; rfl
    have HB := hid (HF.out false (by rw [e2]; simp))
    clear a1 a2 ht e1 e2 hd1 hd2
    go_wp2_with fail
    go_ret
    exact HB.out
   ·have c2 : (s.toList == [46, 46]) = false := by rw [ht, beq_eq_false_iff_ne]; exact e2
    have HB := hid (HF.out true (by
     rw [hd1, hd2, show (s.data.toList != [46]) = true from by rw [bne_iff_ne]; exact e1, show (s.data.toList != [46, 46]) = true from by rw [bne_iff_ne]; exact e2]; rfl))
    clear a1 a2 ht e1 e2 hd1 hd2
    go_wp2_with fail
    go_ret
    exact HB.out
end Go.Proofs.YthbajmlmjjfgpaaGreatDoor
namespace Go.Proofs.YthbajmlmjjfgpaaGreatDoor
open Go.RowKit Go.Less
attribute [local go_sem 9000] sem_eql sem_neq sem_lss sem_leq sem_gtr sem_geq
def dn (l : List En) (k : ByteArray) : Bool := l.any λx => !less x.1 k
def rows (l : List En) (k : ByteArray) (i : Int) : List En := if dn l k = true then Nd.ins less l k i else l
end Go.Proofs.YthbajmlmjjfgpaaGreatDoor
namespace Go.Proofs.YthbajmlmjjfgpaaGreatDoor
open Go.RowKit Go.Less
attribute [local go_sem 9000] sem_eql sem_neq
structure MI where
 it : Fs.Item
 ea : Option Addr
 ec : Nat
theorem take_succ_some {α : Type} {l : List α} {i : Nat} {x : α} (h : l[i]? = some x) : l.take (i + 1) = l.take i ++ [x] := by
 obtain ⟨hi, e⟩ := List.getElem?_eq_some_iff.1 h
 rw [List.take_succ_eq_append_getElem hi, e]
def Node11 (l : List Fs.Item) (k : Int) (w : World) (e : Ending) (w' : World) : Prop :=
 ∃ ea ec, e = .returned (.tuple #[nv (Fs.nodeD l k).kind (Fs.nodeD l k).mode (Fs.nodeD l k).data (Fs.nodeD l k).target ea (Fs.nodeD l k).ents.length ec, .bool (Fs.node l k).isSome]) /\ Ents ea (Fs.nodeD l k).ents.length (Fs.nodeD l k).ents w' /\ Below w.heap.size w w'
end Go.Proofs.YthbajmlmjjfgpaaGreatDoor
namespace Nd
def good (lt : ByteArray -> ByteArray -> Bool) (nm : List UInt8 -> Bool) (l : List En) : Bool := l.all (entOk nm) && rises lt l
def after (lt : ByteArray -> ByteArray -> Bool) (l : List En) (x : En) : Bool := match l.getLast? with
 | none => true
 | some y => lt y.1 x.1
def kindOk (x : Node) : Bool :=
 if x.kind = 1 then decide (x.target = ByteArray.empty) && decide (x.ents.length = 0) && decide (x.data.size <= 4096)
 else if x.kind = 2 then decide (x.target = ByteArray.empty) && decide (x.data = ByteArray.empty)
 else decide (x.kind = 3) && decide (x.data = ByteArray.empty) && decide (x.ents.length = 0) && decide (1 <= x.target.size) && decide (x.target.size <= 64)
section
variable {lt : ByteArray -> ByteArray -> Bool} {nm : List UInt8 -> Bool}
theorem rises_snoc (l : List En) (x : En) : rises lt (l ++ [x]) = (rises lt l && after lt l x) := by
 induction l with
 | nil => rfl
 | cons y l ih =>
  cases l with
  | nil => simp [rises, after]
  | cons z l =>
   rw [List.cons_append, List.cons_append, rises, <- List.cons_append, ih, rises, Bool.and_assoc]
   congr 2
theorem good_snoc (l : List En) (x : En) : good lt nm (l ++ [x]) = (good lt nm l && (entOk nm x && after lt l x)) := by
 unfold good
 rw [List.all_append, rises_snoc]
 simp only [List.all_cons, List.all_nil, Bool.and_true]
 cases l.all (entOk nm) <;> cases rises lt l <;> cases entOk nm x <;> cases after lt l x <;> rfl
theorem good_front (a b : List En) (h : good lt nm a = false) : good lt nm (a ++ b) = false := by
 induction b using snoc_rec with
 | nil => rw [List.append_nil]; exact h
 | append_singleton b x ih => rw [<- List.append_assoc, good_snoc, ih]; rfl
theorem good_take {l : List En} {j : Nat} (h : good lt nm (l.take j) = false) : good lt nm l = false := by
 rw [<- List.take_append_drop j l]; exact good_front _ _ h
theorem right_is (x : Node) : right lt nm x = (decide (0 <= x.mode) && decide (x.mode <= 511) && decide (x.ents.length <= 64) && good lt nm x.ents && kindOk x) := by
 unfold right good kindOk
 simp only [Bool.and_assoc]
theorem after_last {l : List En} {x z : En} {j : Nat} (hj : l.length = j + 1) : after lt l x = lt (l.getD j z).1 x.1 := by
 unfold after
 rw [List.getLast?_eq_getElem?, hj, Nat.add_sub_cancel, List.getElem?_eq_getElem (by omega), List.getD, List.getElem?_eq_getElem (by omega)]
 rfl
def rightP (lt : ByteArray -> ByteArray -> Bool) (nm : List UInt8 -> Bool) (x : Node) : Bool :=
 decide (0 <= x.mode) && decide (x.mode <= 511) &&
 (if x.kind = 1 then decide (x.data.size <= 4096) && decide (x.target = ByteArray.empty) && decide (x.ents.length = 0)
  else if x.kind = 2 then decide (x.data = ByteArray.empty) && decide (x.target = ByteArray.empty) && (decide (x.ents.length <= 64) && good lt nm x.ents)
  else decide (x.kind = 3) && decide (x.data = ByteArray.empty) && !decide (x.target = ByteArray.empty) && decide (x.target.size <= 64) && decide (x.ents.length = 0))
theorem size_pos (t : ByteArray) : decide (1 <= t.size) = !decide (t = ByteArray.empty) := by
 by_cases h : t = ByteArray.empty
 ·subst h; rfl
 ·rw [decide_eq_false h, decide_eq_true]; rfl
  rcases Nat.eq_zero_or_pos t.size with h0 | h0
  ·exact absurd (ByteArray.ext (Array.eq_empty_of_size_eq_zero h0)) h
  ·exact h0
theorem right_P (x : Node) : right lt nm x = rightP lt nm x := by
 rw [right_is]
 unfold rightP kindOk
 rw [size_pos]
 by_cases h0 : x.ents.length = 0
 ·have e : x.ents = [] := List.length_eq_zero_iff.1 h0
  rw [e]
  rw [show good lt nm [] = true from rfl]
  simp only [List.length_nil, decide_true, Nat.zero_le, Bool.and_true]
  cases decide (0 <= x.mode) <;> cases decide (x.mode <= 511) <;> split <;> try split
  all_goals cases decide (x.target = ByteArray.empty) <;> cases decide (x.data.size <= 4096) <;> cases decide (x.data = ByteArray.empty) <;> cases decide (x.kind = 3) <;> cases decide (x.target.size <= 64) <;> rfl
 ·rw [decide_eq_false h0]
  cases decide (0 <= x.mode) <;> cases decide (x.mode <= 511) <;> split <;> try split
  all_goals cases decide (x.target = ByteArray.empty) <;> cases decide (x.data.size <= 4096) <;> cases decide (x.data = ByteArray.empty) <;> cases decide (x.kind = 3) <;> cases decide (x.target.size <= 64) <;> cases decide (x.ents.length <= 64) <;> cases good lt nm x.ents <;> rfl
end
end Nd
namespace Go.Proofs.YthbajmlmjjfgpaaGreatDoor
open Go.RowKit Go.Less
attribute [local go_sem 9000] sem_eql sem_neq sem_lss sem_leq sem_gtr sem_geq
def ndr (k m : Int) (d t : ByteArray) (l : List En) : Bool := Nd.right less Nm.right ⟨k, m, d, t, l⟩
def ndk (k : Int) (d t : ByteArray) (l : List En) : Bool := Nd.kindOk ⟨k, 0, d, t, l⟩
def ndg (l : List En) : Bool := Nd.good less Nm.right l
theorem ndr_is (k m : Int) (d t : ByteArray) (l : List En) : ndr k m d t l = (decide (0 <= m) && decide (m <= 511) && decide (l.length <= 64) && ndg l && ndk k d t l) := Nd.right_is _
def isE (t : ByteArray) : Bool := alike t ⟨#[]⟩
theorem ndk_one (d t : ByteArray) (l : List En) : ndk 1 d t l = (isE t && decide (l.length = 0) && decide (d.size <= 4096)) := rfl
theorem ndk_two (d t : ByteArray) (l : List En) : ndk 2 d t l = (isE t && isE d) := rfl
theorem ndk_three (d t : ByteArray) (l : List En) : ndk 3 d t l = (isE d && decide (l.length = 0) && decide (1 <= t.size) && decide (t.size <= 64)) := by
 show (decide ((3 : Int) = 3) && isE d && decide (l.length = 0) && decide (1 <= t.size) && decide (t.size <= 64)) = _
 rw [decide_eq_true rfl, Bool.true_and]
theorem ndk_else {k : Int} (d t : ByteArray) (l : List En) (h1 : k ≠ 1) (h2 : k ≠ 2) (h3 : k ≠ 3) : ndk k d t l = false := by
 unfold ndk Nd.kindOk
 dsimp only
 rw [if_neg h1, if_neg h2, decide_eq_false h3]; rfl
theorem nm_ok (x : En) : Nd.entOk Nm.right x = (Nm.right x.1.data.toList && decide (1 <= x.2) && decide (x.2 <= 2147483647)) := rfl
theorem ndg_more {l : List En} {j : Nat} (hj : j < l.length) (hg : ndg (l.take j) = true) {x : En} (hx : x = l.getD j z0) (ho : Nd.entOk Nm.right x = true) (ha : Nd.after less (l.take j) x = true) : ndg (l.take (j + 1)) = true := by
 subst hx
 rw [take_snoc hj z0]; unfold ndg at *; rw [Nd.good_snoc, hg, ho, ha]; rfl
theorem ndg_bad {l : List En} {j : Nat} (hj : j < l.length) {x : En} (hx : x = l.getD j z0) (ho : Nd.entOk Nm.right x = false) : ndg l = false := by
 subst hx
 refine Nd.good_take (j := j + 1) ?_
 rw [take_snoc hj z0, Nd.good_snoc, ho]; simp
theorem ndg_low {l : List En} {j : Nat} (hj : j < l.length) {x : En} (hx : x = l.getD j z0) (ha : Nd.after less (l.take j) x = false) : ndg l = false := by
 subst hx
 refine Nd.good_take (j := j + 1) ?_
 rw [take_snoc hj z0, Nd.good_snoc, ha]; simp
theorem after_zero (l : List En) (x : En) : Nd.after less (l.take 0) x = true := rfl
theorem after_succ {l : List En} {j : Nat} (hj : j < l.length) (h0 : 1 <= j) (x : En) : Nd.after less (l.take j) x = less (l.getD (j - 1) z0).1 x.1 := by
 obtain ⟨i, rfl⟩ : ∃ i, j = i + 1 := ⟨j - 1, by omega⟩
 rw [Nd.after_last (z := z0) (j := i) (by rw [List.length_take]; omega)]
 simp [List.getD]
theorem refNode_any (k m : Int) (d t : ByteArray) (a : Option Addr) (n cap : Nat) (l : List En) (w : World) (hE : Ents a n l w) (hn : n <= 1000000) (hs : ∀ j, j < n -> (l.getD j z0).1.size <= 100000) :
  Calls prog 53 #[nv k m d t a n cap] w (Samed (ndr k m d t l) w) := by
 have HNL := hid hE.count
 have hni : (n : Int) <= 1000000 := by omega
 have HE := hid (λW (hb : Below w.heap.size w W) => hE.below hb)
 have HS := hid hs
 have HB0 := hid (show ∀ x : Obj, Below w.heap.size w (w.alloc x) from λx => (Below.refl _ w).alloc (Nat.le_refl _) _)
 have HF := hid (show ∀ b W, ndr k m d t l = b -> Below w.heap.size w W -> Samed (ndr k m d t l) w (.returned (.bool b)) W from λb W h hb => by rw [h]; exact ⟨rfl, hb⟩)
 have HP := hid (ndr_is k m d t l)
 clear hE hs
 by_cases e1 : m < 0
 ·have HR := hid (show ndr k m d t l = false by rw [HP.out, decide_eq_false (by omega)]; rfl)
  clear HP
  go_enter func53, ntmps53
  go_wp2_with fail
  go_ret
  exact HF.out _ _ HR.out (HB0.out _)
 by_cases e2 : 511 < m
 ·have HR := hid (show ndr k m d t l = false by rw [HP.out, decide_eq_false (p := m <= 511) (by omega)]; simp)
  clear HP
  go_enter func53, ntmps53
  go_wp2_with fail
  go_ret
  exact HF.out _ _ HR.out (HB0.out _)
 by_cases e3 : 64 < n
 ·have HR := hid (show ndr k m d t l = false by rw [HP.out, decide_eq_false (p := l.length <= 64) (by have := HNL.out; omega)]; simp)
  have e3i : (64 : Int) < (n : Int) := by omega
  clear HP e3
  go_enter func53, ntmps53
  go_wp2_with fail
  go_ret
  exact HF.out _ _ HR.out (HB0.out _)
 have HP2 := hid (show ndr k m d t l = (ndg l && ndk k d t l) by rw [HP.out, decide_eq_true (by omega), decide_eq_true (by omega), decide_eq_true (by have := HNL.out; omega)]; rfl)
 have e3i : (n : Int) <= 64 := by omega
 clear HP e3
 go_enter func53, ntmps53
 go_wp2_with fail
 go_loopw [3] (λi wr => (∃ j : Nat, j <= n /\ i = .int .i64 j /\ ndg (l.take j) = true) /\ wr.heap[w.heap.size]? = some (.cells #[.int .i64 k, .int .i64 m, .string d, .string t, .slice a n cap] 67 (0, 0)) /\ Below w.heap.size w wr) (λi _ => n - (intOf i).toNat)
 case atStart => exact ⟨⟨0, Nat.zero_le _, rfl, rfl⟩, heap_alloc_new w _, HB0.out _⟩
 case round =>
  obtain ⟨⟨j, hj, rfl, hg⟩, hbx, hb⟩ := hrel
  have HX := hid hbx
  have b4 : wr.cell? ⟨w.heap.size, 4, none⟩ = some (.slice a n cap) := cell_obj hbx 4
  have HB := hid hb
  clear hbx
  by_cases hlt : j < n
  ·have j0 : (j : Int) < (n : Int) := by omega
   have hj0 : (0 : Int) <= (j : Int) := by omega
   have hjl : j < l.length := by rw [<- HNL.out]; exact hlt
   obtain ⟨b, off, rfl, c0, c1⟩ := (HE.out _ hb).cell j hlt
   have hsz := HS.out j hlt
   obtain ⟨x, hxe⟩ : ∃ x, x = l.getD j z0 := ⟨_, rfl⟩
   rw [<- hxe] at c0 c1 hsz
   have HM := hid (λho ha => ndg_more hjl hg hxe ho ha)
   have HBad := hid (λho => ndg_bad hjl hxe ho)
   have HLow := hid (λha => ndg_low hjl hxe ha)
   have HAft := hid (λh0 => after_succ hjl h0 x)
   have HRx := hid (λW => refRight_any x.1 W (by omega))
   unfold RightPost at HRx
   have HO := hid (nm_ok x)
   clear hxe hg hsz
   have HBA := hid (show ∀ y : Obj, Below w.heap.size w (wr.alloc y) from λy => hb.alloc hb.size _)
   have hbl : w.heap.size < wr.heap.size := lt_of_obj HX.out
   cases hr : Nm.right x.1.data.toList
   ·rw [hr] at HRx HO
    have HR := hid (show ndr k m d t l = false by rw [HP2.out, HBad.out (by rw [HO.out]; rfl)]; rfl)
    clear HM HBad HLow HAft HO HP2 hr
    go_wp2_with fail
    go_quiet (first | (go_at_call 30; refine (HRx.out _).mono ?_; rintro e w2 ⟨rfl, rfl⟩; exact ⟨rfl, _, rfl⟩))
    go_wp2_with fail
    go_ret
    exact HF.out _ _ HR.out (bdn (HBA.out _) _)
   rw [hr] at HRx HO
   clear hr
   by_cases i1 : x.2 < 1
   ·have HR := hid (show ndr k m d t l = false by rw [HP2.out, HBad.out (by rw [HO.out, decide_eq_false (p := 1 <= x.2) (by omega)]; rfl)]; rfl)
    clear HM HBad HLow HAft HO HP2
    go_wp2_with fail
    go_quiet (first | (go_at_call 30; refine (HRx.out _).mono ?_; rintro e w2 ⟨rfl, rfl⟩; exact ⟨rfl, _, rfl⟩))
    go_wp2_with fail
    go_ret
    exact HF.out _ _ HR.out (bdn (HBA.out _) _)
   have d1 : decide (x.2 < 1) = false := decide_eq_false i1
   by_cases i2 : 2147483647 < x.2
   ·have HR := hid (show ndr k m d t l = false by rw [HP2.out, HBad.out (by rw [HO.out, decide_eq_false (p := x.2 <= 2147483647) (by omega)]; simp)]; rfl)
    clear HM HBad HLow HAft HO HP2
    go_wp2_with fail
    go_quiet (first | (go_at_call 30; refine (HRx.out _).mono ?_; rintro e w2 ⟨rfl, rfl⟩; exact ⟨rfl, _, rfl⟩))
    go_wp2_with fail
    go_ret
    exact HF.out _ _ HR.out (bdn (HBA.out _) _)
   have HK := hid (show Nd.entOk Nm.right x = true by rw [HO.out, decide_eq_true (p := 1 <= x.2) (by omega), decide_eq_true (p := x.2 <= 2147483647) (by omega)]; rfl)
   have d2 : decide (2147483647 < x.2) = false := decide_eq_false i2
   clear HO HBad
   by_cases hj1 : j = 0
   ·have hjb : decide (0 < j) = false := decide_eq_false (by omega)
    have HG := hid (HM.out HK.out (by rw [hj1]; exact after_zero l x))
    clear HM HLow HAft HK hj1
    go_wp2_with fail
    go_quiet (first | (go_at_call 30; refine (HRx.out _).mono ?_; rintro e w2 ⟨rfl, rfl⟩; exact ⟨rfl, _, rfl⟩))
    go_wp2_with fail
    exact ⟨⟨⟨j + 1, by omega, by go_num, HG.out⟩, ((bdn ((Below.refl _ wr).alloc (Nat.le_refl _) _) _).block _ hbl).trans HX.out, bdn (HBA.out _) _⟩, by simp [intOf]; omega⟩
   obtain ⟨i, rfl⟩ : ∃ i, j = i + 1 := ⟨j - 1, by omega⟩
   obtain ⟨b', off', eb, p0, p1⟩ := (HE.out _ hb).cell i (by omega)
   obtain ⟨rfl, rfl⟩ : b' = b /\ off' = off := by cases eb; exact ⟨rfl, rfl⟩
   have HA2 := hid (HAft.out (by omega))
   rw [show i + 1 - 1 = i from rfl] at HA2
   obtain ⟨y, hye⟩ : ∃ y, y = l.getD i z0 := ⟨_, rfl⟩
   rw [<- hye] at p0 p1 HA2
   clear hye HAft eb hj1
   have q0 : (wr.alloc (.cells #[.string x.1, .int .i64 x.2] 146)).cell? ⟨b', off' + i * 2, none⟩ = some (.string y.1) := (((Below.refl _ wr).alloc (Nat.le_refl _) _).cell (p := ⟨b', off' + i * 2, none⟩) (block_lt_of_cell p0)).trans p0
   have hi0 : (0 : Int) <= (i : Int) := by omega
   have hin : (i : Int) < (n : Int) := by omega
   have hwr : IntKind.i64.wrap (i : Int) = (i : Int) := IntWalk.i64_in _ (by omega)
   cases hly : less y.1 x.1
   ·rw [hly] at HA2
    have HR := hid (show ndr k m d t l = false by rw [HP2.out, HLow.out HA2.out]; rfl)
    clear HM HLow HP2 HK HA2
    go_wp2_with fail
    go_quiet (first | (go_at_call 30; refine (HRx.out _).mono ?_; rintro e w2 ⟨rfl, rfl⟩; exact ⟨rfl, _, rfl⟩))
    go_wp2_with fail
    go_ret
    exact HF.out _ _ HR.out (bdn (HBA.out _) _)
   ·rw [hly] at HA2
    have HG := hid (HM.out HK.out HA2.out)
    clear HM HLow HK HA2
    go_wp2_with fail
    go_quiet (first | (go_at_call 30; refine (HRx.out _).mono ?_; rintro e w2 ⟨rfl, rfl⟩; exact ⟨rfl, _, rfl⟩))
    go_wp2_with fail
    exact ⟨⟨⟨i + 1 + 1, by omega, by go_num, HG.out⟩, ((bdn ((Below.refl _ wr).alloc (Nat.le_refl _) _) _).block _ hbl).trans HX.out, bdn (HBA.out _) _⟩, by simp [intOf]; omega⟩
  ·obtain rfl : j = n := by omega
   have HG := hid (show ndr k m d t l = ndk k d t l by rw [HP2.out]; rw [HNL.out, List.take_length] at hg; rw [hg]; rfl)
   have b0 : wr.cell? ⟨w.heap.size, 0, none⟩ = some (.int .i64 k) := cell_obj HX.out 0
   have b2 : wr.cell? ⟨w.heap.size, 2, none⟩ = some (.string d) := cell_obj HX.out 2
   have b3 : wr.cell? ⟨w.heap.size, 3, none⟩ = some (.string t) := cell_obj HX.out 3
   have HZ := hid (show decide (l.length = 0) = decide (j = 0) by rw [<- HNL.out])
   have HT := hid (show alike t ⟨#[]⟩ = isE t from rfl)
   have HD := hid (show alike d ⟨#[]⟩ = isE d from rfl)
   have fin : ∀ b, ndk k d t l = b -> Samed (ndr k m d t l) w (.returned (.bool b)) wr := λb h => HF.out b wr (HG.out.trans h) HB.out
   have HFin := hid fin
   clear hg fin hb HG HP2
   by_cases k1 : k = 1
   ·subst k1
    rw [ndk_one] at HFin
    cases tE : alike t ⟨#[]⟩
    ·have HR := hid (HFin.out false (by rw [<- HT.out, tE]; rfl))
     go_wp2_with fail
     go_ret
     exact HR.out
    ·by_cases z : j = 0
     ·subst z
      have HR := hid (HFin.out (decide ((d.size : Int) <= 4096)) (by rw [<- HT.out, tE, HZ.out]; simp; omega))
      go_wp2_with fail
      go_ret
      exact HR.out
     ·have HR := hid (HFin.out false (by rw [HZ.out, decide_eq_false z]; simp))
      go_wp2_with fail
      go_ret
      exact HR.out
   by_cases k2 : k = 2
   ·subst k2
    rw [ndk_two] at HFin
    cases tE : alike t ⟨#[]⟩
    ·have HR := hid (HFin.out false (by rw [<- HT.out, tE]; rfl))
     go_wp2_with fail
     go_ret
     exact HR.out
    ·cases dE : alike d ⟨#[]⟩
     ·have HR := hid (HFin.out false (by rw [<- HD.out, dE]; simp))
      go_wp2_with fail
      go_ret
      exact HR.out
     ·have HR := hid (HFin.out true (by rw [<- HD.out, dE, <- HT.out, tE]; rfl))
      go_wp2_with fail
      go_ret
      exact HR.out
   by_cases k3 : k = 3
   ·subst k3
    rw [ndk_three] at HFin
    cases dE : alike d ⟨#[]⟩
    ·have HR := hid (HFin.out false (by rw [<- HD.out, dE]; rfl))
     go_wp2_with fail
     go_ret
     exact HR.out
    by_cases z : j = 0
    ·subst z
     rcases Nat.lt_or_ge t.size 1 with h1 | h1
     ·have h1i : (t.size : Int) < 1 := by omega
      have HR := hid (HFin.out false (by rw [decide_eq_false (p := 1 <= t.size) (by omega)]; simp))
      clear h1
      go_wp2_with fail
      go_ret
      exact HR.out
     have h1i : (1 : Int) <= (t.size : Int) := by omega
     have HR := hid (HFin.out (decide ((t.size : Int) <= 64)) (by rw [<- HD.out, dE, HZ.out, decide_eq_true h1]; simp; omega))
     clear h1
     go_wp2_with fail
     go_ret
     exact HR.out
    ·have HR := hid (HFin.out false (by rw [HZ.out, decide_eq_false z]; simp))
     go_wp2_with fail
     go_ret
     exact HR.out
   have HR := hid (HFin.out false (ndk_else d t l k1 k2 k3))
   go_wp2_with fail
   go_ret
   exact HR.out
end Go.Proofs.YthbajmlmjjfgpaaGreatDoor
namespace Go.Proofs.YthbajmlmjjfgpaaGreatDoor
open Go.RowKit
def bv (c : UInt8) : Value := .int .u8 (c.toNat : Int)
def byteOf (q : Nat) : UInt8 := UInt8.ofNat q
theorem byteOf_eq (q : Nat) : (q : Int) % 256 = ((byteOf q).toNat : Int) := by unfold byteOf; rw [UInt8.toNat_ofNat']; rfl
def num (v : Nat) : Nat -> List UInt8
 | 0 => []
 | k + 1 => UInt8.ofNat (v / 256 ^ k) :: num v k
theorem num_length (v : Nat) : ∀ k, (num v k).length = k
 | 0 => rfl
 | k + 1 => by simp [num, num_length v k]
theorem num_two (v : Nat) : num v 2 = [UInt8.ofNat (v / 256), UInt8.ofNat v] := by simp [num]
theorem num_one (v : Nat) : num v 1 = [UInt8.ofNat v] := by simp [num]
def numStr (n k : Nat) : ByteArray := ⟨(num n k).toArray⟩
theorem numStr_data (n k : Nat) : (numStr n k).data.toList = num n k := rfl
theorem run_bytes1 (w : World) (a : UInt8) : (convert 91 9 (.slice (some ⟨w.heap.size, 0, none⟩) 1 1)).run prog (w.alloc (.cells #[.int .u8 (a.toNat : Int)] 5)) = .ok (.string ⟨#[a]⟩) (w.alloc (.cells #[.int .u8 (a.toNat : Int)] 5)) := by
 rw [run_convert_bytes_arg (P := prog) (w.alloc (.cells #[.int .u8 (a.toNat : Int)] 5)) 91 5 underlying91 underlying5 w.heap.size 0 1 1 [(a.toNat : Int)] rfl ?_ 9 underlying9]
 ·simp [strOfNums]
 ·intro i hi
  rw [Nat.zero_add, World.cell?_alloc_new]
  match i, hi with
  | 0, _ => rfl
attribute [local go_sem 9000] run_bytes1
end Go.Proofs.YthbajmlmjjfgpaaGreatDoor
namespace Go.Proofs.YthbajmlmjjfgpaaGreatDoor
open Go.RowKit Go.Less
attribute [local go_sem 9000] sem_eql sem_neq sem_lss sem_leq sem_gtr sem_geq
def prt (x : Nd.Node) : ByteArray × Int := if Nd.right less Nm.right x = true then (lstr (Nd.text x), 0) else (⟨#[]⟩, 2)
def Printed (x : Nd.Node) (w : World) (e : Ending) (w' : World) : Prop := e = .returned (.tuple #[.string (prt x).1, .int .i64 (prt x).2]) /\ Below w.heap.size w w'
theorem nm_len {l : List UInt8} (h : Nm.right l = true) : l.length <= 16 := by
 unfold Nm.right at h
 simp only [Bool.and_eq_true, decide_eq_true_eq] at h
 omega
def hdr (k m : Int) (d t : ByteArray) : ByteArray := numStr k.toNat 1 ++ numStr m.toNat 2 ++ d ++ t
def acc (k m : Int) (d t : ByteArray) (l : List En) : ByteArray := hdr k m d t ++ lstr (l.map Nd.entText).flatten
theorem acc_text (k m : Int) (d t : ByteArray) (l : List En) : acc k m d t l = lstr (Nd.text ⟨k, m, d, t, l⟩) := by
 unfold acc hdr
 apply ByteArray.ext
 apply Array.ext'
 simp only [ByteArray.data_append, Array.toList_append, numStr_data, num_one, num_two, lstr_data, Nd.text, Nd.bs, List.append_assoc, List.cons_append, List.nil_append]
theorem kpos {x : Nd.Node} (h : Nd.Right less Nm.right x) : 0 <= x.kind /\ x.kind <= 3 := by
 rcases h.kinds with ⟨h, _⟩ | ⟨h, _⟩ | ⟨h, _⟩ <;> omega
theorem dsz {x : Nd.Node} (h : Nd.Right less Nm.right x) : x.data.size <= 4096 /\ x.target.size <= 64 := by
 rcases h.kinds with ⟨_, h1, _, h2⟩ | ⟨_, h1, h2⟩ | ⟨_, h1, _, _, h2⟩
 ·rw [h1]; exact ⟨h2, Nat.zero_le _⟩
 ·rw [h1, h2]; exact ⟨Nat.zero_le _, Nat.zero_le _⟩
 ·rw [h1]; exact ⟨Nat.zero_le _, h2⟩
theorem esz {x : Nd.Node} (h : Nd.Right less Nm.right x) : ∀ e ∈ x.ents, e.1.size <= 16 /\ 0 <= e.2 /\ e.2 <= 2147483647 := λe he => by
 have h1 := h.ok e he
 have h2 := nm_len h1.1
 rw [Nd.len_bs] at h2
 exact ⟨h2, by omega, h1.2.2⟩
end Go.Proofs.YthbajmlmjjfgpaaGreatDoor
namespace Go.Proofs.YthbajmlmjjfgpaaGreatDoor
open Go.Shelf
def ren : Go.Shelf.Ren := ⟨λ| 166 => 41 | 167 => 43 | 169 => 44 | 227 => 229 | 228 => 230 | 240 => 92 | 276 => 137 | 316 => 95 | n => n, λ| 0 => 0 | 3 => 3 | 4 => 4 | 5 => 5 | 9 => 9 | 20 => 20 | 37 => 91 | 70 => 90 | 72 => 93 | 75 => 98 | 80 => 46 | 116 => 272 | 124 => 293 | 127 => 162 | 164 => 193 | n => n, λ| n => n⟩
theorem lays166 : Go.Proofs.Lays.n166 prog ren := {
 mixed := by kernel_rfl
 f166 := func41.trans (congrArg some (by kernel_rfl))
 f240 := func92.trans (congrArg some (by kernel_rfl))
 f276 := func137.trans (congrArg some (by kernel_rfl))
 t0 := underlying0
 a0 := Tryz.isAgg0
 z0 := Tryz.sizeOf0
 v0 := Tryz.zeroValue0
 t3 := underlying3
 a3 := Tryz.isAgg3
 z3 := Tryz.sizeOf3
 v3 := Tryz.zeroValue3
 t4 := underlying4
 a4 := Tryz.isAgg4
 z4 := Tryz.sizeOf4
 v4 := Tryz.zeroValue4
 t9 := underlying9
 a9 := Tryz.isAgg9
 z9 := Tryz.sizeOf9
 v9 := Tryz.zeroValue9
 t20 := underlying20
 a20 := Tryz.isAgg20
 z20 := Tryz.sizeOf20
 v20 := Tryz.zeroValue20
 t37 := underlying91
 a37 := Tryz.isAgg91
 z37 := Tryz.sizeOf91
 v37 := Tryz.zeroValue91
 t70 := underlying90
 a70 := Tryz.isAgg90
 z70 := Tryz.sizeOf90
 v70 := Tryz.zeroValue90
 t72 := underlying93
 a72 := Tryz.isAgg93
 z72 := Tryz.sizeOf93
 v72 := Tryz.zeroValue93
 t75 := underlying98
 a75 := Tryz.isAgg98
 z75 := Tryz.sizeOf98
 v75 := Tryz.zeroValue98
 t164 := underlying193
 a164 := Tryz.isAgg193
 z164 := Tryz.sizeOf193
 v164 := Tryz.zeroValue193 }
theorem lays167 : Go.Proofs.Lays.n167 prog ren := {
 mixed := by kernel_rfl
 f167 := func43.trans (congrArg some (by kernel_rfl))
 f240 := func92.trans (congrArg some (by kernel_rfl))
 f276 := func137.trans (congrArg some (by kernel_rfl))
 t0 := underlying0
 a0 := Tryz.isAgg0
 z0 := Tryz.sizeOf0
 v0 := Tryz.zeroValue0
 t4 := underlying4
 a4 := Tryz.isAgg4
 z4 := Tryz.sizeOf4
 v4 := Tryz.zeroValue4
 t5 := underlying5
 a5 := Tryz.isAgg5
 z5 := Tryz.sizeOf5
 v5 := Tryz.zeroValue5
 t9 := underlying9
 a9 := Tryz.isAgg9
 z9 := Tryz.sizeOf9
 v9 := Tryz.zeroValue9
 t20 := underlying20
 a20 := Tryz.isAgg20
 z20 := Tryz.sizeOf20
 v20 := Tryz.zeroValue20
 t37 := underlying91
 a37 := Tryz.isAgg91
 z37 := Tryz.sizeOf91
 v37 := Tryz.zeroValue91
 t70 := underlying90
 a70 := Tryz.isAgg90
 z70 := Tryz.sizeOf90
 v70 := Tryz.zeroValue90
 t72 := underlying93
 a72 := Tryz.isAgg93
 z72 := Tryz.sizeOf93
 v72 := Tryz.zeroValue93
 t75 := underlying98
 a75 := Tryz.isAgg98
 z75 := Tryz.sizeOf98
 v75 := Tryz.zeroValue98
 t164 := underlying193
 a164 := Tryz.isAgg193
 z164 := Tryz.sizeOf193
 v164 := Tryz.zeroValue193 }
theorem lays169 : Go.Proofs.Lays.n169 prog ren := {
 mixed := by kernel_rfl
 f169 := func44.trans (congrArg some (by kernel_rfl))
 t0 := underlying0
 a0 := Tryz.isAgg0
 z0 := Tryz.sizeOf0
 v0 := Tryz.zeroValue0
 t3 := underlying3
 a3 := Tryz.isAgg3
 z3 := Tryz.sizeOf3
 v3 := Tryz.zeroValue3
 t9 := underlying9
 a9 := Tryz.isAgg9
 z9 := Tryz.sizeOf9
 v9 := Tryz.zeroValue9
 t37 := underlying91
 a37 := Tryz.isAgg91
 z37 := Tryz.sizeOf91
 v37 := Tryz.zeroValue91
 t70 := underlying90
 a70 := Tryz.isAgg90
 z70 := Tryz.sizeOf90
 v70 := Tryz.zeroValue90
 t72 := underlying93
 a72 := Tryz.isAgg93
 z72 := Tryz.sizeOf93
 v72 := Tryz.zeroValue93
 t127 := underlying162
 a127 := Tryz.isAgg162
 z127 := Tryz.sizeOf162
 v127 := Tryz.zeroValue162 }
theorem lays227 : Go.Proofs.Lays.n227 prog ren := {
 mixed := by kernel_rfl
 f227 := func229.trans (congrArg some (by kernel_rfl))
 t0 := underlying0
 a0 := Tryz.isAgg0
 z0 := Tryz.sizeOf0
 v0 := Tryz.zeroValue0
 t3 := underlying3
 a3 := Tryz.isAgg3
 z3 := Tryz.sizeOf3
 v3 := Tryz.zeroValue3
 t4 := underlying4
 a4 := Tryz.isAgg4
 z4 := Tryz.sizeOf4
 v4 := Tryz.zeroValue4
 t5 := underlying5
 a5 := Tryz.isAgg5
 z5 := Tryz.sizeOf5
 v5 := Tryz.zeroValue5
 t9 := underlying9
 a9 := Tryz.isAgg9
 z9 := Tryz.sizeOf9
 v9 := Tryz.zeroValue9
 t116 := underlying272
 a116 := Tryz.isAgg272
 z116 := Tryz.sizeOf272 }
theorem lays228 : Go.Proofs.Lays.n228 prog ren := {
 mixed := by kernel_rfl
 f228 := func230.trans (congrArg some (by kernel_rfl))
 t0 := underlying0
 a0 := Tryz.isAgg0
 z0 := Tryz.sizeOf0
 v0 := Tryz.zeroValue0
 t4 := underlying4
 a4 := Tryz.isAgg4
 z4 := Tryz.sizeOf4
 v4 := Tryz.zeroValue4
 t5 := underlying5
 a5 := Tryz.isAgg5
 z5 := Tryz.sizeOf5
 v5 := Tryz.zeroValue5
 t116 := underlying272
 a116 := Tryz.isAgg272
 z116 := Tryz.sizeOf272
 t124 := underlying293
 a124 := Tryz.isAgg293
 z124 := Tryz.sizeOf293
 v124 := Tryz.zeroValue293 }
theorem laysM316 : Go.Proofs.LaysM.n316 prog ren := {
 mixed := by kernel_rfl
 f316 := func95.trans (congrArg some (by kernel_rfl))
 t0 := underlying0
 a0 := Tryz.isAgg0
 z0 := Tryz.sizeOf0
 v0 := Tryz.zeroValue0
 t3 := underlying3
 a3 := Tryz.isAgg3
 z3 := Tryz.sizeOf3
 v3 := Tryz.zeroValue3
 t4 := underlying4
 a4 := Tryz.isAgg4
 z4 := Tryz.sizeOf4
 v4 := Tryz.zeroValue4
 t9 := underlying9
 a9 := Tryz.isAgg9
 z9 := Tryz.sizeOf9
 v9 := Tryz.zeroValue9
 t37 := underlying91
 a37 := Tryz.isAgg91
 z37 := Tryz.sizeOf91
 v37 := Tryz.zeroValue91
 t127 := underlying162
 a127 := Tryz.isAgg162
 z127 := Tryz.sizeOf162
 v127 := Tryz.zeroValue162
 t5 := underlying5
 a5 := Tryz.isAgg5
 z5 := Tryz.sizeOf5
 v5 := Tryz.zeroValue5
 i0 := by kernel_rfl
 i3 := by kernel_rfl
 i4 := by kernel_rfl
 i5 := by kernel_rfl
 i9 := by kernel_rfl
 i37 := by kernel_rfl
 i127 := by kernel_rfl }
theorem extra : Builder.Extra prog ren := {
 sizeBuilder := by kernel_rfl
 liesBuilder := by kernel_rfl
 t5 := underlying5
 a5 := Tryz.isAgg5
 z5 := Tryz.sizeOf5
 v5 := Tryz.zeroValue5
 infoByte := by kernel_rfl
 cellsByte := by kernel_rfl
 sizeByte := by kernel_rfl
 neB5 := by decide }
theorem info68 : (prog.info? 272).map (λi => (i.zero, i.size)) = some (some (.agg (Array.replicate 256 (.bool false))), 256) := by kernel_rfl
end Go.Proofs.YthbajmlmjjfgpaaGreatDoor
namespace Go.Proofs.YthbajmlmjjfgpaaGreatDoor
open Go.RowKit Go.Less
attribute [local go_sem 9000] sem_eql sem_neq sem_lss sem_leq sem_gtr sem_geq
theorem clone_any (s : ByteArray) (w : World) (hlim : s.size <= 281474976710656) :
  Calls prog 47 #[.string s] w λe w' => e = .returned (.string s) /\ Below w.heap.size w w' := by
 go_enter func47, ntmps47
 go_wp2_with fail
 refine (Any.stringslite_Clone laysM316 s w hlim).mono ?_
 rintro e w' ⟨rfl, hw⟩
 dsimp only
 go_wp2_with fail
 go_ret
 exact ⟨rfl, hw⟩
theorem step_ent {ops : Array Oper} {o : Oper} {a : Act} {w : World} {K : Act -> World -> Prop} {Q : Exit -> Act -> World -> Prop} {E : Prop} (hgd : o.guard = none) (s x : Operand)
  (ho : o.op = .call { callee := .builtin .append, args := #[s, x], argTypes := #[65, 65] })
  (base : Nat) (v : Value) (l : List En) (hs : a.eval s = v) (hown : Own base v l w)
  (b : Nat) (u : En) (hx : a.eval x = .slice (some ⟨b, 0, none⟩) 1 1) (hc : w.heap[b]? = some (.cells #[.string u.1, .int .i64 u.2] 146 (0, 0))) (hn : l.length <= 1000000) (hbase : base <= w.heap.size)
  (h : ∀ ao' cap' w', Own base (.slice ao' (l.length + 1) cap') (l ++ [u]) w' -> w.grownBy w' v.ownBlock -> K (a.put o.dst (.slice ao' (l.length + 1) cap')) w') :
  if Region.wanted o (yielded ops a.tmps) = true then Oper.wp prog o a w K Q else E := by
 have hw : Region.wanted o (yielded ops a.tmps) = true := by simp [Region.wanted, hgd]
 rw [if_pos hw]
 obtain ⟨i0, hi, hz0, hz1, hz2⟩ := info_parts info46
 refine wp_append_own w s x 65 ho base 146 i0 (.agg #[.string ⟨#[]⟩, .int .i64 0]) 2 24 underlying65 hi hz0 hz1 hz2 rfl (by decide) v l.length (erow l) hs hown ⟨b, 0, none⟩ 1 1 (ecell u) hx rfl ?_ ?_ (by unfold maxLen; omega) (by omega) hbase ?_
 ·intro j y hj
  rw [show (⟨b, 0, none⟩ : Addr).add j = ⟨b, j, none⟩ by unfold Addr.add; split <;> simp_all]
  match j with
  | 0 => simp [ecell] at hj; subst hj; simp [World.cell?, hc]
  | 1 => simp [ecell] at hj; subst hj; simp [World.cell?, hc]
  | j + 2 => simp [ecell] at hj
 ·intro y hy
  simp [ecell] at hy
  rcases hy with rfl | rfl <;> rfl
 ·intro v' w' hown' hg _
  obtain ⟨ao', cap', rfl⟩ := owns_form hown'
  refine h ao' cap' w' ?_ hg
  unfold Own
  rw [List.length_append, erow_append]
  simpa [erow, ecell] using hown'
theorem gat_kept {w wr W : World} {cs : Array Value} {l : List En} {v : Value} (h : Gat w cs l v wr) (hb : Below wr.heap.size wr W) : Gat w cs l v W :=
 ⟨owned_below h.own hb, (hb.block _ (lt_of_obj h.box)).trans h.box, (hb.block _ (lt_of_obj h.res)).trans h.res, Nat.le_trans h.big hb.size, h.below.trans (hb.mono h.below.size)⟩
theorem below_drew {w w' : World} (h : Below w.drew.heap.size w.drew w') : Below w.heap.size w w' := ((Below.refl w.heap.size w).drew).trans h
theorem below_one (w : World) (o : Obj) : Below w.heap.size w (w.alloc o) := (Below.refl _ w).alloc (Nat.le_refl _) _
def Owned (x : Nd.Node) (w : World) (e : Ending) (w' : World) : Prop :=
 ∃ ao cap, e = .returned (nv x.kind x.mode x.data x.target ao x.ents.length cap) /\ Own w.heap.size (.slice ao x.ents.length cap) x.ents w' /\ Below w.heap.size w w'
theorem own_mono {b b' : Nat} {v : Value} {l : List En} {w : World} (h : Own b v l w) (hb : b' <= b) : Own b' v l w := by
 refine ⟨h.1, ?_⟩
 rcases h.2 with h1 | ⟨g, cap, cur, e, h2, r⟩
 ·exact .inl h1
 ·exact .inr ⟨g, cap, cur, e, Nat.le_trans hb h2, r⟩
theorem gat_set3 {w W : World} {k m : Int} {d t d' t' : ByteArray} {u e : Value} {l : List En} {v : Value} (h : Gat w #[.int .i64 k, .int .i64 m, .string d, .string t, u] l v W) :
  Gat w #[.int .i64 k, .int .i64 m, .string d', .string t', e] l v (((W.setCell ⟨w.heap.size, 2, none⟩ (.string d')).setCell ⟨w.heap.size, 3, none⟩ (.string t')).setCell ⟨w.heap.size, 4, none⟩ e) := by
 have h2 := heap_setCell_same W w.heap.size 2 _ 67 (.string d') h.box
 have h3 := heap_setCell_same _ w.heap.size 3 _ 67 (.string t') h2
 have h4 := heap_setCell_same _ w.heap.size 4 _ 67 e h3
 refine ⟨own_set (own_set (own_set h.own (by omega) 2 _) (by omega) 3 _) (by omega) 4 _, by simpa using h4, ?_, ?_, ((h.below.setCell (Nat.le_refl _) _).setCell (Nat.le_refl _) _).setCell (Nat.le_refl _) _⟩
 ·have hne : w.heap.size + 1 ≠ w.heap.size := by omega
  rw [heap_setCell_other _ ⟨w.heap.size, 4, none⟩ (w.heap.size + 1) _ hne, heap_setCell_other _ ⟨w.heap.size, 3, none⟩ (w.heap.size + 1) _ hne, heap_setCell_other _ ⟨w.heap.size, 2, none⟩ (w.heap.size + 1) _ hne]
  exact h.res
 ·have := h.big
  simpa [World.setCell] using this
theorem results_one {fn : Func} {p : Tmp} (h : fn.results = #[.cell p 67]) (tmps : Array Value) (w : World) (g : Nat) (k m d t e : Value)
  (hp : tmps.getD p undef = .pointer (some ⟨g, 0, none⟩)) (hg : w.heap[g]? = some (.cells #[k, m, d, t, e] 67 (0, 0))) :
  (results fn tmps).run prog w = .ok (.agg #[k, m, d, t, e]) w :=
 results_cell_row (P := prog) h _ _ g 67 #[k, m, d, t, e] (0, 0) _ hp hg underlying67 rfl size24
theorem own_any (k m : Int) (d t : ByteArray) (a : Option Addr) (n cap : Nat) (l : List En) (w : World) (hE : Ents a n l w) (hn : n <= 100000) (hs : ∀ j, j < n -> (l.getD j z0).1.size <= 100000) (hd : d.size <= 100000) (ht : t.size <= 100000) :
  Calls prog 107 #[nv k m d t a n cap] w (Owned ⟨k, m, d, t, l⟩ w) := by
 have HNL := hid hE.count
 have hni : (n : Int) <= 100000 := by omega
 have HE := hid (λW (hb : Below w.heap.size w W) => hE.below hb)
 have HS := hid hs
 have HB0 := hid (show ∀ x y : Obj, Below w.heap.size w ((w.alloc x).alloc y) from λx y => ((Below.refl _ w).alloc (Nat.le_refl _) _).alloc (by simp) _)
 have HCd := hid (λW => clone_any d W (by omega))
 have HCt := hid (λW => clone_any t W (by omega))
 clear hE hs hd ht
 go_enter func107, ntmps107
 go_wp2_with fail
 go_loopw [3, 9] (λv i wr => ∃ j : Nat, j <= n /\ i = .int .i64 j /\ Gat w #[.int .i64 k, .int .i64 m, .string d, .string t, .slice a n cap] (l.take j) v wr) (λ_ i _ => n - (intOf i).toNat)
 case atStart => exact ⟨0, Nat.zero_le _, rfl, ⟨own_nil _ _, two0 _ _ _, two1 _ _ _, two2 _ _ _, HB0.out _ _⟩⟩
 case round =>
  obtain ⟨j, hj, rfl, hG⟩ := hrel
  obtain ⟨ao, cp, rfl⟩ := owns_form hG.own
  by_cases hlt : j < n
  ·have j0 : (j : Int) < (n : Int) := by omega
   have hj0 : (0 : Int) <= (j : Int) := by omega
   obtain ⟨b, off, rfl, c0, c1⟩ := (HE.out _ hG.below).cell j hlt
   have hjl : j < l.length := by rw [<- HNL.out]; exact hlt
   have HT := hid (take_snoc hjl z0)
   have HLen := hid (show (l.take j).length <= 100000 by rw [List.length_take]; omega)
   have hsz := HS.out j hlt
   generalize l.getD j z0 = x at c0 c1 HT hsz
   have HC := hid (λW => clone_any x.1 W (by omega))
   have HG := hid hG
   have HB1 := hid (below_one wr (.cells #[.string x.1, .int .i64 x.2] 146))
   have HX := hid (heap_alloc_new wr (.cells #[.string x.1, .int .i64 x.2] 146))
   have hlt1 := lt_of_obj HX.out
   clear hG hsz hjl
   generalize l.take j = C at *
   go_wp2_with fail
   go_region_law (first
    | (refine step_ent rfl _ _ rfl (w.heap.size + 2) _ C (by rfl) HO3.out w1.heap.size x (by rfl) HN3.out (Nat.le_trans HLen.out (by decide)) HZ.out ?_; intro ao4 cap4 w4 hown4 hgrow4; have HG4 := hid (gat_more HG3.out HO3.out hgrow4 (by simpa [Own] using hown4)); clear hown4 hgrow4)
    | (go_simp; (with_reducible refine (HC.out _).mono ?_); rintro e w1 ⟨rfl, hw1d⟩; have hw1 := below_drew hw1d; have ci1 := (hw1.cell (p := ⟨wr.heap.size, 1, none⟩) hlt1).trans (cell_obj HX.out 1); have HG3 := hid (gat_kept HG.out (HB1.out.trans (hw1.mono HB1.out.size))); have HO3 := hid (owned_below HG3.out.own (below_one w1 (.cells #[.string x.1, .int .i64 x.2] 146))); have HN3 := hid (heap_alloc_new w1 (.cells #[.string x.1, .int .i64 x.2] 146)); have HZ := hid (Nat.le_trans HG3.out.big (below_one w1 (.cells #[.string x.1, .int .i64 x.2] 146)).size); clear hw1d))
   all_goals
    go_wp2_with fail
    go_roundw
    case rel => exact ⟨j + 1, by omega, by go_num, by rw [HT.out]; exact HG4.out⟩
    case measure => simp [intOf]; omega
  ·obtain rfl : j = n := by omega
   rw [show l.take j = l by rw [HNL.out, List.take_length]] at hG |-
   have HG := hid hG
   have hlen := HNL.out
   clear hG hlt
   have x2 : wr.cell? ⟨w.heap.size, 2, none⟩ = some (.string d) := cell_obj HG.out.box 2
   have x3 : wr.cell? ⟨w.heap.size, 3, none⟩ = some (.string t) := cell_obj HG.out.box 3
   have hbl := lt_of_obj HG.out.box
   go_wp2_with fail
   go_region_law (first
    | (go_simp; (with_reducible refine (HCd.out _).mono ?_); rintro e w1 ⟨rfl, hw1d⟩; have hw1 := below_drew hw1d; have y3 := (hw1.cell (p := ⟨w.heap.size, 3, none⟩) hbl).trans x3; have HG3 := hid (gat_kept HG.out hw1); clear hw1d)
    | (go_simp; (with_reducible refine (HCt.out _).mono ?_); rintro e w2 ⟨rfl, hw2⟩; have HG4 := hid (gat_kept HG3.out hw2); clear hw2; have hx := HG4.out.box; have z2 := cell_obj hx 2; have z3 := cell_obj hx 3; have z4 := cell_obj hx 4; have f2 := free_obj hx 2; have f3 := free_obj hx 3; have f4 := free_obj hx 4; clear hx))
   all_goals
    have HG5 := hid (gat_set3 (d' := d) (t' := t) (e := .slice ao l.length cp) HG4.out)
    clear z2 z3 z4 f2 f3 f4
    generalize (((w2.setCell ⟨w.heap.size, 2, none⟩ (.string d)).setCell ⟨w.heap.size, 3, none⟩ (.string t)).setCell ⟨w.heap.size, 4, none⟩ (.slice ao l.length cp)) = W5 at HG5 |-
    have hr := HG5.out.res
    have hx := HG5.out.box
    have r0 := bxc5 hr
    have q0 := bxf5 hr
    have x0 : W5.cell? ⟨w.heap.size, 0, none⟩ = some (.int .i64 k) := cell_obj hx 0
    have x1 : W5.cell? ⟨w.heap.size, 1, none⟩ = some (.int .i64 m) := cell_obj hx 1
    have x2 : W5.cell? ⟨w.heap.size, 2, none⟩ = some (.string d) := cell_obj hx 2
    have x3 : W5.cell? ⟨w.heap.size, 3, none⟩ = some (.string t) := cell_obj hx 3
    have x4 : W5.cell? ⟨w.heap.size, 4, none⟩ = some (.slice ao l.length cp) := cell_obj hx 4
    clear hr hx
    go_wp2_with fail
    refine bodyPost_ret_by (results_one rfl _ _ (w.heap.size + 1) _ _ _ _ _ rfl (set5 _ _ _ _ _ HG5.out.res)) rfl ⟨ao, cp, rfl, own_mono (own_set5 HG5.out.own (by omega) _ _ _ _ _) (by omega), below5 HG5.out.below (Nat.le_succ _) _ _ _ _ _⟩
end Go.Proofs.YthbajmlmjjfgpaaGreatDoor
