/- The document's Right of nodes. -/
import Derived.Test.YteieehjggiiljaaOk
import Derived.Test.YteieehjggiiljaaErow
import Derived.Test.YteieehjggiiljaaRefRight
import Derived.IntWalk
namespace Go.Proofs.Yteieehjggiiljaa
set_option maxRecDepth 100000
open Go.RowKit Go.Less
attribute [local go_sem 9000] sem_eql sem_neq sem_lss sem_leq sem_gtr sem_geq
/-- A right node. Closed to the walk's simp. -/
def ndr (k m : Int) (d t : ByteArray) (l : List En) : Bool := Nd.right less Nm.right ⟨k, m, d, t, l⟩
/-- What is asked of the kinds, closed. -/
def ndk (k : Int) (d t : ByteArray) (l : List En) : Bool := Nd.kindOk ⟨k, 0, d, t, l⟩
def ndg (l : List En) : Bool := Nd.good less Nm.right l
theorem ndr_is (k m : Int) (d t : ByteArray) (l : List En) : ndr k m d t l = (decide (0 ≤ m) && decide (m ≤ 511) && decide (l.length ≤ 64) && ndg l && ndk k d t l) := Nd.right_is _
def isE (t : ByteArray) : Bool := alike t ⟨#[]⟩
theorem isE_is (t : ByteArray) : decide (t = ByteArray.empty) = isE t := rfl
theorem ndk_one (d t : ByteArray) (l : List En) : ndk 1 d t l = (isE t && decide (l.length = 0) && decide (d.size ≤ 4096)) := rfl
theorem ndk_two (d t : ByteArray) (l : List En) : ndk 2 d t l = (isE t && isE d) := rfl
theorem ndk_three (d t : ByteArray) (l : List En) : ndk 3 d t l = (isE d && decide (l.length = 0) && decide (1 ≤ t.size) && decide (t.size ≤ 64)) := by
  show (decide ((3 : Int) = 3) && isE d && decide (l.length = 0) && decide (1 ≤ t.size) && decide (t.size ≤ 64)) = _
  rw [decide_eq_true rfl, Bool.true_and]
theorem ndk_else {k : Int} (d t : ByteArray) (l : List En) (h1 : k ≠ 1) (h2 : k ≠ 2) (h3 : k ≠ 3) : ndk k d t l = false := by
  unfold ndk Nd.kindOk
  dsimp only
  rw [if_neg h1, if_neg h2, decide_eq_false h3]; rfl
theorem nm_ok (x : En) : Nd.entOk Nm.right x = (Nm.right x.1.data.toList && decide (1 ≤ x.2) && decide (x.2 ≤ 2147483647)) := rfl
/-- One entry more. -/
theorem ndg_more {l : List En} {j : Nat} (hj : j < l.length) (hg : ndg (l.take j) = true) {x : En} (hx : x = l.getD j z0) (ho : Nd.entOk Nm.right x = true) (ha : Nd.after less (l.take j) x = true) : ndg (l.take (j + 1)) = true := by
  subst hx
  rw [take_snoc hj z0]; unfold ndg at *; rw [Nd.good_snoc, hg, ho, ha]; rfl
theorem ndg_bad {l : List En} {j : Nat} (hj : j < l.length) {x : En} (hx : x = l.getD j z0) (ho : Nd.entOk Nm.right x = false) : ndg l = false := by
  subst hx
  refine Nd.good_take (j := j + 1) ?_
  rw [take_snoc hj z0, Nd.good_snoc, ho]; simp
theorem ndg_low {l : List En} {j : Nat} (hj : j < l.length) {x : En} (hx : x = l.getD j z0) (ha : Nd.after less (l.take j) x = false) : ndg l = false := by
  subst hx
  refine Nd.good_take (j := j + 1) ?_
  rw [take_snoc hj z0, Nd.good_snoc, ha]; simp
theorem after_zero (l : List En) (x : En) : Nd.after less (l.take 0) x = true := rfl
theorem after_succ {l : List En} {j : Nat} (hj : j < l.length) (h0 : 1 ≤ j) (x : En) : Nd.after less (l.take j) x = less (l.getD (j - 1) z0).1 x.1 := by
  obtain ⟨i, rfl⟩ : ∃ i, j = i + 1 := ⟨j - 1, by omega⟩
  rw [Nd.after_last (z := z0) (j := i) (by rw [List.length_take]; omega)]
  simp [List.getD]
set_option maxHeartbeats 4000000 in
theorem refNode_any (k m : Int) (d t : ByteArray) (a : Option Addr) (n cap : Nat) (l : List En) (w : World) (hE : Ents a n l w) (hn : n ≤ 1000000) (hs : ∀ j, j < n → (l.getD j z0).1.size ≤ 100000) :
    Calls Try.prog 20 #[nv k m d t a n cap] w (Samed (ndr k m d t l) w) := by
  have HNL := Lib.hid hE.count
  have hni : (n : Int) ≤ 1000000 := by omega
  have HE := Lib.hid (fun W (hb : Below w.heap.size w W) => hE.below hb)
  have HS := Lib.hid hs
  have HB0 := Lib.hid (show ∀ x : Obj, Below w.heap.size w (w.alloc x) from fun x => (Below.refl _ w).alloc (Nat.le_refl _) _)
  have HF := Lib.hid (show ∀ b W, ndr k m d t l = b → Below w.heap.size w W → Samed (ndr k m d t l) w (.returned (.bool b)) W from fun b W h hb => by rw [h]; exact ⟨rfl, hb⟩)
  have HP := Lib.hid (ndr_is k m d t l)
  clear hE hs
  by_cases e1 : m < 0
  · have HR := Lib.hid (show ndr k m d t l = false by rw [HP.out, decide_eq_false (by omega)]; rfl)
    clear HP
    go_enter Try.func20, Try.ntmps20
    go_wp2_with fail
    go_ret
    exact HF.out _ _ HR.out (HB0.out _)
  by_cases e2 : 511 < m
  · have HR := Lib.hid (show ndr k m d t l = false by rw [HP.out, decide_eq_false (p := m ≤ 511) (by omega)]; simp)
    clear HP
    go_enter Try.func20, Try.ntmps20
    go_wp2_with fail
    go_ret
    exact HF.out _ _ HR.out (HB0.out _)
  by_cases e3 : 64 < n
  · have HR := Lib.hid (show ndr k m d t l = false by rw [HP.out, decide_eq_false (p := l.length ≤ 64) (by have := HNL.out; omega)]; simp)
    have e3i : (64 : Int) < (n : Int) := by omega
    clear HP e3
    go_enter Try.func20, Try.ntmps20
    go_wp2_with fail
    go_ret
    exact HF.out _ _ HR.out (HB0.out _)
  have HP2 := Lib.hid (show ndr k m d t l = (ndg l && ndk k d t l) by rw [HP.out, decide_eq_true (by omega), decide_eq_true (by omega), decide_eq_true (by have := HNL.out; omega)]; rfl)
  have e3i : (n : Int) ≤ 64 := by omega
  clear HP e3
  go_enter Try.func20, Try.ntmps20
  go_wp2_with fail
  go_loopw [3] (fun i wr => (∃ j : Nat, j ≤ n ∧ i = .int .i64 j ∧ ndg (l.take j) = true) ∧ wr.heap[w.heap.size]? = some (.cells #[.int .i64 k, .int .i64 m, .string d, .string t, .slice a n cap] 24 (0, 0)) ∧ Below w.heap.size w wr) (fun i _ => n - (intOf i).toNat)
  case atStart => exact ⟨⟨0, Nat.zero_le _, rfl, rfl⟩, heap_alloc_new w _, HB0.out _⟩
  case round =>
    obtain ⟨⟨j, hj, rfl, hg⟩, hbx, hb⟩ := hrel
    have HX := Lib.hid hbx
    have b4 : wr.cell? ⟨w.heap.size, 4, none⟩ = some (.slice a n cap) := cell_obj hbx 4
    have HB := Lib.hid hb
    clear hbx
    by_cases hlt : j < n
    · have j0 : (j : Int) < (n : Int) := by omega
      have hj0 : (0 : Int) ≤ (j : Int) := by omega
      have hjl : j < l.length := by rw [← HNL.out]; exact hlt
      obtain ⟨b, off, rfl, c0, c1⟩ := (HE.out _ hb).cell j hlt
      have hsz := HS.out j hlt
      obtain ⟨x, hxe⟩ : ∃ x, x = l.getD j z0 := ⟨_, rfl⟩
      rw [← hxe] at c0 c1 hsz
      have HM := Lib.hid (fun ho ha => ndg_more hjl hg hxe ho ha)
      have HBad := Lib.hid (fun ho => ndg_bad hjl hxe ho)
      have HLow := Lib.hid (fun ha => ndg_low hjl hxe ha)
      have HAft := Lib.hid (fun h0 => after_succ hjl h0 x)
      have HRx := Lib.hid (fun W => refRight_any x.1 W (by omega))
      unfold RightPost at HRx
      have HO := Lib.hid (nm_ok x)
      clear hxe hg hsz
      have HBA := Lib.hid (show ∀ y : Obj, Below w.heap.size w (wr.alloc y) from fun y => hb.alloc hb.size _)
      have hbl : w.heap.size < wr.heap.size := lt_of_obj HX.out
      cases hr : Nm.right x.1.data.toList
      · rw [hr] at HRx HO
        have HR := Lib.hid (show ndr k m d t l = false by rw [HP2.out, HBad.out (by rw [HO.out]; rfl)]; rfl)
        clear HM HBad HLow HAft HO HP2 hr
        go_wp2_with fail
        go_quiet (first | (go_at_call 34; refine (HRx.out _).mono ?_; rintro e w2 ⟨rfl, rfl⟩; exact ⟨rfl, _, rfl⟩))
        go_wp2_with fail
        go_ret
        exact HF.out _ _ HR.out (bdn (HBA.out _) _)
      rw [hr] at HRx HO
      clear hr
      by_cases i1 : x.2 < 1
      · have HR := Lib.hid (show ndr k m d t l = false by rw [HP2.out, HBad.out (by rw [HO.out, decide_eq_false (p := 1 ≤ x.2) (by omega)]; rfl)]; rfl)
        clear HM HBad HLow HAft HO HP2
        go_wp2_with fail
        go_quiet (first | (go_at_call 34; refine (HRx.out _).mono ?_; rintro e w2 ⟨rfl, rfl⟩; exact ⟨rfl, _, rfl⟩))
        go_wp2_with fail
        go_ret
        exact HF.out _ _ HR.out (bdn (HBA.out _) _)
      have d1 : decide (x.2 < 1) = false := decide_eq_false i1
      by_cases i2 : 2147483647 < x.2
      · have d2 : decide (2147483647 < x.2) = true := decide_eq_true i2
        have HR := Lib.hid (show ndr k m d t l = false by rw [HP2.out, HBad.out (by rw [HO.out, decide_eq_false (p := x.2 ≤ 2147483647) (by omega)]; simp)]; rfl)
        clear HM HBad HLow HAft HO HP2
        go_wp2_with fail
        go_quiet (first | (go_at_call 34; refine (HRx.out _).mono ?_; rintro e w2 ⟨rfl, rfl⟩; exact ⟨rfl, _, rfl⟩))
        go_wp2_with fail
        go_ret
        exact HF.out _ _ HR.out (bdn (HBA.out _) _)
      have HK := Lib.hid (show Nd.entOk Nm.right x = true by rw [HO.out, decide_eq_true (p := 1 ≤ x.2) (by omega), decide_eq_true (p := x.2 ≤ 2147483647) (by omega)]; rfl)
      have d2 : decide (2147483647 < x.2) = false := decide_eq_false i2
      clear HO HBad
      by_cases hj1 : j = 0
      · have hjb : decide (0 < j) = false := decide_eq_false (by omega)
        have HG := Lib.hid (HM.out HK.out (by rw [hj1]; exact after_zero l x))
        clear HM HLow HAft HK hj1
        go_wp2_with fail
        go_quiet (first | (go_at_call 34; refine (HRx.out _).mono ?_; rintro e w2 ⟨rfl, rfl⟩; exact ⟨rfl, _, rfl⟩))
        go_wp2_with fail
        exact ⟨⟨⟨j + 1, by omega, by go_num, HG.out⟩, ((bdn ((Below.refl _ wr).alloc (Nat.le_refl _) _) _).block _ hbl).trans HX.out, bdn (HBA.out _) _⟩, by simp [intOf]; omega⟩
      obtain ⟨i, rfl⟩ : ∃ i, j = i + 1 := ⟨j - 1, by omega⟩
      obtain ⟨b', off', eb, p0, p1⟩ := (HE.out _ hb).cell i (by omega)
      obtain ⟨rfl, rfl⟩ : b' = b ∧ off' = off := by cases eb; exact ⟨rfl, rfl⟩
      have HA2 := Lib.hid (HAft.out (by omega))
      rw [show i + 1 - 1 = i from rfl] at HA2
      obtain ⟨y, hye⟩ : ∃ y, y = l.getD i z0 := ⟨_, rfl⟩
      rw [← hye] at p0 p1 HA2
      clear hye HAft eb hj1
      have q0 : (wr.alloc (.cells #[.string x.1, .int .i64 x.2] 46)).cell? ⟨b', off' + i * 2, none⟩ = some (.string y.1) := (((Below.refl _ wr).alloc (Nat.le_refl _) _).cell (p := ⟨b', off' + i * 2, none⟩) (block_lt_of_cell p0)).trans p0
      have hi0 : (0 : Int) ≤ (i : Int) := by omega
      have hin : (i : Int) < (n : Int) := by omega
      have hwr : IntKind.i64.wrap (i : Int) = (i : Int) := IntWalk.i64_in _ (by omega)
      cases hly : less y.1 x.1
      · rw [hly] at HA2
        have HR := Lib.hid (show ndr k m d t l = false by rw [HP2.out, HLow.out HA2.out]; rfl)
        clear HM HLow HP2 HK HA2
        go_wp2_with fail
        go_quiet (first | (go_at_call 34; refine (HRx.out _).mono ?_; rintro e w2 ⟨rfl, rfl⟩; exact ⟨rfl, _, rfl⟩))
        go_wp2_with fail
        go_ret
        exact HF.out _ _ HR.out (bdn (HBA.out _) _)
      · rw [hly] at HA2
        have HG := Lib.hid (HM.out HK.out HA2.out)
        clear HM HLow HK HA2
        go_wp2_with fail
        go_quiet (first | (go_at_call 34; refine (HRx.out _).mono ?_; rintro e w2 ⟨rfl, rfl⟩; exact ⟨rfl, _, rfl⟩))
        go_wp2_with fail
        exact ⟨⟨⟨i + 1 + 1, by omega, by go_num, HG.out⟩, ((bdn ((Below.refl _ wr).alloc (Nat.le_refl _) _) _).block _ hbl).trans HX.out, bdn (HBA.out _) _⟩, by simp [intOf]; omega⟩
    · obtain rfl : j = n := by omega
      have HG := Lib.hid (show ndr k m d t l = ndk k d t l by rw [HP2.out]; rw [HNL.out, List.take_length] at hg; rw [hg]; rfl)
      have b0 : wr.cell? ⟨w.heap.size, 0, none⟩ = some (.int .i64 k) := cell_obj HX.out 0
      have b2 : wr.cell? ⟨w.heap.size, 2, none⟩ = some (.string d) := cell_obj HX.out 2
      have b3 : wr.cell? ⟨w.heap.size, 3, none⟩ = some (.string t) := cell_obj HX.out 3
      have HZ := Lib.hid (show decide (l.length = 0) = decide (j = 0) by rw [← HNL.out])
      have HT := Lib.hid (show alike t ⟨#[]⟩ = isE t from rfl)
      have HD := Lib.hid (show alike d ⟨#[]⟩ = isE d from rfl)
      have fin : ∀ b, ndk k d t l = b → Samed (ndr k m d t l) w (.returned (.bool b)) wr := fun b h => HF.out b wr (HG.out.trans h) HB.out
      have HFin := Lib.hid fin
      clear hg fin hb HG HP2
      by_cases k1 : k = 1
      · subst k1
        rw [ndk_one] at HFin
        cases tE : alike t ⟨#[]⟩
        · have HR := Lib.hid (HFin.out false (by rw [← HT.out, tE]; rfl))
          go_wp2_with fail
          go_ret
          exact HR.out
        · by_cases z : j = 0
          · subst z
            have HR := Lib.hid (HFin.out (decide ((d.size : Int) ≤ 4096)) (by rw [← HT.out, tE, HZ.out]; simp; omega))
            go_wp2_with fail
            go_ret
            exact HR.out
          · have zi : ¬ (j : Int) = 0 := by omega
            have HR := Lib.hid (HFin.out false (by rw [HZ.out, decide_eq_false z]; simp))
            go_wp2_with fail
            go_ret
            exact HR.out
      by_cases k2 : k = 2
      · subst k2
        rw [ndk_two] at HFin
        cases tE : alike t ⟨#[]⟩
        · have HR := Lib.hid (HFin.out false (by rw [← HT.out, tE]; rfl))
          go_wp2_with fail
          go_ret
          exact HR.out
        · cases dE : alike d ⟨#[]⟩
          · have HR := Lib.hid (HFin.out false (by rw [← HD.out, dE]; simp))
            go_wp2_with fail
            go_ret
            exact HR.out
          · have HR := Lib.hid (HFin.out true (by rw [← HD.out, dE, ← HT.out, tE]; rfl))
            go_wp2_with fail
            go_ret
            exact HR.out
      by_cases k3 : k = 3
      · subst k3
        rw [ndk_three] at HFin
        cases dE : alike d ⟨#[]⟩
        · have HR := Lib.hid (HFin.out false (by rw [← HD.out, dE]; rfl))
          go_wp2_with fail
          go_ret
          exact HR.out
        by_cases z : j = 0
        · subst z
          rcases Nat.lt_or_ge t.size 1 with h1 | h1
          · have h1i : (t.size : Int) < 1 := by omega
            have HR := Lib.hid (HFin.out false (by rw [decide_eq_false (p := 1 ≤ t.size) (by omega)]; simp))
            clear h1
            go_wp2_with fail
            go_ret
            exact HR.out
          have h1i : (1 : Int) ≤ (t.size : Int) := by omega
          have HR := Lib.hid (HFin.out (decide ((t.size : Int) ≤ 64)) (by rw [← HD.out, dE, HZ.out, decide_eq_true h1]; simp; omega))
          clear h1
          go_wp2_with fail
          go_ret
          exact HR.out
        · have zi : ¬ (j : Int) = 0 := by omega
          have HR := Lib.hid (HFin.out false (by rw [HZ.out, decide_eq_false z]; simp))
          go_wp2_with fail
          go_ret
          exact HR.out
      have HR := Lib.hid (HFin.out false (ndk_else d t l k1 k2 k3))
      go_wp2_with fail
      go_ret
      exact HR.out
end Go.Proofs.Yteieehjggiiljaa
