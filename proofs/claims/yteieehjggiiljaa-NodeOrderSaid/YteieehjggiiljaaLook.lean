/- Entries looked for: the closures, slices.IndexFunc, ContainsFunc; the program's Find. -/
import Derived.Test.YteieehjggiiljaaPick
import Derived.Test.YteieehjggiiljaaErow
import Derived.Deep.RegionHeld3
import Derived.Shelf.Abstract
namespace Go.Proofs.Yteieehjggiiljaa
set_option maxRecDepth 100000
open Go.RowKit Go.Less
attribute [local go_sem 9000] sem_eql sem_neq sem_lss sem_leq sem_gtr sem_geq
/-- Has an entry that name? Closed to the walk's simp. -/
def isNm (nm : ByteArray) (x : En) : Bool := decide (x.1 = nm)
def notLs (nm : ByteArray) (x : En) : Bool := !less x.1 nm
/-- What IndexFunc answers. -/
def ixz (p : En → Bool) (l : List En) : Int := if Nd.place p l < l.length then (Nd.place p l : Int) else -1
theorem ixz_hit {p : En → Bool} {l : List En} {k : Nat} (h : Nd.place p l = k) (hk : k < l.length) : ixz p l = (k : Int) := by unfold ixz; rw [h, if_pos hk]
theorem ixz_end {p : En → Bool} {l : List En} (h : Nd.place p l = l.length) : ixz p l = -1 := by unfold ixz; rw [h, if_neg (Nat.lt_irrefl _)]
abbrev ev (x : En) : Value := .agg #[.string x.1, .int .i64 x.2]
theorem clo43_any (x : En) (nm : ByteArray) (g : Nat) (w : World) (hg : w.cell? ⟨g, 0, none⟩ = some (.string nm)) : Calls Try.prog 43 #[ev x, .pointer (some ⟨g, 0, none⟩)] w fun e w' => e = .returned (.bool (isNm nm x)) ∧ Below w.heap.size w w' := by
  have hlt := block_lt_of_cell hg
  go_enter Try.func43, Try.ntmps43
  go_wp2_with fail
  go_ret
  exact ⟨rfl, (Below.refl _ _).alloc (Nat.le_refl _) _⟩
theorem clo31_any (x : En) (nm : ByteArray) (g : Nat) (w : World) (hg : w.cell? ⟨g, 0, none⟩ = some (.string nm)) : Calls Try.prog 31 #[ev x, .pointer (some ⟨g, 0, none⟩)] w fun e w' => e = .returned (.bool (notLs nm x)) ∧ Below w.heap.size w w' := by
  have hlt := block_lt_of_cell hg
  go_enter Try.func31, Try.ntmps31
  go_wp2_with fail
  go_ret
  exact ⟨rfl, (Below.refl _ _).alloc (Nat.le_refl _) _⟩
theorem named_any (nm : ByteArray) (w : World) : Calls Try.prog 28 #[.string nm] w fun e w' => e = .returned (.func (.func 43) #[] #[.pointer (some ⟨w.heap.size, 0, none⟩)]) ∧ w'.cell? ⟨w.heap.size, 0, none⟩ = some (.string nm) ∧ Below w.heap.size w w' := by
  go_enter Try.func28, Try.ntmps28
  go_wp2_with fail
  go_ret
  exact ⟨rfl, cell_obj (heap_alloc_new w _) 0, (Below.refl _ _).alloc (Nat.le_refl _) _⟩

set_option maxHeartbeats 4000000 in
theorem ixf43_any (a : Option Addr) (n cap : Nat) (l : List En) (nm : ByteArray) (g : Nat) (w : World) (hE : Ents a n l w) (hn : n ≤ 1000000) (hg : w.cell? ⟨g, 0, none⟩ = some (.string nm)) :
    Calls Try.prog 27 #[.slice a n cap, .func (.func 43) #[] #[.pointer (some ⟨g, 0, none⟩)]] w fun e w' => e = .returned (.int .i64 (ixz (isNm nm) l)) ∧ Below w.heap.size w w' := by
  have HNL := Lib.hid hE.count
  have hni : (n : Int) ≤ 1000000 := by omega
  have HE := Lib.hid (fun W (hb : Below w.heap.size w W) => hE.below hb)
  have HG := Lib.hid (show ∀ W, Below w.heap.size w W → W.cell? ⟨g, 0, none⟩ = some (.string nm) from fun W hb => (hb.cell (block_lt_of_cell hg)).trans hg)
  have eg : ∀ args w, (callFunc 43 args).run Try.prog w = .ok (.enter 43 args) w := enters_of Try.func43 (by kernel_rfl) rfl
  clear hE hg
  go_enter Try.func27, Try.ntmps27
  go_wp2_with fail
  go_loopw [8] (fun v wr => ∃ k : Nat, k ≤ n ∧ v = .int .i64 k ∧ Below w.heap.size w wr ∧ Hid (Nd.place (isNm nm) (l.take k) = k)) (fun v _ => n - (intOf v).toNat)
  case atStart => exact ⟨0, Nat.zero_le _, rfl, Below.refl _ _, rfl⟩
  case round =>
    obtain ⟨k, hk, rfl, hB, HA⟩ := hrel
    by_cases hlt : k < n
    · have k0 : (k : Int) < (n : Int) := by omega
      have hk0 : (0 : Int) ≤ (k : Int) := by omega
      have hkl : k < l.length := by rw [← HNL.out]; exact hlt
      obtain ⟨b, off, rfl, c0, c1⟩ := (HE.out _ hB).cell k hlt
      have HM := Lib.hid (fun h => Nd.place_more (p := isNm nm) (z := z0) HA.out hkl h)
      have HH := Lib.hid (fun h => Nd.place_hit (p := isNm nm) (z := z0) HA.out hkl h)
      have HLt := Lib.hid hkl
      generalize l.getD k z0 = x at c0 c1 HM HH
      have HC := Lib.hid (clo43_any x nm g wr (HG.out _ hB))
      have HBh := Lib.hid hB
      clear hB hkl
      cases hr : isNm nm x with
      | false =>
        rw [hr] at HC
        have HR := Lib.hid (HM.out hr)
        clear hr HM HH
        go_wp2_with fail
        refine HC.out.mono ?_
        rintro e w2 ⟨rfl, hw2⟩
        have HB2 := Lib.hid (HBh.out.trans (hw2.mono HBh.out.size))
        clear hw2
        dsimp only
        go_wp2_with fail
        go_roundw
        case rel => exact ⟨k + 1, by omega, by go_num, HB2.out, HR.out⟩
        case measure => simp [intOf]; omega
      | true =>
        rw [hr] at HC
        have HR := Lib.hid (ixz_hit (HH.out hr) HLt.out)
        clear hr HM HH
        go_wp2_with fail
        refine HC.out.mono ?_
        rintro e w2 ⟨rfl, hw2⟩
        have HB2 := Lib.hid (HBh.out.trans (hw2.mono HBh.out.size))
        clear hw2
        dsimp only
        go_wp2_with fail
        go_ret
        rw [HR.out]
        exact ⟨rfl, HB2.out⟩
    · obtain rfl : k = n := by omega
      have HR := Lib.hid (ixz_end (p := isNm nm) (l := l) (by have h := HA.out; rw [HNL.out, List.take_length] at h; rw [h]))
      have HBh := Lib.hid hB
      clear hB
      go_wp2_with fail
      go_ret
      rw [HR.out]
      exact ⟨rfl, HBh.out⟩

set_option maxHeartbeats 4000000 in
theorem ixf31_any (a : Option Addr) (n cap : Nat) (l : List En) (nm : ByteArray) (g : Nat) (w : World) (hE : Ents a n l w) (hn : n ≤ 1000000) (hg : w.cell? ⟨g, 0, none⟩ = some (.string nm)) :
    Calls Try.prog 27 #[.slice a n cap, .func (.func 31) #[] #[.pointer (some ⟨g, 0, none⟩)]] w fun e w' => e = .returned (.int .i64 (ixz (notLs nm) l)) ∧ Below w.heap.size w w' := by
  have HNL := Lib.hid hE.count
  have hni : (n : Int) ≤ 1000000 := by omega
  have HE := Lib.hid (fun W (hb : Below w.heap.size w W) => hE.below hb)
  have HG := Lib.hid (show ∀ W, Below w.heap.size w W → W.cell? ⟨g, 0, none⟩ = some (.string nm) from fun W hb => (hb.cell (block_lt_of_cell hg)).trans hg)
  have eg : ∀ args w, (callFunc 31 args).run Try.prog w = .ok (.enter 31 args) w := enters_of Try.func31 (by kernel_rfl) rfl
  clear hE hg
  go_enter Try.func27, Try.ntmps27
  go_wp2_with fail
  go_loopw [8] (fun v wr => ∃ k : Nat, k ≤ n ∧ v = .int .i64 k ∧ Below w.heap.size w wr ∧ Hid (Nd.place (notLs nm) (l.take k) = k)) (fun v _ => n - (intOf v).toNat)
  case atStart => exact ⟨0, Nat.zero_le _, rfl, Below.refl _ _, rfl⟩
  case round =>
    obtain ⟨k, hk, rfl, hB, HA⟩ := hrel
    by_cases hlt : k < n
    · have k0 : (k : Int) < (n : Int) := by omega
      have hk0 : (0 : Int) ≤ (k : Int) := by omega
      have hkl : k < l.length := by rw [← HNL.out]; exact hlt
      obtain ⟨b, off, rfl, c0, c1⟩ := (HE.out _ hB).cell k hlt
      have HM := Lib.hid (fun h => Nd.place_more (p := notLs nm) (z := z0) HA.out hkl h)
      have HH := Lib.hid (fun h => Nd.place_hit (p := notLs nm) (z := z0) HA.out hkl h)
      have HLt := Lib.hid hkl
      generalize l.getD k z0 = x at c0 c1 HM HH
      have HC := Lib.hid (clo31_any x nm g wr (HG.out _ hB))
      have HBh := Lib.hid hB
      clear hB hkl
      cases hr : notLs nm x with
      | false =>
        rw [hr] at HC
        have HR := Lib.hid (HM.out hr)
        clear hr HM HH
        go_wp2_with fail
        refine HC.out.mono ?_
        rintro e w2 ⟨rfl, hw2⟩
        have HB2 := Lib.hid (HBh.out.trans (hw2.mono HBh.out.size))
        clear hw2
        dsimp only
        go_wp2_with fail
        go_roundw
        case rel => exact ⟨k + 1, by omega, by go_num, HB2.out, HR.out⟩
        case measure => simp [intOf]; omega
      | true =>
        rw [hr] at HC
        have HR := Lib.hid (ixz_hit (HH.out hr) HLt.out)
        clear hr HM HH
        go_wp2_with fail
        refine HC.out.mono ?_
        rintro e w2 ⟨rfl, hw2⟩
        have HB2 := Lib.hid (HBh.out.trans (hw2.mono HBh.out.size))
        clear hw2
        dsimp only
        go_wp2_with fail
        go_ret
        rw [HR.out]
        exact ⟨rfl, HB2.out⟩
    · obtain rfl : k = n := by omega
      have HR := Lib.hid (ixz_end (p := notLs nm) (l := l) (by have h := HA.out; rw [HNL.out, List.take_length] at h; rw [h]))
      have HBh := Lib.hid hB
      clear hB
      go_wp2_with fail
      go_ret
      rw [HR.out]
      exact ⟨rfl, HBh.out⟩

set_option maxHeartbeats 2000000 in
theorem cof_any (a : Option Addr) (n cap : Nat) (l : List En) (nm : ByteArray) (g : Nat) (w : World) (hE : Ents a n l w) (hn : n ≤ 1000000) (hg : w.cell? ⟨g, 0, none⟩ = some (.string nm)) :
    Calls Try.prog 30 #[.slice a n cap, .func (.func 43) #[] #[.pointer (some ⟨g, 0, none⟩)]] w fun e w' => e = .returned (.bool (Nd.find l nm).isSome) ∧ Below w.heap.size w w' := by
  have HI := Lib.hid (ixf43_any a n cap l nm g w hE hn hg)
  have hf := Nd.find_is l nm
  clear hE hn hg
  by_cases h : Nd.place (isNm nm) l < l.length
  · have HF := Lib.hid (hf.trans (decide_eq_true h))
    rw [show ixz (isNm nm) l = (Nd.place (isNm nm) l : Int) by unfold ixz; rw [if_pos h]] at HI
    clear hf h
    generalize Nd.place (isNm nm) l = z at HI
    have hz : (0 : Int) ≤ (z : Int) := by omega
    go_enter Try.func30, Try.ntmps30
    go_wp2_with fail
    refine HI.out.mono ?_
    rintro e w1 ⟨rfl, hB⟩
    dsimp only
    go_wp2_with fail
    go_ret
    rw [HF.out]
    exact ⟨rfl, hB⟩
  · have HF := Lib.hid (hf.trans (decide_eq_false h))
    rw [show ixz (isNm nm) l = -1 by unfold ixz; rw [if_neg h]] at HI
    clear hf h
    go_enter Try.func30, Try.ntmps30
    go_wp2_with fail
    refine HI.out.mono ?_
    rintro e w1 ⟨rfl, hB⟩
    dsimp only
    go_wp2_with fail
    go_ret
    rw [HF.out]
    exact ⟨rfl, hB⟩
end Go.Proofs.Yteieehjggiiljaa
