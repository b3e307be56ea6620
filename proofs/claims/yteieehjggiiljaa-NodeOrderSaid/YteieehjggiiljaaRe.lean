/- The program's rightEntries. -/
import Derived.Test.YteieehjggiiljaaRefNode
import Derived.Test.YteieehjggiiljaaWithA
namespace Go.Proofs.Yteieehjggiiljaa
set_option maxRecDepth 100000
open Go.RowKit Go.Less
attribute [local go_sem 9000] sem_eql sem_neq sem_lss sem_leq sem_gtr sem_geq
/-- May a directory have them? Closed. -/
def rte (l : List En) : Bool := decide (l.length ≤ 64) && ndg l
set_option maxHeartbeats 4000000 in
theorem rightEntries_any (a : Option Addr) (n cap : Nat) (l : List En) (w : World) (hE : Ents a n l w) (hn : n ≤ 1000000) (hs : ∀ j, j < n → (l.getD j z0).1.size ≤ 100000) :
    Calls Try.prog 36 #[.slice a n cap] w (Samed (rte l) w) := by
  have HNL := Lib.hid hE.count
  have hni : (n : Int) ≤ 1000000 := by omega
  have HE := Lib.hid (fun W (hb : Below w.heap.size w W) => hE.below hb)
  have HS := Lib.hid hs
  have HF := Lib.hid (show ∀ b W, rte l = b → Below w.heap.size w W → Samed (rte l) w (.returned (.bool b)) W from fun b W h hb => by rw [h]; exact ⟨rfl, hb⟩)
  clear hE hs
  by_cases e3 : 64 < n
  · have HR := Lib.hid (show rte l = false by unfold rte; rw [decide_eq_false (p := l.length ≤ 64) (by have := HNL.out; omega)]; rfl)
    have e3i : (64 : Int) < (n : Int) := by omega
    clear e3
    go_enter Try.func36, Try.ntmps36
    go_wp2_with fail
    go_ret
    exact HF.out _ _ HR.out (Below.refl _ _)
  have HP2 := Lib.hid (show rte l = ndg l by unfold rte; rw [decide_eq_true (by have := HNL.out; omega)]; rfl)
  have e3i : ¬ (64 : Int) < (n : Int) := by omega
  clear e3
  go_enter Try.func36, Try.ntmps36
  go_wp2_with fail
  go_loopw [10] (fun i wr => (∃ j : Nat, j ≤ n ∧ i = .int .i64 j ∧ ndg (l.take j) = true) ∧ Below w.heap.size w wr) (fun i _ => n - (intOf i).toNat)
  case atStart => exact ⟨⟨0, Nat.zero_le _, rfl, rfl⟩, Below.refl _ _⟩
  case round =>
    obtain ⟨⟨j, hj, rfl, hg⟩, hb⟩ := hrel
    have HB := Lib.hid hb
    by_cases hlt : j < n
    · have j0 : (j : Int) < (n : Int) := by omega
      have hj0 : (0 : Int) ≤ (j : Int) := by omega
      have hjl : j < l.length := by rw [← HNL.out]; exact hlt
      obtain ⟨b, off, rfl, c0, c1⟩ := (HE.out _ hb).cell j hlt
      have hsz := HS.out j hlt
      obtain ⟨x, hxe⟩ : ∃ x, x = l.getD j z0 := ⟨_, rfl⟩
      rw [← hxe] at c0 c1 hsz
      have HM := Lib.hid (fun ho ha => ndg_more hjl hg hxe ho ha)
      have HBad := Lib.hid (fun ho => ndg_bad hjl hxe ho)
      have HLow := Lib.hid (fun ha => ndg_low hjl hxe ha)
      have HAft := Lib.hid (fun h0 => after_succ hjl h0 x)
      have HRx := Lib.hid (fun W => rightName_any x.1 W (by omega))
      have HO := Lib.hid (nm_ok x)
      clear hxe hg hsz
      have HNw := Lib.hid (heap_alloc_new wr (oc x))
      have HBA := Lib.hid (show Below w.heap.size w (wr.alloc (oc x)) from hb.alloc hb.size _)
      cases hr : Nm.right x.1.data.toList
      · rw [hr] at HRx HO
        have HR := Lib.hid (show rte l = false by rw [HP2.out, HBad.out (by rw [HO.out]; rfl)])
        clear HM HBad HLow HAft HO HP2 hr
        go_wp2_with fail
        refine (HRx.out _).mono ?_
        rintro e w2 ⟨rfl, hw2⟩
        have e0 : w2.cell? ⟨wr.heap.size, 0, none⟩ = some (.string x.1) := (hw2.cell (p := ⟨wr.heap.size, 0, none⟩) (lt_of_obj HNw.out)).trans (cell_obj HNw.out 0)
        have e1 : w2.cell? ⟨wr.heap.size, 1, none⟩ = some (.int .i64 x.2) := (hw2.cell (p := ⟨wr.heap.size, 1, none⟩) (lt_of_obj HNw.out)).trans (cell_obj HNw.out 1)
        have HB2 := Lib.hid (HBA.out.trans (hw2.mono HBA.out.size))
        clear hw2
        dsimp only
        go_wp2_with fail
        go_ret
        exact HF.out _ _ HR.out HB2.out
      rw [hr] at HRx HO
      clear hr
      by_cases i1 : x.2 < 1
      · have HR := Lib.hid (show rte l = false by rw [HP2.out, HBad.out (by rw [HO.out, decide_eq_false (p := 1 ≤ x.2) (by omega)]; rfl)])
        clear HM HBad HLow HAft HO HP2
        go_wp2_with fail
        refine (HRx.out _).mono ?_
        rintro e w2 ⟨rfl, hw2⟩
        have e0 : w2.cell? ⟨wr.heap.size, 0, none⟩ = some (.string x.1) := (hw2.cell (p := ⟨wr.heap.size, 0, none⟩) (lt_of_obj HNw.out)).trans (cell_obj HNw.out 0)
        have e1 : w2.cell? ⟨wr.heap.size, 1, none⟩ = some (.int .i64 x.2) := (hw2.cell (p := ⟨wr.heap.size, 1, none⟩) (lt_of_obj HNw.out)).trans (cell_obj HNw.out 1)
        have HB2 := Lib.hid (HBA.out.trans (hw2.mono HBA.out.size))
        clear hw2
        dsimp only
        go_wp2_with fail
        go_ret
        exact HF.out _ _ HR.out HB2.out
      have d1 : decide (x.2 < 1) = false := decide_eq_false i1
      by_cases i2 : 2147483647 < x.2
      · have d2 : decide (2147483647 < x.2) = true := decide_eq_true i2
        have HR := Lib.hid (show rte l = false by rw [HP2.out, HBad.out (by rw [HO.out, decide_eq_false (p := x.2 ≤ 2147483647) (by omega)]; simp)])
        clear HM HBad HLow HAft HO HP2
        go_wp2_with fail
        refine (HRx.out _).mono ?_
        rintro e w2 ⟨rfl, hw2⟩
        have e0 : w2.cell? ⟨wr.heap.size, 0, none⟩ = some (.string x.1) := (hw2.cell (p := ⟨wr.heap.size, 0, none⟩) (lt_of_obj HNw.out)).trans (cell_obj HNw.out 0)
        have e1 : w2.cell? ⟨wr.heap.size, 1, none⟩ = some (.int .i64 x.2) := (hw2.cell (p := ⟨wr.heap.size, 1, none⟩) (lt_of_obj HNw.out)).trans (cell_obj HNw.out 1)
        have HB2 := Lib.hid (HBA.out.trans (hw2.mono HBA.out.size))
        clear hw2
        dsimp only
        go_wp2_with fail
        go_ret
        exact HF.out _ _ HR.out HB2.out
      have HK := Lib.hid (show Nd.entOk Nm.right x = true by rw [HO.out, decide_eq_true (p := 1 ≤ x.2) (by omega), decide_eq_true (p := x.2 ≤ 2147483647) (by omega)]; rfl)
      have d2 : decide (2147483647 < x.2) = false := decide_eq_false i2
      clear HO HBad
      by_cases hj1 : j = 0
      · have hjb : decide (0 < j) = false := decide_eq_false (by omega)
        have HG := Lib.hid (HM.out HK.out (by rw [hj1]; exact after_zero l x))
        clear HM HLow HAft HK hj1
        go_wp2_with fail
        refine (HRx.out _).mono ?_
        rintro e w2 ⟨rfl, hw2⟩
        have e0 : w2.cell? ⟨wr.heap.size, 0, none⟩ = some (.string x.1) := (hw2.cell (p := ⟨wr.heap.size, 0, none⟩) (lt_of_obj HNw.out)).trans (cell_obj HNw.out 0)
        have e1 : w2.cell? ⟨wr.heap.size, 1, none⟩ = some (.int .i64 x.2) := (hw2.cell (p := ⟨wr.heap.size, 1, none⟩) (lt_of_obj HNw.out)).trans (cell_obj HNw.out 1)
        have HB2 := Lib.hid (HBA.out.trans (hw2.mono HBA.out.size))
        clear hw2
        dsimp only
        go_wp2_with fail
        go_quiet (fail)
        go_wp2_with fail
        exact ⟨⟨⟨j + 1, by omega, by go_num, HG.out⟩, bdn HB2.out _⟩, by simp [intOf]; omega⟩
      obtain ⟨i, rfl⟩ : ∃ i, j = i + 1 := ⟨j - 1, by omega⟩
      obtain ⟨b', off', eb, p0, p1⟩ := (HE.out _ hb).cell i (by omega)
      obtain ⟨rfl, rfl⟩ : b' = b ∧ off' = off := by cases eb; exact ⟨rfl, rfl⟩
      have HA2 := Lib.hid (HAft.out (by omega))
      rw [show i + 1 - 1 = i from rfl] at HA2
      obtain ⟨y, hye⟩ : ∃ y, y = l.getD i z0 := ⟨_, rfl⟩
      rw [← hye] at p0 p1 HA2
      clear hye HAft eb hj1
      have hi0 : (0 : Int) ≤ (i : Int) := by omega
      have hin : (i : Int) < (n : Int) := by omega
      have hwr : IntKind.i64.wrap (i : Int) = (i : Int) := IntWalk.i64_in _ (by omega)
      have q0 : (wr.alloc (oc x)).cell? ⟨b', off' + i * 2, none⟩ = some (.string y.1) := (((Below.refl _ wr).alloc (Nat.le_refl _) _).cell (p := ⟨b', off' + i * 2, none⟩) (block_lt_of_cell p0)).trans p0
      cases hly : less y.1 x.1
      · rw [hly] at HA2
        have HR := Lib.hid (show rte l = false by rw [HP2.out, HLow.out HA2.out])
        clear HM HLow HP2 HK HA2
        go_wp2_with fail
        refine (HRx.out _).mono ?_
        rintro e w2 ⟨rfl, hw2⟩
        have e0 : w2.cell? ⟨wr.heap.size, 0, none⟩ = some (.string x.1) := (hw2.cell (p := ⟨wr.heap.size, 0, none⟩) (lt_of_obj HNw.out)).trans (cell_obj HNw.out 0)
        have e1 : w2.cell? ⟨wr.heap.size, 1, none⟩ = some (.int .i64 x.2) := (hw2.cell (p := ⟨wr.heap.size, 1, none⟩) (lt_of_obj HNw.out)).trans (cell_obj HNw.out 1)
        have HB2 := Lib.hid (HBA.out.trans (hw2.mono HBA.out.size))
        have q2 : w2.cell? ⟨b', off' + i * 2, none⟩ = some (.string y.1) := (hw2.cell (p := ⟨b', off' + i * 2, none⟩) (block_lt_of_cell q0)).trans q0
        clear hw2
        dsimp only
        go_wp2_with fail
        go_quiet (fail)
        go_wp2_with fail
        go_ret
        exact HF.out _ _ HR.out (bdn HB2.out _)
      · rw [hly] at HA2
        have HG := Lib.hid (HM.out HK.out HA2.out)
        clear HM HLow HK HA2
        go_wp2_with fail
        refine (HRx.out _).mono ?_
        rintro e w2 ⟨rfl, hw2⟩
        have e0 : w2.cell? ⟨wr.heap.size, 0, none⟩ = some (.string x.1) := (hw2.cell (p := ⟨wr.heap.size, 0, none⟩) (lt_of_obj HNw.out)).trans (cell_obj HNw.out 0)
        have e1 : w2.cell? ⟨wr.heap.size, 1, none⟩ = some (.int .i64 x.2) := (hw2.cell (p := ⟨wr.heap.size, 1, none⟩) (lt_of_obj HNw.out)).trans (cell_obj HNw.out 1)
        have HB2 := Lib.hid (HBA.out.trans (hw2.mono HBA.out.size))
        have q2 : w2.cell? ⟨b', off' + i * 2, none⟩ = some (.string y.1) := (hw2.cell (p := ⟨b', off' + i * 2, none⟩) (block_lt_of_cell q0)).trans q0
        clear hw2
        dsimp only
        go_wp2_with fail
        go_quiet (fail)
        go_wp2_with fail
        exact ⟨⟨⟨i + 1 + 1, by omega, by go_num, HG.out⟩, bdn HB2.out _⟩, by simp [intOf]; omega⟩
    · obtain rfl : j = n := by omega
      have HR := Lib.hid (show rte l = true by rw [HP2.out]; rw [HNL.out, List.take_length] at hg; exact hg)
      clear hg hb
      go_wp2_with fail
      go_ret
      exact HF.out _ _ HR.out HB.out
end Go.Proofs.Yteieehjggiiljaa
