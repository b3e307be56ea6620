/- What comes on a path. -/
import Derived.Test.YtfemanblkmcglaaPoints
import Derived.Test.YtfemanblkmcglaaNum
namespace Go.Proofs.Ytfemanblkmcglaa
open Go.RowKit Grid
attribute [local go_sem 9000] neq_comes

theorem getD_at {α : Type} {l : List α} {i : Nat} {d : α} (h : i < l.length) : l.getD i d = l[i] := by rw [List.getD, List.getElem?_eq_getElem h]; rfl
theorem ys_before {p : List Nat} {k : Nat} (h : k < p.length) (hk : p[k] ≠ 1) : ys (p.take k) < ys p := by
  have h1 := ys_take h
  rw [if_pos hk] at h1
  have h2 := ys_append (p.take (k + 1)) (p.drop (k + 1))
  rw [List.take_append_drop] at h2
  omega
/-- The texts, as they are handed back. -/
def Coming (p : List Nat) (sb : List ByteArray) (w : World) (e : Ending) (w' : World) : Prop :=
  ∃ ao cap, e = .returned (.slice ao (comes p sb).length cap) ∧ Strs ao (comes p sb).length (comes p sb) w' ∧ (comes p sb).length ≤ cap ∧ Below w.heap.size w w'
theorem owns_cap {w : World} {base : Nat} {e : TypeId} {size : Nat} {a : Option Addr} {n cap : Nat} {xs : List Value} (h : w.ownsRow base e size (.slice a n cap) n xs) : n ≤ cap := by
  obtain ⟨_, ⟨e, h0⟩ | ⟨g, cap', cur, e, _, _, h1, _⟩⟩ := h
  · omega
  · injection e with e1 e2 e3; omega

set_option maxRecDepth 100000 in
set_option maxHeartbeats 2000000 in
theorem comes_any (b a : Option Addr) (lb cb len cap : Nat) (sb : List ByteArray) (p : List Nat) (w : World) (hB : Strs b lb sb w) (hS : Steps a len p w) (hlen : len ≤ 10000) (hlb : lb < 1000000)
    (hr : ∀ i, (sb.getD i ByteArray.empty).size ≤ 140737488355328) (h3 : ∀ k ∈ p, k < 3) (hy : ys p ≤ sb.length) :
    Calls Try.prog 11 #[.slice b lb cb, .slice a len cap] w (Coming p sb w) := by
  have hl1 : (len : Int) ≤ 10000 := by omega
  have HCB := Lib.hid hB.count
  have HCS := Lib.hid hS.count
  have HR := Lib.hid hr
  have H3 := Lib.hid h3
  clear hr h3
  go_enter Try.func11, Try.ntmps11
  go_wp2_with fail
  refine (points_any a len cap p _ hS hlen).mono ?_
  rintro e w1 ⟨pa, pc, rfl, hP, hB1⟩
  dsimp only
  have HB := Lib.hid (hB.below hB1)
  have HS := Lib.hid (hS.below hB1)
  have HP := Lib.hid hP
  have HB1 := Lib.hid hB1
  clear hB hS hP hB1
  go_wp2_with fail
  go_loopw [5, 15] (fun x i wr => ∃ (k : Nat) (ao : Option Addr) (c : Nat) (out : List ByteArray), k ≤ len ∧ i = .int .i64 k ∧ x = .slice ao out.length c ∧ out.length ≤ k ∧ Came sb p k out ∧ wr.ownsRow w1.heap.size 9 1 (.slice ao out.length c) out.length (out.map Value.string) ∧ Below w1.heap.size w1 wr) (fun _ i _ => len - (intOf i).toNat)
  case atStart => exact ⟨0, none, 0, [], Nat.zero_le _, rfl, rfl, Nat.zero_le _, came_zero sb p, World.ownsRow_nil _ _ _ _, Below.refl _ _⟩
  case round =>
    obtain ⟨k, ao, c, out, hk, rfl, rfl, hol, hC, hown, hW⟩ := hrel
    by_cases hlt : k < len
    · have hkp : k < p.length := by rw [← HCS.out]; exact hlt
      obtain ⟨b1, o1, rfl, hc1⟩ := (HS.out.below hW).cell k hlt
      obtain ⟨b2, o2, rfl, hc2⟩ := (HP.out.below hW).cell k (by omega)
      have hk0 : (k : Int) < (len : Int) := by omega
      have hk1 : (k : Int) < (p.length : Int) + 1 := by omega
      have h3k := H3.out p[k] (List.getElem_mem hkp)
      have hgd := getD_at (d := 0) hkp
      rw [hgd] at hc1
      by_cases h2 : p[k] = 2
      · have hyk := ys_before hkp (by omega)
        have hyl : ys (p.take k) < sb.length := by omega
        have HN := Lib.hid (came_comes hC hkp h2 hyl)
        rw [← getD_at (d := ByteArray.empty) hyl] at HN
        rw [h2] at hc1
        have HNum := Lib.hid (numbered_any b lb cb (ys (p.take k)) sb wr (HB.out.below hW) (by rw [HCB.out]; exact hyl) hlb)
        generalize ys (p.take k) = y at hc2 HN HNum
        have hs := HR.out y
        generalize sb.getD y ByteArray.empty = s at HN HNum hs
        generalize xs (p.take k) = x at hc2
        have HO := Lib.hid hown
        have HW := Lib.hid hW
        clear hown hW hC hkp h3k hgd h2 hyk hyl
        go_wp2_with fail
        refine HNum.out.mono ?_
        rintro e w2 ⟨rfl, rfl⟩
        dsimp only
        clear HNum hc1 hc2
        go_wp2_with fail
        refine (clone_any s _ hs).mono ?_
        rintro e w3 ⟨rfl, hw3⟩
        dsimp only
        have HO3 := Lib.hid (owns_below HO.out hw3)
        have HW3 := Lib.hid (HW.out.trans (hw3.mono HW.out.size))
        clear hw3 HO HW
        have HOA := Lib.hid (owns_below HO3.out ((Below.refl w3.heap.size w3).alloc (Nat.le_refl _) (.cells #[.string s] 9)))
        have HBA := Lib.hid (HW3.out.alloc HW3.out.size (.cells #[.string s] 9))
        go_wp2_with (at_builtin; refine at_app1 rfl _ _ 22 9 Try.underlying22 rfl (.string ⟨#[]⟩) info9 rfl w1.heap.size _ out.length (out.map Value.string) (by rfl) HOA.out w3.heap.size (.string s) (by rfl) (by simp) rfl (by omega) HBA.out.size ?_; intro ao4 cap4 w4 hown4 hgrow4; have HB4 := Lib.hid (HBA.out.grown hgrow4 HBA.out.size (fun j hj => (owns_lt HOA.out j hj).1)); have HO4 := Lib.hid hown4; clear hown4 hgrow4)
        go_roundw
        case rel => exact ⟨k + 1, ao4, cap4, out ++ [s], by omega, by go_num, by rw [List.length_append]; rfl, by rw [List.length_append]; exact Nat.succ_le_succ hol, HN.out, by rw [List.length_append, List.map_append]; exact HO4.out, HB4.out⟩
        case measure => simp [intOf]; omega
      · have HN := Lib.hid (show Came sb p (k + 1) out from by
          by_cases h1 : p[k] = 1
          · exact came_goes hC hkp h1
          · exact came_stay hC hkp (by omega) (by have := ys_before hkp h1; omega))
        have hlt2 : ¬ 2 ≤ p[k] := by omega
        generalize p[k] = d at hc1 hlt2
        have HO := Lib.hid hown
        have HW := Lib.hid hW
        clear hown hW hC hkp h3k hgd h2 hc2
        go_wp2_with fail
        go_roundw
        case rel => exact ⟨k + 1, ao, c, out, by omega, by go_num, rfl, by omega, HN.out, HO.out, HW.out⟩
        case measure => simp [intOf]; omega
    · obtain rfl : k = len := by omega
      have HE := Lib.hid (came_end hC (by rw [← HCS.out]; exact Nat.le_refl _))
      have HO := Lib.hid hown
      have HW := Lib.hid hW
      clear hown hW hC
      go_wp2_with fail
      go_ret
      refine ⟨ao, c, ?_, ?_, ?_, HB1.out.trans (HW.out.mono HB1.out.size)⟩
      · rw [HE.out]; rfl
      · rw [HE.out]; exact strs_owned HO.out
      · rw [HE.out]; exact owns_cap HO.out
end Go.Proofs.Ytfemanblkmcglaa
