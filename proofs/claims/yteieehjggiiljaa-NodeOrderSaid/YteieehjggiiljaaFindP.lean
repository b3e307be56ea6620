/- The program's Find. -/
import Derived.Test.YteieehjggiiljaaLook
namespace Go.Proofs.Yteieehjggiiljaa
set_option maxRecDepth 100000
open Go.RowKit Go.Less
attribute [local go_sem 9000] sem_eql sem_neq sem_lss sem_leq sem_gtr sem_geq
/-- The node's box, behind a world. -/
structure PF (w : World) (cs : Array Value) (W : World) : Prop where
  box : W.heap[w.heap.size]? = some (.cells cs 24 (0, 0))
  below : Below w.heap.size w W
theorem PF.kept {w : World} {cs : Array Value} {W W' : World} (h : PF w cs W) (hb : Below W.heap.size W W') : PF w cs W' :=
  ⟨(hb.block _ (lt_of_obj h.box)).trans h.box, h.below.trans (hb.mono h.below.size)⟩
theorem PF.start (w : World) (cs : Array Value) : PF w cs (w.alloc (.cells cs 24)) := ⟨heap_alloc_new w _, (Below.refl _ w).alloc (Nat.le_refl _) _⟩
theorem getPF {w : World} {cs : Array Value} {v : Value} {W : World} (h : W.cell? ⟨w.heap.size, 4, none⟩ = some v ∧ PF w cs W) : PF w cs W := h.2
set_option maxHeartbeats 4000000 in
theorem find_any (k m : Int) (d t : ByteArray) (a : Option Addr) (n cap : Nat) (l : List En) (nm : ByteArray) (w : World) (hE : Ents a n l w) (hn : n ≤ 1000000) :
    Calls Try.prog 13 #[nv k m d t a n cap, .string nm] w (Found l nm w) := by
  have HNL := Lib.hid hE.count
  have HE := Lib.hid (fun W (hb : Below w.heap.size w W) => hE.below hb)
  have HIx := Lib.hid (show ∀ W g g', g' = g → W.cell? ⟨g, 0, none⟩ = some (.string nm) → Below w.heap.size w W → Calls Try.prog 27 #[.slice a n cap, .func (.func 43) #[] #[.pointer (some ⟨g', 0, none⟩)]] W fun e w' => e = .returned (.int .i64 (ixz (isNm nm) l)) ∧ Below W.heap.size W w' from fun W g g' e hg hb => by subst e; exact ixf43_any a n cap l nm _ W (hE.below hb) hn hg)
  have HP := Lib.hid (PF.start w #[.int .i64 k, .int .i64 m, .string d, .string t, .slice a n cap])
  have hni : (n : Int) ≤ 1000000 := by omega
  have HF := Lib.hid (Nd.find_place l nm z0)
  clear hE
  have c4 : (w.alloc (.cells #[.int .i64 k, .int .i64 m, .string d, .string t, .slice a n cap] 24)).cell? ⟨w.heap.size, 4, none⟩ = some (.slice a n cap) := cell_obj HP.out.box 4
  have HPd := Lib.hid (HP.out.kept (Below.refl _ _).drew)
  by_cases h : Nd.place (isNm nm) l < l.length
  · rw [show ixz (isNm nm) l = (Nd.place (isNm nm) l : Int) by unfold ixz; rw [if_pos h]] at HIx
    have HF2 := Lib.hid (HF.out.trans (if_pos h))
    have hln : Nd.place (isNm nm) l < n := by have := HNL.out; omega
    change Hid (Nd.find l nm = some (l.getD (Nd.place (isNm nm) l) z0).2) at HF2
    clear h HF
    obtain ⟨b, off, rfl, _, _⟩ := (HE.out _ (Below.refl _ _)).cell _ hln
    have HC := Lib.hid (fun W (hb : Below w.heap.size w W) => (HE.out W hb).cell _ hln)
    generalize Nd.place (isNm nm) l = z at *
    generalize l.getD z z0 = x at *
    have hz0 : (0 : Int) ≤ (z : Int) := by omega
    have hz1 : (z : Int) < (n : Int) := by omega
    go_enter Try.func13, Try.ntmps13
    go_wp2_with fail
    go_region_held3 (fun W => W.cell? ⟨w.heap.size, 4, none⟩ = some (.slice (some ⟨b, off, none⟩) n cap) ∧ PF w #[.int .i64 k, .int .i64 m, .string d, .string t, .slice (some ⟨b, off, none⟩) n cap] W)
      (first | exact ⟨cell_obj HPd.out.box 4, HPd.out⟩ | exact ⟨cell_obj pB.out.box 4, pB.out⟩ | exact ⟨cell_obj pA.out.box 4, pA.out⟩ | assumption)
      (first
        | (go_at_call 28; (with_reducible refine (named_any nm _).mono ?_); rintro e wA ⟨rfl, hcA, hA⟩; have pA := Lib.hid (PF.kept (getPF (by assumption)) hA); clear hA)
        | (go_at_call 27; (with_reducible refine (HIx.out _ _ _ (by simp) hcA (PF.below (getPF (by assumption)))).mono ?_); rintro e wB ⟨rfl, hB⟩; have pB := Lib.hid (PF.kept (getPF (by assumption)) hB); clear hB))
    have cB : wB.cell? ⟨w.heap.size, 4, none⟩ = some (.slice (some ⟨b, off, none⟩) n cap) := cell_obj pB.out.box 4
    obtain ⟨b', off', eb, c0, c1⟩ := HC.out _ pB.out.below
    obtain ⟨rfl, rfl⟩ : b' = b ∧ off' = off := by cases eb; exact ⟨rfl, rfl⟩
    go_wp2_with fail
    go_ret2
    show Found l nm w _ _
    unfold Found
    rw [HF2.out]
    exact ⟨rfl, pB.out.below⟩
  · rw [show ixz (isNm nm) l = -1 by unfold ixz; rw [if_neg h]] at HIx
    have HF2 := Lib.hid (HF.out.trans (if_neg h))
    clear h HF
    go_enter Try.func13, Try.ntmps13
    go_wp2_with fail
    go_region_held3 (fun W => W.cell? ⟨w.heap.size, 4, none⟩ = some (.slice a n cap) ∧ PF w #[.int .i64 k, .int .i64 m, .string d, .string t, .slice a n cap] W)
      (first | exact ⟨cell_obj HPd.out.box 4, HPd.out⟩ | exact ⟨cell_obj pB.out.box 4, pB.out⟩ | exact ⟨cell_obj pA.out.box 4, pA.out⟩ | assumption)
      (first
        | (go_at_call 28; (with_reducible refine (named_any nm _).mono ?_); rintro e wA ⟨rfl, hcA, hA⟩; have pA := Lib.hid (PF.kept (getPF (by assumption)) hA); clear hA)
        | (go_at_call 27; (with_reducible refine (HIx.out _ _ _ (by simp) hcA (PF.below (getPF (by assumption)))).mono ?_); rintro e wB ⟨rfl, hB⟩; have pB := Lib.hid (PF.kept (getPF (by assumption)) hB); clear hB))
    go_wp2_with fail
    go_ret2
    show Found l nm w _ _
    unfold Found
    rw [HF2.out]
    exact ⟨rfl, pB.out.below⟩
end Go.Proofs.Yteieehjggiiljaa
