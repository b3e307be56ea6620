/- The row of DigestTells, proved: whatever the texts and the tag, the law answers true. -/
import Derived.Test.YtcakhfgmbeakoaaDoorRows
import Derived.Test.YtcakhfgmbeakoaaDoorWalks
import Derived.ProofKit
import Derived.LaidMore
import Derived.OpenShut
import Derived.Stop.Joined
import Derived.Stop.LaidErr
import Derived.Lib.LaidTab
namespace Go.Proofs.YtcakhfgmbeakoaaDoor
open Go.ChangeShapes Go.WideShapes Go.ChangeAt Go.WideMaps Go.WideElems Go.RowKit Sha

theorem own : ownKnob Tryd.prog.godebug = none := by kernel_rfl
theorem laidOut : laidOutB Tryd.prog = true := by kernel_rfl
def startZ : List Int := (List.range 8).map fun j => u32 (init.get j)
def roundZ : List Int := (List.range 64).map fun j => u32 (kAt j)
theorem of_laid {n1 n2 : String} {d1 d2 : DataW Unit} {W : World} (h : laidMet Tryd.prog [(n1, d1), (n2, d2)] W) (e1 : d1 = Lib.tabData .u32 startZ) (e2 : d2 = Lib.tabData .u32 roundZ)
    (hg1 : Tryd.prog.globalNamed n1 = some 0) (hg2 : Tryd.prog.globalNamed n2 = some 1) : IOk W ∧ KOk W := by
  subst e1 e2
  have t1 := Lib.tabIs_of_head (n := 8) (e := 31) hg1 (show _ = some 32 by kernel_rfl) Tryd.underlying32 Tryd.underlying31 (by kernel_rfl) (by kernel_rfl) h
  have t2 := Lib.tabIs_of_head (n := 64) (e := 31) hg2 (show _ = some 41 by kernel_rfl) Tryd.underlying41 Tryd.underlying31 (by kernel_rfl) (by kernel_rfl) h.tail
  refine ⟨fun j hj => ?_, fun j hj => ?_⟩
  · rw [t1.cell hg1 j (by simp [startZ]; omega)]
    simp [startZ, List.getD, hj]
  · rw [t2.cell hg2 j (by simp [roundZ]; omega)]
    simp [roundZ, List.getD, hj]

theorem weightsAll_mem {H : Type} {P : Program} {e : TypeId} : ∀ {l : List (DataW H)} {d : DataW H}, d ∈ l → ∀ n ∈ d.weights P e, n ∈ DataW.weightsAll P e l
  | d' :: r, d, hd, n, hn => by
    simp only [DataW.weightsAll, List.mem_append]
    rcases List.mem_cons.1 hd with rfl | h
    · exact Or.inl hn
    · exact Or.inr (weightsAll_mem h n hn)
/-- The reach, of a text in a slice. -/
theorem sized_text {H : Type} {P : Program} {ts : List TypeId} {ds : List (DataW H)} (h : (DataW.weightsEach P ts ds).all (· ≤ reachBytes) = true) {j : Nat} {t e : TypeId} {elems spare : List (DataW H)} {bytes : List UInt8}
    (ht : ts[j]? = some t) (hd : ds[j]? = some (.slice elems spare)) (hu : P.underlying t = some (.slice e)) (hx : DataW.lit (.string bytes) ∈ elems) : bytes.length ≤ reachBytes := by
  refine of_decide_eq_true (List.all_eq_true.1 h _ (DataW.weights_mem_each ht hd _ ?_))
  simp only [DataW.weights, hu, List.mem_cons, List.mem_append]
  exact Or.inr (Or.inl (weightsAll_mem hx _ (by simp [DataW.weights])))
theorem texts_at {w : World} {a : Addr} {ss : List ByteArray} (h : ∀ i, i < ss.length → w.cell? (a.add i) = some (.string (ss.getD i ByteArray.empty))) (len : Nat) (hl : len ≤ ss.length) : Strs (some a) len (ss.take len) w := by
  refine ⟨by simp; omega, fun i hi => ?_⟩
  obtain ⟨b, off, spot⟩ := a
  have hspot : spot = none := by simpa [Addr.add] using World.cell?_spot (h 0 (by omega))
  subst hspot
  refine ⟨b, off, rfl, ?_⟩
  rw [← Go.WideShapes.add_plain, h i (by omega)]
  simp [List.getD, List.getElem?_take, hi]

set_option maxRecDepth 100000 in
theorem lifted (os : Os) (started : os.Started) (H : Type) (enc : TypeId × Value → H) :
    ReturnsInHanded {} Tryd.checked os 3 .any (fun w args => (Rows.digestTellsSpec.pre enc Tryd.prog Tryd.f3 [] false w args ∧ laidMetH Tryd.prog Rows.digestTellsRow.laid w) ∧ sizedMet enc Tryd.prog Tryd.f3 (OpenSpec.ofChange Rows.digestTellsSpec) false w args)
      (Rows.digestTellsSpec.post enc Tryd.prog Tryd.f3 false true false false) := by
  refine returnsInHanded_of_change_and (C := Tryd.checked) (X := fun w _ => laidMetH Tryd.prog Rows.digestTellsRow.laid w) (fun _ _ _ hh h => h.of_heap hh) own started (by kernel_rfl) Tryd.func3
    (ChangeSpec.witness_shaped (enc := enc) (C := Tryd.checked) (os := os) (X := fun w _ => laidMetH Tryd.prog Rows.digestTellsRow.laid w) false (World.doorLaid Tryd.prog 400 os) #[.slice none 0 0, .int .u8 0] 8 rfl (World.shaped_of_RefB (by kernel_rfl) (by kernel_rfl)) (by kernel_rfl) (by kernel_rfl) (by kernel_rfl)
      (laidMetH_of_parts3 (fuel := 8) (laidMet_of_run' 8 (by kernel_rfl) (by kernel_rfl)) (by kernel_rfl) (by kernel_rfl))) ?_
  intro W base args ds gs before hval0 hW _ hsz0 hL _
  have hsz : (DataW.weightsEach Tryd.prog (Tryd.f3.params.toList ++ Rows.digestTellsSpec.plain.varTypes Tryd.prog) (ds ++ gs)).all (· ≤ reachBytes) = true := hsz0
  clear hsz0
  have hval : ∀ (j : Nat) t v, Tryd.f3.params[j]? = some t → args[j]? = some v → Value.okWide Tryd.prog W .any base t v := hval0
  have hW' := hW
  obtain ⟨p, q, hA0, hV, rfl, hfz, hnd⟩ := hW
  have hA : DataW.TrodAll enc Tryd.prog W 0 (fun _ => true) true Tryd.f3.params.toList args.toList ds p := hA0
  rw [Tryd.params3] at hA hval hsz
  obtain ⟨v0, v1, d0, d1, p0, p1, rfl, rfl, rfl, h0, h1⟩ := trodAll_two hA
  obtain ⟨rfl, rfl⟩ := trodVars_none hV
  rw [MakeChecks.laidMetH_plain _ _ _ (by kernel_rfl)] at hL
  obtain ⟨hI, hK⟩ := of_laid hL (by kernel_rfl) (by kernel_rfl) (by kernel_rfl) (by kernel_rfl)
  have h0k := h0
  obtain ⟨a0, len, cap, rfl⟩ := okWide_slice Tryd.underlying22 (hval 0 22 v0 rfl rfl)
  obtain ⟨fuel, hf⟩ := h0
  obtain ⟨t, rfl, rfl, rfl, wt⟩ := open_int Tryd.underlying5 (hval 1 5 v1 rfl rfl) h1
  have hb : 0 ≤ t ∧ t ≤ 255 := bounds_u8 wt
  obtain ⟨tb, rfl⟩ : ∃ tb : UInt8, t = (tb.toNat : Int) := ⟨UInt8.ofNat t.toNat, by rw [UInt8.toNat_ofNat']; omega⟩
  clear hA0 hval0
  simp only [List.append_nil] at hW'
  have fin : ∀ W2, Below W.heap.size W W2 → Rows.digestTellsSpec.post enc Tryd.prog Tryd.f3 false true false false W #[.slice a0 len cap, .int .u8 (tb.toNat : Int)] (.bool true) W2 := by
    intro W2 hn
    have hlt : ∀ x ∈ p0, x.block < W.heap.size := fun x hx => by simpa using hW'.lt x (by simpa using hx)
    refine ⟨_, _, _, [], p0 ++ [], [], hW', ?_, ?_, rfl, hn.frame _, fun h => by cases h⟩
    · exact trodAll_mk1 (shut_bool Tryd.underlying4 _)
    · exact trodAll_mk2 (Below.trod laidOut (by kernel_rfl) (of_decide_eq_true (by kernel_rfl)) h0k hn hlt) (shut_int Tryd.underlying5 wt)
  have go : ∀ ss, (a0 = none → len = 0 ∧ cap = 0) → Strs a0 len ss W → (∀ i, i < len → (ss.getD i ByteArray.empty).size ≤ 140737488355328) → Calls Tryd.prog 3 #[.slice a0 len cap, .int .u8 (tb.toNat : Int)] W fun e W' => ∃ v, e = .returned v ∧ Rows.digestTellsSpec.post enc Tryd.prog Tryd.f3 false true false false W #[.slice a0 len cap, .int .u8 (tb.toNat : Int)] v W' := by
    intro ss hn0 hS hr
    refine (law_any a0 len cap ss tb W hK hI hS hr hn0).mono ?_
    rintro e W2 ⟨rfl, hn⟩
    exact ⟨_, rfl, fin W2 hn⟩
  rcases open_strings Tryd.underlying22 Tryd.underlying9 (by kernel_rfl) hf with ⟨hcs, hx⟩ | ⟨a, len', cap', ss, hcs, _, hl, hm, hz, hx, hcell, hws⟩
  · have hq : Value.slice a0 len cap = .slice none 0 0 := by simpa [Value.cells] using hcs
    injection hq with e1 e2 e3
    subst e1 e2 e3
    exact go [] (fun _ => ⟨rfl, rfl⟩) ⟨rfl, fun i hi => by omega⟩ (fun i hi => by omega)
  · have hq : Value.slice a0 len cap = .slice (some a) len' cap' := by simpa [Value.cells] using hcs
    injection hq with e1 e2 e3
    subst e1 e2 e3
    have hll : len ≤ ss.length := by rw [hz]; split <;> omega
    refine go (ss.take len) (fun e => by cases e) (texts_at hcell len hll) (fun i hi => ?_)
    simp only [Prod.mk.injEq] at hx
    obtain ⟨rfl, _⟩ := hx
    have hmem : DataW.lit (.string ((ss.take len).getD i ByteArray.empty).data.toList) ∈ strs (H := H) (ss.take len) := by
      have h2 : i < (ss.take len).length := by simp; omega
      refine List.mem_map.2 ⟨(ss.take len)[i], List.getElem_mem h2, ?_⟩
      simp [List.getD, List.getElem?_eq_getElem h2]
    have := sized_text hsz (j := 0) (t := 22) rfl rfl Tryd.underlying22 hmem
    simp only [reachBytes, Array.length_toList] at this
    exact Nat.le_trans this (by decide)

theorem digestTells_holds : Rows.DigestTellsSaid :=
  OpenClaim.holds_of_wide 3 Tryd.f3 rfl rfl rfl rfl rfl rfl rfl ⟨rfl, rfl, rfl, rfl, rfl⟩ rfl rfl rfl rfl rfl (by kernel_rfl) Tryd.func3 (by kernel_rfl)
    (of_decide_eq_true (by kernel_rfl)) (by unfold Func.isWrapper; first | (rw [if_pos (by decide +kernel)]; kernel_rfl) | (rw [if_neg (by decide +kernel)]; exact ⟨rfl, rfl⟩))
    (fun os started H enc _ => lifted os started H enc)
end Go.Proofs.YtcakhfgmbeakoaaDoor
