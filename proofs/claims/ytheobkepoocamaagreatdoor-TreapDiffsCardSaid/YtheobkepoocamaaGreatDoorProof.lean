/- How rows of acts that come in read; where the tables lie when the call begins. TreapDiffs: whatever the two rows of acts, the law answers true; all reads as before. Conditions: those of the form alone. -/
import Derived.Test.YtheobkepoocamaaGreatDoorRows
import Derived.Test.YtheobkepoocamaaGreatDoorLaw
import Derived.ProofKit
import Derived.LaidMore
import Derived.Lay
import Derived.Carry
import Derived.OpenShut
import Derived.SizedLaws
import Derived.ChangeMaps5
import Derived.Lib.SmallJoins
import Derived.Deep.Grids
import Derived.Deep.Fields
import Derived.Stop.Joined
import Derived.Stop.LaidErr
import Derived.Lib.LaidTab
namespace Go.Proofs.YtheobkepoocamaaGreatDoor
set_option maxRecDepth 100000
open Go.ChangeShapes Go.WideShapes Go.ChangeAt Go.WideMaps Go.WideElems Go.RowKit Go.Joins Go.Deep Sha

theorem own : ownKnob Tryz.prog.godebug = none := by kernel_rfl
theorem laidOut : laidOutB Tryz.prog = true := by kernel_rfl
def startZ : List Int := (List.range 8).map fun j => u32 (init.get j)
def roundZ : List Int := (List.range 64).map fun j => u32 (kAt j)
theorem of_laid {n1 n2 : String} {d1 d2 : DataW Unit} {W : World} (h : laidMet Tryz.prog [(n1, d1), (n2, d2)] W) (e1 : d1 = Lib.tabData .u32 startZ) (e2 : d2 = Lib.tabData .u32 roundZ)
    (hg1 : Tryz.prog.globalNamed n1 = some 1) (hg2 : Tryz.prog.globalNamed n2 = some 2) : Dg W := by
  subst e1 e2
  have t1 := Lib.tabIs_of_head (n := 8) (e := 98) hg1 (show _ = some 117 by kernel_rfl) Tryz.underlying117 Tryz.underlying98 (by kernel_rfl) (by kernel_rfl) h
  have t2 := Lib.tabIs_of_head (n := 64) (e := 98) hg2 (show _ = some 118 by kernel_rfl) Tryz.underlying118 Tryz.underlying98 (by kernel_rfl) (by kernel_rfl) h.tail
  refine ⟨fun j hj => ?_, fun j hj => ?_⟩
  · rw [t2.cell hg2 j (by simp [roundZ]; omega)]
    simp [roundZ, List.getD, hj]
  · rw [t1.cell hg1 j (by simp [startZ]; omega)]
    simp [startZ, List.getD, hj]
theorem size4 : Tryz.prog.cellsOf 4 = 1 := by kernel_rfl
theorem size9 : Tryz.prog.cellsOf 9 = 1 := by kernel_rfl
theorem size46 : Tryz.prog.cellsOf 46 = 3 := by kernel_rfl
theorem act_of {H : Type} {enc : TypeId × Value → H} {w : World} {base n : Nat} {sp : Nat → Bool} {held : Bool} {cs : List Value} {x : DataW H × List MemPlace} (h : DataW.trod enc Tryz.prog w base sp held n 46 cs = some x) (hl : cs.length = 3) :
    ∃ y : AcT, cs = acell y := by
  obtain ⟨ys, n', hn', hy, hlen, hyl, hf⟩ := DataW.trod_struct Tryz.underlying46 h
  match cs, hl with
  | [c0, c1, c2], _ =>
    match ys, hyl with
    | [y0, y1, y2], _ =>
      have h0 : DataW.trod enc Tryz.prog w base sp held n' 9 (([c0, c1, c2].drop 0).take (Tryz.prog.cellsOf 9)) = some y0 := hf 0 _ rfl
      have h1 : DataW.trod enc Tryz.prog w base sp held n' 9 (([c0, c1, c2].drop 1).take (Tryz.prog.cellsOf 9)) = some y1 := hf 1 _ rfl
      have h2 : DataW.trod enc Tryz.prog w base sp held n' 4 (([c0, c1, c2].drop 2).take (Tryz.prog.cellsOf 4)) = some y2 := hf 2 _ rfl
      rw [size9] at h0 h1
      rw [size4] at h2
      obtain ⟨k, e0, _, _⟩ := DataW.trod_string Tryz.underlying9 (x := y0) h0
      obtain ⟨v, e1, _, _⟩ := DataW.trod_string Tryz.underlying9 (x := y1) h1
      obtain ⟨g, e2, _⟩ := DataW.trod_bool Tryz.underlying4 (x := y2) h2
      simp only [List.drop_succ_cons, List.drop_zero, List.take_succ_cons, List.take_zero, List.cons.injEq, and_true] at e0 e1 e2
      subst e0 e1 e2
      exact ⟨⟨k, v, g⟩, rfl⟩
/-- A row of acts that came in. -/
structure Arg (a : Option Addr) (len cap : Nat) (w : World) : Prop where
  at_ : ∃ l, Ats a len l w
  short : len ≤ 140737488355328
  nil : a = none → len = 0 ∧ cap = 0
theorem acts_open {H : Type} {enc : TypeId × Value → H} {w : World} {base : Nat} {held : Bool} {ts : List TypeId} {ds : List (DataW H)} {j : Nat} {a : Option Addr} {len cap : Nat} {d : DataW H} {ps : List MemPlace}
    (hsz : (DataW.weightsEach Tryz.prog ts ds).all (· ≤ reachBytes) = true) (ht : ts[j]? = some 22) (hd : ds[j]? = some d) (h : DataW.Trod enc Tryz.prog w base (fun _ => true) held 22 (.slice a len cap) d ps) : Arg a len cap w := by
  obtain ⟨fuel, hf⟩ := h
  rcases open_slice Tryz.underlying22 hf with ⟨hcs, hx⟩ | ⟨a', len', cap', m, n, D, Pl, hcs, hb, hl, hm, hmm, hx, hi⟩
  · have hq : Value.slice a len cap = .slice none 0 0 := by simpa [Value.cells] using hcs
    injection hq with e1 e2 e3
    subst e1 e2 e3
    exact ⟨⟨[], rfl, fun i hi => by omega⟩, by decide, fun _ => ⟨rfl, rfl⟩⟩
  · have hq : Value.slice a len cap = .slice (some a') len' cap' := by simpa [Value.cells] using hcs
    injection hq with e1 e2 e3
    subst e1 e2 e3
    have hlm : len ≤ m := by rw [hmm]; split <;> omega
    have hy : ∀ i, i < len → ∃ y : AcT, ∀ j v, (acell y)[j]? = some v → w.cell? (a'.add (i * 3 + j)) = some v := fun i hil => by
      obtain ⟨cs', hc, ht⟩ := hi i (by omega)
      rw [size46] at hc
      obtain ⟨_, hcl, hcc⟩ := World.cells?_some hc
      obtain ⟨y, hy⟩ := act_of ht hcl
      refine ⟨y, fun j v hv => ?_⟩
      have hj : j < 3 := (List.getElem?_eq_some_iff.1 hv).1
      have := hcc j hj
      rw [Go.Deep.add_add] at this
      rw [this, hy, hv]
    haveI : Inhabited AcT := ⟨a0⟩
    obtain ⟨f, hf2⟩ := choose_lt hy
    refine ⟨⟨(List.range len).map f, by simp, fun i hil => ?_⟩, ?_, fun e => by cases e⟩
    · obtain ⟨b, off, spot⟩ := a'
      have hspot : spot = none := by simpa [Addr.add] using World.cell?_spot (hf2 0 (by omega) 0 _ rfl)
      subst hspot
      have hg : ((List.range len).map f).getD i a0 = f i := by simp [List.getD, hil]
      rw [hg]
      have q : ∀ j v, (acell (f i))[j]? = some v → w.cell? ⟨b, off + i * 3 + j, none⟩ = some v := fun j v hv => by
        have := hf2 i hil j v hv
        rw [Go.WideShapes.add_plain] at this
        rw [Nat.add_assoc]; exact this
      exact ⟨b, off, rfl, q 0 _ rfl, q 1 _ rfl, q 2 _ rfl⟩
    · simp only [Prod.mk.injEq] at hx
      obtain ⟨rfl, _⟩ := hx
      have hbd := sized_slice hsz (j := j) (t := 22) ht hd Tryz.underlying22
      have h1 : 1 ≤ Tryz.prog.bytesOf 46 := by rw [show Tryz.prog.bytesOf 46 = 40 by kernel_rfl]; decide
      have h2 : len ≤ (((List.range len).map D).length + ((List.range (m - len)).map fun j => D (len + j)).length) * Tryz.prog.bytesOf 46 := by
        refine Nat.le_trans ?_ (Nat.le_mul_of_pos_right _ h1)
        simp
      have : reachBytes ≤ 140737488355328 := by decide
      omega
end Go.Proofs.YtheobkepoocamaaGreatDoor
namespace Go.Proofs.YtheobkepoocamaaGreatDoor
open Go.ChangeShapes Go.WideShapes Go.ChangeAt Go.WideMaps Go.WideElems Go.RowKit Go.Joins Go.Deep Sha

set_option maxRecDepth 100000 in
theorem treapDiffs_lifted (os : Os) (started : os.Started) (H : Type) (enc : TypeId × Value → H) :
    ReturnsInHanded {} Tryz.checked os 3 .any (fun w args => (Rows.treapDiffsSpec.pre enc Tryz.prog Tryz.f3 [] false w args ∧ laidMetH Tryz.prog Rows.treapDiffsRow.laid w) ∧ sizedMet enc Tryz.prog Tryz.f3 (OpenSpec.ofChange Rows.treapDiffsSpec) false w args)
      (Rows.treapDiffsSpec.post enc Tryz.prog Tryz.f3 false true false false) := by
  refine returnsInHanded_of_change_and (C := Tryz.checked) (X := fun w _ => laidMetH Tryz.prog Rows.treapDiffsRow.laid w) (fun _ _ _ hh h => h.of_heap hh) own started (by kernel_rfl) Tryz.func3
    (ChangeSpec.witness_shaped (enc := enc) (C := Tryz.checked) (os := os) (X := fun w _ => laidMetH Tryz.prog Rows.treapDiffsRow.laid w) false (World.laidAll Tryz.prog os Rows.treapDiffsRow.laid) #[.slice none 0 0, .slice none 0 0] 8 (World.laidAll_os _ _ _)
      (World.shaped_of_ZipB (by kernel_rfl) (by kernel_rfl)) (by kernel_rfl) (by kernel_rfl) (by kernel_rfl)
      (by rw [MakeChecks.laidMetH_plain _ _ _ (by kernel_rfl)]; exact laidMet_laidAll _ (by kernel_rfl) (by kernel_rfl))) ?_
  intro W base args ds gs before hval0 hW _ hsz0 hL _
  have hsz : (DataW.weightsEach Tryz.prog (Tryz.f3.params.toList ++ Rows.treapDiffsSpec.plain.varTypes Tryz.prog) (ds ++ gs)).all (· ≤ reachBytes) = true := hsz0
  clear hsz0
  have hval : ∀ (j : Nat) t v, Tryz.f3.params[j]? = some t → args[j]? = some v → Value.okWide Tryz.prog W .any base t v := hval0
  have hW' := hW
  obtain ⟨p, q, hA0, hV, rfl, hfz, hnd⟩ := hW
  have hA : DataW.TrodAll enc Tryz.prog W 0 (fun _ => true) true Tryz.f3.params.toList args.toList ds p := hA0
  rw [Tryz.params3] at hA hval hsz
  obtain ⟨v0, v1, d0, d1, p0, p1, rfl, rfl, rfl, h0, h1⟩ := trodAll_two hA
  obtain ⟨rfl, rfl⟩ := trodVars_none hV
  rw [MakeChecks.laidMetH_plain _ _ _ (by kernel_rfl)] at hL
  have hDg := of_laid hL (by kernel_rfl) (by kernel_rfl) (by kernel_rfl) (by kernel_rfl)
  have h0k := h0
  have h1k := h1
  obtain ⟨a, na, ca, rfl⟩ := okWide_slice Tryz.underlying22 (hval 0 22 v0 rfl rfl)
  obtain ⟨b, nb, cb, rfl⟩ := okWide_slice Tryz.underlying22 (hval 1 22 v1 rfl rfl)
  obtain ⟨⟨la, hA1⟩, hsa, hna⟩ := acts_open hsz (j := 0) rfl rfl h0
  obtain ⟨⟨lb, hB1⟩, hsb, hnb⟩ := acts_open hsz (j := 1) rfl rfl h1
  clear hA0 hval0
  simp only [List.append_nil] at hW'
  refine (law_any hA1 hB1 hna hnb hsa hsb hDg).mono ?_
  rintro e W2 ⟨rfl, hn⟩
  have hlt : ∀ x ∈ p0 ++ p1, x.block < W.heap.size := fun x hx => by simpa using hW'.lt x (by simpa using hx)
  refine ⟨_, rfl, _, _, _, [], p0 ++ p1, [], hW', ?_, ?_, rfl, hn.frame _, fun h => by cases h⟩
  · exact trodAll_mk1 (shut_bool Tryz.underlying4 _)
  · exact trodAll_mk2 (Below.trod laidOut (by kernel_rfl) (of_decide_eq_true (by kernel_rfl)) h0k hn (fun x hx => hlt x (List.mem_append_left _ hx))) (Below.trod laidOut (by kernel_rfl) (of_decide_eq_true (by kernel_rfl)) h1k hn (fun x hx => hlt x (List.mem_append_right _ hx)))

theorem treapDiffs_holds : Rows.TreapDiffsSaid :=
  OpenClaim.holds_of_wide 3 Tryz.f3 rfl rfl rfl rfl rfl rfl rfl ⟨rfl, rfl, rfl, rfl, rfl⟩ rfl rfl rfl rfl rfl (by kernel_rfl) Tryz.func3 (by kernel_rfl)
    (of_decide_eq_true (by kernel_rfl)) (by unfold Func.isWrapper; first | (rw [if_pos (by decide +kernel)]; kernel_rfl) | (rw [if_neg (by decide +kernel)]; exact ⟨rfl, rfl⟩))
    (fun os started H enc _ => treapDiffs_lifted os started H enc)
end Go.Proofs.YtheobkepoocamaaGreatDoor
