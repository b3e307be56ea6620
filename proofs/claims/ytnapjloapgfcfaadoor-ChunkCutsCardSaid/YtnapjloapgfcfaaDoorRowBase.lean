/- What the rows of this layer share: the tables, the start, the arguments. -/
import Derived.Test.YtnapjloapgfcfaaDoorRows
import Derived.Test.YtnapjloapgfcfaaDoorTells
import Derived.ProofKit
import Derived.LaidMore
import Derived.Lay
import Derived.Carry
import Derived.OpenShut
import Derived.Stop.Joined
import Derived.Stop.LaidErr
import Derived.Lib.LaidTab
namespace Go.Proofs.YtnapjloapgfcfaaDoor
open Go.ChangeShapes Go.WideShapes Go.ChangeAt Go.WideMaps Go.WideElems Go.RowKit Sha

theorem own : ownKnob Tryd.prog.godebug = none := by kernel_rfl
theorem laidOut : laidOutB Tryd.prog = true := by kernel_rfl
def startZ : List Int := (List.range 8).map fun j => u32 (init.get j)
def roundZ : List Int := (List.range 64).map fun j => u32 (kAt j)
theorem of_laid {n0 n1 n2 n3 : String} {d0 d1 d2 d3 : DataW Unit} {W : World} (h : laidMet Tryd.prog [(n0, d0), (n1, d1), (n2, d2), (n3, d3)] W) (e1 : d1 = Lib.tabData .u32 startZ) (e2 : d2 = Lib.tabData .u32 roundZ)
    (hg1 : Tryd.prog.globalNamed n1 = some 0) (hg2 : Tryd.prog.globalNamed n2 = some 1) : IOk W ∧ KOk W := by
  subst e1 e2
  have t1 := Lib.tabIs_of_head (n := 8) (e := 59) hg1 (show _ = some 60 by kernel_rfl) Tryd.underlying60 Tryd.underlying59 (by kernel_rfl) (by kernel_rfl) h.tail
  have t2 := Lib.tabIs_of_head (n := 64) (e := 59) hg2 (show _ = some 61 by kernel_rfl) Tryd.underlying61 Tryd.underlying59 (by kernel_rfl) (by kernel_rfl) h.tail.tail
  refine ⟨fun j hj => ?_, fun j hj => ?_⟩
  · rw [t1.cell hg1 j (by simp [startZ]; omega)]
    simp [startZ, List.getD, hj]
  · rw [t2.cell hg2 j (by simp [roundZ]; omega)]
    simp [roundZ, List.getD, hj]
section
variable {H : Type} {enc : TypeId × Value → H} {P : Program} {w : World} {base : Nat} {spare : Nat → Bool} {held : Bool}
theorem trodAll_five {t0 t1 t2 t3 t4 : TypeId} {args : Array Value} {ds : List (DataW H)} {ps : List MemPlace} (h : DataW.TrodAll enc P w base spare held [t0, t1, t2, t3, t4] args.toList ds ps) :
    ∃ v0 v1 v2 v3 v4 d0 d1 d2 d3 d4 p0 p1 p2 p3 p4, args = #[v0, v1, v2, v3, v4] ∧ ds = [d0, d1, d2, d3, d4] ∧ ps = p0 ++ p1 ++ p2 ++ p3 ++ p4 ∧ DataW.Trod enc P w base spare held t0 v0 d0 p0 ∧ DataW.Trod enc P w base spare held t1 v1 d1 p1 ∧ DataW.Trod enc P w base spare held t2 v2 d2 p2 ∧ DataW.Trod enc P w base spare held t3 v3 d3 p3 ∧ DataW.Trod enc P w base spare held t4 v4 d4 p4 := by
  obtain ⟨v0, vs0, d0, ds0, p0, q0, hargs, rfl, rfl, h0, hr0⟩ := trodAll_cons h
  obtain ⟨v1, vs1, d1, ds1, p1, q1, rfl, rfl, rfl, h1, hr1⟩ := trodAll_cons hr0
  obtain ⟨v2, vs2, d2, ds2, p2, q2, rfl, rfl, rfl, h2, hr2⟩ := trodAll_cons hr1
  obtain ⟨v3, vs3, d3, ds3, p3, q3, rfl, rfl, rfl, h3, hr3⟩ := trodAll_cons hr2
  obtain ⟨v4, vs4, d4, ds4, p4, q4, rfl, rfl, rfl, h4, hr4⟩ := trodAll_cons hr3
  obtain ⟨rfl, rfl, rfl⟩ := trodAll_nil hr4
  exact ⟨v0, v1, v2, v3, v4, d0, d1, d2, d3, d4, p0, p1, p2, p3, p4, by cases args; simp_all, rfl, by simp, h0, h1, h2, h3, h4⟩
theorem trodAll_mk5 {t0 t1 t2 t3 t4 : TypeId} {v0 v1 v2 v3 v4 : Value} {d0 d1 d2 d3 d4 : DataW H} {p0 p1 p2 p3 p4 : List MemPlace} (h0 : DataW.Trod enc P w base spare held t0 v0 d0 p0) (h1 : DataW.Trod enc P w base spare held t1 v1 d1 p1)
    (h2 : DataW.Trod enc P w base spare held t2 v2 d2 p2) (h3 : DataW.Trod enc P w base spare held t3 v3 d3 p3) (h4 : DataW.Trod enc P w base spare held t4 v4 d4 p4) : DataW.TrodAll enc P w base spare held [t0, t1, t2, t3, t4] [v0, v1, v2, v3, v4] [d0, d1, d2, d3, d4] (p0 ++ (p1 ++ (p2 ++ (p3 ++ p4)))) := ⟨p0, p1 ++ (p2 ++ (p3 ++ p4)), h0, trodAll_mk4 h1 h2 h3 h4, rfl⟩
end
theorem bounds_i64 {c : Int} (wc : (Lit.int .i64 c).wf = true) : -9223372036854775808 ≤ c ∧ c ≤ 9223372036854775807 := by
  simpa [Lit.wf, IntKind.min, IntKind.max, IntKind.signed, IntKind.bits] using wc
theorem str_within {s : ByteArray} (h : s.data.toList.length ≤ reachBytes) : s.size ≤ 140737488355328 := by
  rw [Array.length_toList] at h
  simp only [reachBytes] at h
  exact Nat.le_trans h (by decide)
end Go.Proofs.YtnapjloapgfcfaaDoor
