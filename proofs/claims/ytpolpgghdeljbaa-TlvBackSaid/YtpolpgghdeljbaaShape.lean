/- How the laws' inputs read. -/
import Derived.Test.YtpolpgghdeljbaaAwake
import Derived.ProofKit
import Derived.SizedLaws
import Derived.OpenShut
import Derived.ChangeMaps5
import Derived.Carry
import Derived.Lib.SmallJoins
import Derived.Deep.Grids
namespace Go.Proofs.Ytpolpgghdeljbaa
open Go.ChangeShapes Go.WideShapes Go.ChangeAt Go.RowKit Go.Joins Go.Deep

theorem own : ownKnob Try.prog.godebug = none := by kernel_rfl
theorem laidOut : laidOutB Try.prog = true := by kernel_rfl
/-- A record that comes in. -/
theorem rec_in {H : Type} {enc : TypeId × Value → H} {w : World} {base b0 : Nat} {sp : Nat → Bool} {held : Bool} {r : Reach} {v : Value} {d : DataW H} {p : List MemPlace} (hv : Value.okWide Try.prog w r b0 38 v) (h : DataW.Trod enc Try.prog w base sp held 38 v d p) :
    ∃ x : Tlv.R, v = rv x := by
  obtain ⟨x0, x1, x2, y0, y1, y2, n, rfl, -, -, t0, t1, t2⟩ := open_agg3 Try.underlying38 (by kernel_rfl) (by kernel_rfl) hv h
  obtain ⟨k, e0, _, _⟩ := DataW.trod_int Try.underlying3 t0
  obtain ⟨s, e1, _, _⟩ := DataW.trod_int Try.underlying3 t1
  obtain ⟨q, e2, _, _⟩ := DataW.trod_string Try.underlying9 t2
  injection e0 with e0 _
  injection e1 with e1 _
  injection e2 with e2 _
  subst e0 e1 e2
  exact ⟨(k, s, q.data.toList), rfl⟩
end Go.Proofs.Ytpolpgghdeljbaa
