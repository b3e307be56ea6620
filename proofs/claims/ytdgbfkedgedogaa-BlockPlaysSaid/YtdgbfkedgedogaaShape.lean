/- How the laws' inputs read. -/
import Derived.Test.YtdgbfkedgedogaaAwake
import Derived.Test.YtdgbfkedgedogaaCounts
import Derived.ProofKit
import Derived.SizedLaws
import Derived.OpenShut
import Derived.ChangeMaps5
import Derived.Lib.SmallJoins
import Derived.Deep.Grids
import Derived.Deep.Fields
namespace Go.Proofs.Ytdgbfkedgedogaa
open Go.ChangeShapes Go.WideShapes Go.ChangeAt Go.RowKit Go.Joins Go.Deep

theorem own : ownKnob Try.prog.godebug = none := by kernel_rfl
theorem laidOut : laidOutB Try.prog = true := by kernel_rfl
theorem word64 {n : Int} (h : (Lit.int .u64 n).wf = true) : ∃ T : BitVec 64, n = Ytdgbfkedgedogaa.u64 T := by
  have hb := bounds_u64 h
  refine ⟨BitVec.ofNat 64 n.toNat, ?_⟩
  unfold Ytdgbfkedgedogaa.u64
  rw [BitVec.toNat_ofNat]
  omega
theorem bools_at {w : World} {a : Addr} {len : Nat} {B : Nat → Bool} (h : ∀ i, i < len → w.cell? (a.add i) = some (.bool (B i))) : Bools (some a) len ((List.range len).map B) w := by
  refine ⟨by simp, fun i hi => ?_⟩
  obtain ⟨b, off, spot⟩ := a
  have hspot : spot = none := by simpa [Addr.add] using World.cell?_spot (h 0 (by omega))
  subst hspot
  refine ⟨b, off, rfl, ?_⟩
  rw [← Go.WideShapes.add_plain, h i hi]
  simp [List.getD, hi]

/-! ### Rows of calls -/
theorem size3 : Try.prog.cellsOf 3 = 1 := by kernel_rfl
theorem size9 : Try.prog.cellsOf 9 = 1 := by kernel_rfl
theorem size31 : Try.prog.cellsOf 31 = 1 := by kernel_rfl
theorem size33 : Try.prog.cellsOf 33 = 2 := by kernel_rfl
theorem size38 : Try.prog.cellsOf 38 = 5 := by kernel_rfl
theorem deed_of {H : Type} {enc : TypeId × Value → H} {w : World} {base n : Nat} {sp : Nat → Bool} {held : Bool} {cs : List Value} {x : DataW H × List MemPlace} (h : DataW.trod enc Try.prog w base sp held n 38 cs = some x) (hl : cs.length = 5) :
    ∃ y : Deed, cs = y.cells ∧ (ik y.kind).wf = true ∧ (ik y.at_).wf = true ∧ y.data.size ≤ maxLen ∧ (ik y.cut).wf = true := by
  obtain ⟨ys, n', hn', hy, hlen, hyl, hf⟩ := DataW.trod_struct Try.underlying38 h
  match cs, hl with
  | [c0, c1, c2, c3, c4], _ =>
    match ys, hyl with
    | [y0, y1, y2, y3], _ =>
      have h0 : DataW.trod enc Try.prog w base sp held n' 3 (([c0, c1, c2, c3, c4].drop 0).take (Try.prog.cellsOf 3)) = some y0 := hf 0 _ rfl
      have h1 : DataW.trod enc Try.prog w base sp held n' 3 (([c0, c1, c2, c3, c4].drop 1).take (Try.prog.cellsOf 3)) = some y1 := hf 1 _ rfl
      have h2 : DataW.trod enc Try.prog w base sp held n' 9 (([c0, c1, c2, c3, c4].drop 2).take (Try.prog.cellsOf 9)) = some y2 := hf 2 _ rfl
      have h3 : DataW.trod enc Try.prog w base sp held n' 33 (([c0, c1, c2, c3, c4].drop 3).take (Try.prog.cellsOf 33)) = some y3 := hf 3 _ rfl
      rw [size3] at h0 h1
      rw [size9] at h2
      rw [size33] at h3
      obtain ⟨k, e0, _, wk⟩ := DataW.trod_int Try.underlying3 (x := y0) h0
      obtain ⟨a, e1, _, wa⟩ := DataW.trod_int Try.underlying3 (x := y1) h1
      obtain ⟨d, e2, _, wd⟩ := DataW.trod_string Try.underlying9 (x := y2) h2
      obtain ⟨zs, m', hm', hz, hzl, hzz, hg⟩ := DataW.trod_struct (x := y3) Try.underlying33 h3
      match zs, hzz with
      | [z0, z1], _ =>
        have g0 : DataW.trod enc Try.prog w base sp held m' 3 (((([c0, c1, c2, c3, c4].drop 3).take 2).drop 0).take (Try.prog.cellsOf 3)) = some z0 := hg 0 _ rfl
        have g1 : DataW.trod enc Try.prog w base sp held m' 31 (((([c0, c1, c2, c3, c4].drop 3).take 2).drop 1).take (Try.prog.cellsOf 31)) = some z1 := hg 1 _ rfl
        rw [size3] at g0
        rw [size31] at g1
        obtain ⟨c, e3, _, wc⟩ := DataW.trod_int Try.underlying3 (x := z0) g0
        obtain ⟨q, e4, _, wq⟩ := DataW.trod_int Try.underlying31 (x := z1) g1
        obtain ⟨K, rfl⟩ := word64 wq
        simp only [List.drop_succ_cons, List.drop_zero, List.take_succ_cons, List.take_zero, List.cons.injEq, and_true] at e0 e1 e2 e3 e4
        subst e0 e1 e2 e3 e4
        exact ⟨⟨k, a, d, c, K⟩, rfl, wk, wa, wd, wc⟩
theorem open_deeds {H : Type} {enc : TypeId × Value → H} {w : World} {base fuel : Nat} {held : Bool} {cs : List Value} {x : DataW H × List MemPlace} (h : DataW.trod enc Try.prog w base (fun _ => true) held fuel 22 cs = some x) :
    (cs = [.slice none 0 0] ∧ x = (.nil, [])) ∨
    ∃ (a : Addr) (len cap : Nat) (l : List Deed) (D1 D2 : List (DataW H)), cs = [.slice (some a) len cap] ∧ len ≤ cap ∧ x.1 = .slice D1 D2 ∧ D1.length = len ∧ Deeds (some a) len l w := by
  rcases open_slice Try.underlying22 h with h0 | ⟨a, len, cap, m, n, D, Pl, hcs, hb, hl, hm, hmm, hx, hi⟩
  · exact .inl h0
  right
  have hlm : len ≤ m := by rw [hmm]; split <;> omega
  have hy : ∀ i, i < len → ∃ y : Deed, (∀ j v, y.cells[j]? = some v → w.cell? (a.add (i * 5 + j)) = some v) ∧ (ik y.kind).wf = true ∧ (ik y.at_).wf = true ∧ y.data.size ≤ maxLen ∧ (ik y.cut).wf = true := fun i hil => by
    obtain ⟨cs', hc, ht⟩ := hi i (by omega)
    rw [size38] at hc
    obtain ⟨_, hcl, hcc⟩ := World.cells?_some hc
    obtain ⟨y, hy, hw⟩ := deed_of ht hcl
    refine ⟨y, fun j v hv => ?_, hw⟩
    have hj : j < 5 := (List.getElem?_eq_some_iff.1 hv).1
    have := hcc j hj
    rw [Go.Deep.add_add] at this
    rw [this, hy, hv]
  haveI : Inhabited Deed := ⟨deed0⟩
  obtain ⟨f, hf⟩ := choose_lt hy
  refine ⟨a, len, cap, (List.range len).map f, _, _, hcs, hl, by rw [hx], by simp, ?_⟩
  refine ⟨by simp, fun i hil => ?_, fun y hy => ?_⟩
  · obtain ⟨b, off, spot⟩ := a
    have hspot : spot = none := by simpa [Addr.add] using World.cell?_spot ((hf 0 (by omega)).1 0 _ rfl)
    subst hspot
    refine ⟨b, off, rfl, fun j v hv => ?_⟩
    have hg : ((List.range len).map f).getD i deed0 = f i := by simp [List.getD, hil]
    rw [hg] at hv
    have := (hf i hil).1 j v hv
    rw [Go.WideShapes.add_plain] at this
    rw [Nat.add_assoc]; exact this
  · obtain ⟨i, hi, rfl⟩ := List.mem_map.1 hy
    exact (hf i (List.mem_range.1 hi)).2
theorem deeds_count {H : Type} {ts : List TypeId} {ds : List (DataW H)} (hsz : (DataW.weightsEach Try.prog ts ds).all (· ≤ reachBytes) = true) {j len : Nat} {D1 D2 : List (DataW H)} (ht : ts[j]? = some 22) (hd : ds[j]? = some (.slice D1 D2)) (hl : D1.length = len) : len ≤ 140737488355328 := by
  have hb := sized_slice hsz ht hd Try.underlying22
  have h1 : 1 ≤ Try.prog.bytesOf 38 := by rw [show Try.prog.bytesOf 38 = 48 by kernel_rfl]; decide
  have h2 : len ≤ (D1.length + D2.length) * Try.prog.bytesOf 38 := by
    rw [hl]
    exact Nat.le_trans (Nat.le_add_right len D2.length) (Nat.le_mul_of_pos_right _ h1)
  have : reachBytes ≤ 140737488355328 := by decide
  omega
end Go.Proofs.Ytdgbfkedgedogaa
