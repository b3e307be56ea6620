/- Layer 11, a part of the proofs: no statement of its own. -/
import Derived.Test.YthehblmjloohiaaGreatDoorRows
import Derived.ProofKit
import Derived.LaidMore
import Derived.Lay
import Derived.Carry
import Derived.OpenShut
import Derived.SizedLaws
import Derived.ChangeMaps5
import Derived.Lib.SmallJoins
import Derived.Deep.Fields
import Derived.Deep.Slices
import Derived.SliceStrings
import Derived.ChangeSame
import Derived.Stop.Joined
import Derived.Stop.LaidErr
import Derived.Lib.LaidTab
import Derived.Test.YthehblmjloohiaaGreatDoorM39
namespace Go.Proofs.YthehblmjloohiaaGreatDoor
set_option maxRecDepth 100000
open Go.ChangeShapes Go.WideShapes Go.ChangeAt Go.WideMaps Go.WideElems Go.RowKit Go.Joins Go.Deep
theorem own : ownKnob Tryz.prog.godebug = none := by kernel_rfl
theorem laidOut : laidOutB Tryz.prog = true := by kernel_rfl
def startZ : List Int := (List.range 8).map fun j => T8.u32 (Sha.init.get j)
def roundZ : List Int := (List.range 64).map fun j => T8.u32 (Sha.kAt j)
theorem of_laid {n1 n2 : String} {d1 d2 : DataW Unit} {W : World} (h : laidMet Tryz.prog [(n1, d1), (n2, d2)] W) (e1 : d1 = Lib.tabData .u32 startZ) (e2 : d2 = Lib.tabData .u32 roundZ)
  (hg1 : Tryz.prog.globalNamed n1 = some 0) (hg2 : Tryz.prog.globalNamed n2 = some 2) : T8.Dg W := by
 subst e1 e2
 have t1 := Lib.tabIs_of_head (n := 8) (e := 193) hg1 (show _ = some 194 by kernel_rfl) Tryz.underlying194 Tryz.underlying193 (by kernel_rfl) (by kernel_rfl) h
 have t2 := Lib.tabIs_of_head (n := 64) (e := 193) hg2 (show _ = some 195 by kernel_rfl) Tryz.underlying195 Tryz.underlying193 (by kernel_rfl) (by kernel_rfl) h.tail
 refine ⟨fun j hj => ?_, fun j hj => ?_⟩
 ·rw [t2.cell hg2 j (by simp [roundZ]; omega)]
  simp [roundZ, List.getD, hj]
 ·rw [t1.cell hg1 j (by simp [startZ]; omega)]
  simp [startZ, List.getD, hj]
theorem bounded {s : ByteArray} (h : s.data.toList.length ≤ reachBytes) : s.size ≤ 140737488355328 := by
 have e : s.data.toList.length = s.size := Array.length_toList
 rw [e] at h
 exact Nat.le_trans h (by decide)
theorem weightsAll_mem {H : Type} {P : Program} {e : TypeId} : ∀ {l : List (DataW H)} {d : DataW H}, d ∈ l → ∀ n ∈ d.weights P e, n ∈ DataW.weightsAll P e l
 | d' :: r, d, hd, n, hn => by
  simp only [DataW.weightsAll, List.mem_append]
  rcases List.mem_cons.1 hd with rfl | h
  ·exact Or.inl hn
  ·exact Or.inr (weightsAll_mem h n hn)
def vStr : Value → ByteArray | .string s => s | _ => ByteArray.empty
def vInt : Value → Int | .int _ z => z | _ => 0
def opAt (w : World) (a : Addr) (i : Nat) : Fs.Op :=
 ⟨vInt ((w.cell? (a.add (i * 7))).getD undef), vStr ((w.cell? (a.add (i * 7 + 1))).getD undef), vStr ((w.cell? (a.add (i * 7 + 2))).getD undef), vInt ((w.cell? (a.add (i * 7 + 3))).getD undef), vInt ((w.cell? (a.add (i * 7 + 4))).getD undef), vInt ((w.cell? (a.add (i * 7 + 5))).getD undef), vStr ((w.cell? (a.add (i * 7 + 6))).getD undef)⟩
section
variable {H : Type} {enc : TypeId × Value → H} {P : Program} {w : World} {base : Nat} {spare : Nat → Bool} {held : Bool}
theorem rows_open {t e : TypeId} {fs : Array Field} {fuel : Nat} {cs : List Value} {x : DataW H × List MemPlace} (ht : P.underlying t = some (.slice e)) (he : P.underlying e = some (.struct fs))
  (hone : oneCellFields P fs = true) (hC : P.cellsOf e = fs.size) (h : DataW.trod enc P w base spare held fuel t cs = some x) :
  (cs = [.slice none 0 0] ∧ x = (.nil, [])) ∨
  ∃ (a : Addr) (len cap m : Nat) (D : Nat → DataW H), cs = [.slice (some a) len cap] ∧ len ≤ cap ∧ m = (if spare a.block then cap else len) ∧
   x.1 = .slice ((List.range len).map D) ((List.range (m - len)).map fun j => D (len + j)) ∧
   ∀ i, i < m → ∃ (ys : List (DataW H × List MemPlace)) (n : Nat), D i = .agg (ys.map (·.1)) ∧ ys.length = fs.size ∧
    ∀ (j : Nat) (f : Field), fs[j]? = some f → ∃ (v : Value) (y : DataW H × List MemPlace), w.cell? (a.add (i * fs.size + j)) = some v ∧ ys[j]? = some y ∧ DataW.trod enc P w base spare held n f.type [v] = some y := by
 rcases open_slice ht h with h0 | ⟨a, len, cap, m, n, D, Pl, hcs, hb, hl, hm, hmm, hx, hi⟩
 ·exact .inl h0
 ·refine .inr ⟨a, len, cap, m, D, hcs, hl, hmm, by rw [hx], fun i him => ?_⟩
  obtain ⟨cs', hc, ht'⟩ := hi i him
  rw [hC] at hc
  obtain ⟨ys, n', hn', hy, hlen, hyl, hf⟩ := DataW.trod_struct he ht'
  obtain ⟨_, hcl, hat⟩ := World.cells?_some hc
  simp only [Prod.mk.injEq] at hy
  refine ⟨ys, n', hy.1, hyl, fun j f hj => ?_⟩
  obtain ⟨ho, hk⟩ := hone_of hone j f hj
  have hjl : j < fs.size := (Array.getElem?_eq_some_iff.1 hj).1
  have hcell := hat j hjl
  have hv : cs'[j]? = some (cs'[j]'(by omega)) := List.getElem?_eq_getElem (by omega)
  have h1 := hf j f hj
  rw [ho, hk] at h1
  have hone' : (cs'.drop j).take 1 = [cs'[j]'(by omega)] := by
   rw [List.drop_eq_getElem_cons (by omega)]
   rfl
  rw [hone'] at h1
  have hys : ys[j]? = some (ys[j]'(by omega)) := List.getElem?_eq_getElem (by omega)
  refine ⟨_, _, ?_, hys, h1.trans hys⟩
  rw [← Go.Deep.add_add, hcell, hv]
end
section
variable {H : Type} {enc : TypeId × Value → H} {w : World} {base : Nat} {sp : Nat → Bool} {held : Bool}
theorem i64_le {z : Int} (h : (Lit.int .i64 z).wf = true) : z ≤ 9223372036854775807 := by
 simp only [Lit.wf, Bool.and_eq_true, decide_eq_true_eq] at h
 exact h.2
theorem ops_open {fuel : Nat} {v : Value} {y : DataW H × List MemPlace} (h : DataW.trod enc Tryz.prog w base sp held fuel 22 [v] = some y) (hsz : ∀ x ∈ y.1.weights Tryz.prog 22, x ≤ reachBytes) : ∃ a n c l, v = .slice a n c ∧ Opr a n l w ∧ n ≤ 140737488355328 := by
 rcases rows_open Tryz.underlying22 Tryz.underlying35 (by kernel_rfl) (by kernel_rfl) h with ⟨hcs, hx⟩ | ⟨a, n, c, m, D, hcs, hl, hm, hx, hi⟩
 ·injection hcs with hcs _
  subst hcs
  exact ⟨none, 0, 0, [], rfl, ⟨rfl, fun j hj => by omega, fun o ho => by cases ho⟩, Nat.zero_le _⟩
 ·injection hcs with hcs _
  subst hcs
  have hnm : n ≤ m := by rw [hm]; split <;> omega
  have hw : ∀ x ∈ (DataW.slice ((List.range n).map D) ((List.range (m - n)).map fun j => D (n + j)) : DataW H).weights Tryz.prog 22, x ≤ reachBytes := by rw [← hx]; exact hsz
  simp only [DataW.weights, Tryz.underlying22] at hw
  have hat : ∀ i, i < n → ∃ s0 s1 s2 s3 s4 s5 s6, w.cell? (a.add (i * 7)) = some (.int .i64 s0) ∧ w.cell? (a.add (i * 7 + 1)) = some (.string s1) ∧ w.cell? (a.add (i * 7 + 2)) = some (.string s2) ∧ w.cell? (a.add (i * 7 + 3)) = some (.int .i64 s3) ∧ w.cell? (a.add (i * 7 + 4)) = some (.int .i64 s4) ∧ w.cell? (a.add (i * 7 + 5)) = some (.int .i64 s5) ∧ w.cell? (a.add (i * 7 + 6)) = some (.string s6) ∧ OpOk ⟨s0, s1, s2, s3, s4, s5, s6⟩ := by
   intro i hin
   obtain ⟨ys, q, hD, hyl, hf⟩ := hi i (by omega)
   obtain ⟨v0, y0, c0, e0, t0⟩ := hf 0 _ rfl
   obtain ⟨v1, y1, c1, e1, t1⟩ := hf 1 _ rfl
   obtain ⟨v2, y2, c2, e2, t2⟩ := hf 2 _ rfl
   obtain ⟨v3, y3, c3, e3, t3⟩ := hf 3 _ rfl
   obtain ⟨v4, y4, c4, e4, t4⟩ := hf 4 _ rfl
   obtain ⟨v5, y5, c5, e5, t5⟩ := hf 5 _ rfl
   obtain ⟨v6, y6, c6, e6, t6⟩ := hf 6 _ rfl
   obtain ⟨s0, hs0, hy0, wf0⟩ := DataW.trod_int Tryz.underlying3 t0
   obtain ⟨s1, hs1, hy1, wf1⟩ := DataW.trod_string Tryz.underlying9 t1
   obtain ⟨s2, hs2, hy2, wf2⟩ := DataW.trod_string Tryz.underlying9 t2
   obtain ⟨s3, hs3, hy3, wf3⟩ := DataW.trod_int Tryz.underlying3 t3
   obtain ⟨s4, hs4, hy4, wf4⟩ := DataW.trod_int Tryz.underlying3 t4
   obtain ⟨s5, hs5, hy5, wf5⟩ := DataW.trod_int Tryz.underlying3 t5
   obtain ⟨s6, hs6, hy6, wf6⟩ := DataW.trod_string Tryz.underlying9 t6
   injection hs0 with hs0 _
   injection hs1 with hs1 _
   injection hs2 with hs2 _
   injection hs3 with hs3 _
   injection hs4 with hs4 _
   injection hs5 with hs5 _
   injection hs6 with hs6 _
   subst hs0 hs1 hs2 hs3 hs4 hs5 hs6
   have hmem : D i ∈ (List.range n).map D := List.mem_map.2 ⟨i, List.mem_range.2 hin, rfl⟩
   have hin2 : ∀ x, x ∈ (D i).weights Tryz.prog 35 → x ≤ reachBytes := fun x hx => hw _ (List.mem_cons_of_mem _ (List.mem_append_left _ (weightsAll_mem hmem _ hx)))
   rw [hD] at hin2
   simp only [DataW.weights, Tryz.underlying35] at hin2
   match ys, hyl, e0, e1, e2, e3, e4, e5, e6 with
   | [u0, u1, u2, u3, u4, u5, u6], _, e0, e1, e2, e3, e4, e5, e6 =>
    have f1 : u1 = (DataW.lit (Lit.string s1.data.toList), []) := by rw [← hy1]; simpa using e1
    have f2 : u2 = (DataW.lit (Lit.string s2.data.toList), []) := by rw [← hy2]; simpa using e2
    have f6 : u6 = (DataW.lit (Lit.string s6.data.toList), []) := by rw [← hy6]; simpa using e6
    rw [f1, f2, f6] at hin2
    simp [DataW.weightsEach, DataW.weights] at hin2
    exact ⟨s0, s1, s2, s3, s4, s5, s6, c0, c1, c2, c3, c4, c5, c6, ⟨wf0, bounded (hin2 _ (by simp)), bounded (hin2 _ (by simp)), bounded (hin2 _ (by simp)), i64_le wf3, i64_le wf4, i64_le wf5⟩⟩
  have hopAt : ∀ i, i < n → OpOk (opAt w a i) ∧ ∀ j v, (ocs (opAt w a i))[j]? = some v → w.cell? (a.add (i * 7 + j)) = some v := by
   intro i hin
   obtain ⟨s0, s1, s2, s3, s4, s5, s6, c0, c1, c2, c3, c4, c5, c6, hok⟩ := hat i hin
   have e : opAt w a i = ⟨s0, s1, s2, s3, s4, s5, s6⟩ := by unfold opAt; rw [c0, c1, c2, c3, c4, c5, c6]; rfl
   rw [e]
   refine ⟨hok, fun j v hv => ?_⟩
   match j, hv with
   | 0, hv => injection hv with hv; rw [← hv]; exact c0
   | 1, hv => injection hv with hv; rw [← hv]; exact c1
   | 2, hv => injection hv with hv; rw [← hv]; exact c2
   | 3, hv => injection hv with hv; rw [← hv]; exact c3
   | 4, hv => injection hv with hv; rw [← hv]; exact c4
   | 5, hv => injection hv with hv; rw [← hv]; exact c5
   | 6, hv => injection hv with hv; rw [← hv]; exact c6
   | j + 7, hv => simp [ocs] at hv
  refine ⟨some a, n, c, (List.range n).map (opAt w a), rfl, ⟨by simp, fun i hin => ?_, fun o ho => ?_⟩, ?_⟩
  ·have hg : ((List.range n).map (opAt w a)).getD i op0 = opAt w a i := by simp [List.getD, hin]
   obtain ⟨b, off, spot⟩ := a
   obtain ⟨s0, _, _, _, _, _, _, h00, _⟩ := hat 0 (by omega)
   have hspot : spot = none := by simpa [Addr.add] using World.cell?_spot h00
   subst hspot
   refine ⟨b, off, rfl, fun j v hv => ?_⟩
   rw [hg] at hv
   have := (hopAt i hin).2 j v hv
   rw [Go.WideShapes.add_plain] at this
   rw [Nat.add_assoc]; exact this
  ·obtain ⟨i, hi9, rfl⟩ := List.mem_map.1 ho
   exact (hopAt i (List.mem_range.1 hi9)).1
  ·have := hw _ List.mem_cons_self
   have hb : 1 ≤ Tryz.prog.bytesOf 35 := by rw [show Tryz.prog.bytesOf 35 = 80 by kernel_rfl]; decide
   have hr : reachBytes ≤ 140737488355328 := by decide
   simp only [List.length_map, List.length_range] at this
   have h2 : n + (m - n) ≤ (n + (m - n)) * Tryz.prog.bytesOf 35 := Nat.le_mul_of_pos_right _ hb
   omega
end
end Go.Proofs.YthehblmjloohiaaGreatDoor
