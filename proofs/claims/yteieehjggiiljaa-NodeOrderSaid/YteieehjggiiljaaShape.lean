/- How the laws' inputs read, and what the reach says of them: a node by value, its entries, names. -/
import Derived.Test.YteieehjggiiljaaBoxes
import Derived.ProofKit
import Derived.SizedLaws
import Derived.OpenShut
import Derived.ChangeMaps5
import Derived.Carry
import Derived.SliceStrings
import Derived.Deep.Slices
import Derived.Deep.Fields
import Derived.ChangeSame
import Derived.Lib.SmallJoins
namespace Go.Proofs.Yteieehjggiiljaa
set_option maxRecDepth 100000
open Go.Joins Go.ChangeShapes Go.WideShapes Go.ChangeAt Go.RowKit Go.Deep
theorem own : ownKnob Try.prog.godebug = none := by kernel_rfl
theorem laidOut : laidOutB Try.prog = true := by kernel_rfl
theorem weightsAll_mem {H : Type} {P : Program} {e : TypeId} : ∀ {l : List (DataW H)} {d : DataW H}, d ∈ l → ∀ n ∈ d.weights P e, n ∈ DataW.weightsAll P e l
  | d' :: r, d, hd, n, hn => by
    simp only [DataW.weightsAll, List.mem_append]
    rcases List.mem_cons.1 hd with rfl | h
    · exact Or.inl hn
    · exact Or.inr (weightsAll_mem h n hn)
theorem bounded {s : ByteArray} (h : s.data.toList.length ≤ reachBytes) : s.size ≤ 140737488355328 := by
  have e : s.data.toList.length = s.size := Array.length_toList
  rw [e] at h
  exact Nat.le_trans h (by decide)
abbrev fds : Array Field := #[{ name := "Kind", type := 3, offset := 0, embedded := false, tag := "", pkgPath := "", byteOffset := 0 }, { name := "Mode", type := 3, offset := 1, embedded := false, tag := "", pkgPath := "", byteOffset := 8 }, { name := "Data", type := 9, offset := 2, embedded := false, tag := "", pkgPath := "", byteOffset := 16 }, { name := "Target", type := 9, offset := 3, embedded := false, tag := "", pkgPath := "", byteOffset := 32 }, { name := "Entries", type := 22, offset := 4, embedded := false, tag := "", pkgPath := "", byteOffset := 48 }]
abbrev efds : Array Field := #[{ name := "Name", type := 9, offset := 0, embedded := false, tag := "", pkgPath := "", byteOffset := 0 }, { name := "Ino", type := 3, offset := 1, embedded := false, tag := "", pkgPath := "", byteOffset := 16 }]
section
variable {H : Type} {enc : TypeId × Value → H} {P : Program} {w : World} {base : Nat} {spare : Nat → Bool} {held : Bool}
/-- A struct of five one-cell fields, opened. -/
theorem five_open {r : Reach} {b0 : Nat} {t : TypeId} {f0 f1 f2 f3 f4 : Field} {v : Value} {d : DataW H} {p : List MemPlace} (hs : P.underlying t = some (.struct #[f0, f1, f2, f3, f4])) (hone : oneCellFields P #[f0, f1, f2, f3, f4] = true) (hC : P.cellsOf t = 5)
    (hv : Value.okWide P w r b0 t v) (h : DataW.Trod enc P w base spare held t v d p) :
    ∃ (v0 v1 v2 v3 v4 : Value) (y0 y1 y2 y3 y4 : DataW H × List MemPlace) (n : Nat), v = .agg #[v0, v1, v2, v3, v4] ∧ d = .agg [y0.1, y1.1, y2.1, y3.1, y4.1] ∧
      DataW.trod enc P w base spare held n f0.type [v0] = some y0 ∧ DataW.trod enc P w base spare held n f1.type [v1] = some y1 ∧ DataW.trod enc P w base spare held n f2.type [v2] = some y2 ∧ DataW.trod enc P w base spare held n f3.type [v3] = some y3 ∧ DataW.trod enc P w base spare held n f4.type [v4] = some y4 := by
  obtain ⟨cs, rfl, hsz⟩ := okWide_struct hs hv
  obtain ⟨l⟩ := cs
  match l, hsz.trans hC with
  | [c0, c1, c2, c3, c4], _ =>
    obtain ⟨fuel, hf⟩ := h
    obtain ⟨xs, n, _, hx, _, hlen, hg⟩ := DataW.trod_struct hs hf
    obtain ⟨o0, k0⟩ := hone_of hone 0 f0 rfl
    obtain ⟨o1, k1⟩ := hone_of hone 1 f1 rfl
    obtain ⟨o2, k2⟩ := hone_of hone 2 f2 rfl
    obtain ⟨o3, k3⟩ := hone_of hone 3 f3 rfl
    obtain ⟨o4, k4⟩ := hone_of hone 4 f4 rfl
    match xs, hlen with
    | [y0, y1, y2, y3, y4], _ =>
      simp only [Prod.mk.injEq] at hx
      exact ⟨c0, c1, c2, c3, c4, y0, y1, y2, y3, y4, n, rfl, by simpa using hx.1, by simpa [Value.cells, o0, k0] using hg 0 f0 rfl, by simpa [Value.cells, o1, k1] using hg 1 f1 rfl, by simpa [Value.cells, o2, k2] using hg 2 f2 rfl, by simpa [Value.cells, o3, k3] using hg 3 f3 rfl, by simpa [Value.cells, o4, k4] using hg 4 f4 rfl⟩
/-- A slice of structs of one-cell fields, opened. -/
theorem rows_open {t e : TypeId} {fs : Array Field} {fuel : Nat} {cs : List Value} {x : DataW H × List MemPlace} (ht : P.underlying t = some (.slice e)) (he : P.underlying e = some (.struct fs))
    (hone : oneCellFields P fs = true) (hC : P.cellsOf e = fs.size) (h : DataW.trod enc P w base spare held fuel t cs = some x) :
    (cs = [.slice none 0 0] ∧ x = (.nil, [])) ∨
    ∃ (a : Addr) (len cap m : Nat) (D : Nat → DataW H), cs = [.slice (some a) len cap] ∧ len ≤ cap ∧ m = (if spare a.block then cap else len) ∧
      x.1 = .slice ((List.range len).map D) ((List.range (m - len)).map fun j => D (len + j)) ∧
      ∀ i, i < m → ∃ (ys : List (DataW H × List MemPlace)) (n : Nat), D i = .agg (ys.map (·.1)) ∧ ys.length = fs.size ∧
        ∀ (j : Nat) (f : Field), fs[j]? = some f → ∃ (v : Value) (y : DataW H × List MemPlace), w.cell? (a.add (i * fs.size + j)) = some v ∧ ys[j]? = some y ∧ DataW.trod enc P w base spare held n f.type [v] = some y := by
  rcases open_slice ht h with h0 | ⟨a, len, cap, m, n, D, Pl, hcs, hb, hl, hm, hmm, hx, hi⟩
  · exact .inl h0
  · refine .inr ⟨a, len, cap, m, D, hcs, hl, hmm, by rw [hx], fun i him => ?_⟩
    obtain ⟨cs', hc, ht'⟩ := hi i him
    rw [hC] at hc
    obtain ⟨ys, n', hn', hy, hlen, hyl, hf⟩ := DataW.trod_struct he ht'
    obtain ⟨_, hcl, hat⟩ := World.cells?_some hc
    simp only [Prod.mk.injEq] at hy
    refine ⟨ys, n', hy.1, hyl, fun j f hj => ?_⟩
    obtain ⟨ho, hk⟩ := hone_of hone j f hj
    have hjl : j < fs.size := (Array.getElem?_eq_some_iff.1 hj).1
    have hcell := hat j hjl
    have hv : cs'[j]? = some (cs'[j]'(by omega)) := List.getElem?_eq_getElem (by omega)
    have h1 := hf j f hj
    rw [ho, hk] at h1
    have hone' : (cs'.drop j).take 1 = [cs'[j]'(by omega)] := by
      rw [List.drop_eq_getElem_cons (by omega)]
      rfl
    rw [hone'] at h1
    have hys : ys[j]? = some (ys[j]'(by omega)) := List.getElem?_eq_getElem (by omega)
    refine ⟨_, _, ?_, hys, h1.trans hys⟩
    rw [← Go.Deep.add_add, hcell, hv]
end
/-- The entry that lies there. -/
def entAt (w : World) (a : Addr) (i : Nat) : En :=
  ((match w.cell? (a.add (i * 2)) with | some (.string s) => s | _ => ⟨#[]⟩), (match w.cell? (a.add (i * 2 + 1)) with | some (.int _ z) => z | _ => 0))
section
variable {H : Type} {enc : TypeId × Value → H} {w : World} {base : Nat} {sp : Nat → Bool} {held : Bool}
theorem ents_open {fuel : Nat} {v : Value} {y : DataW H × List MemPlace} (h : DataW.trod enc Try.prog w base sp held fuel 22 [v] = some y) (hsz : ∀ x ∈ y.1.weights Try.prog 22, x ≤ reachBytes) : ∃ a n c l, v = .slice a n c ∧ EntsA a n l w := by
  rcases rows_open Try.underlying22 Try.underlying46 (by kernel_rfl) (by kernel_rfl) h with ⟨hcs, hx⟩ | ⟨a, n, c, m, D, hcs, hl, hm, hx, hi⟩
  · injection hcs with hcs _
    subst hcs
    exact ⟨none, 0, 0, [], rfl, ents_nil w, Nat.zero_le _, fun j hj => by omega⟩
  · injection hcs with hcs _
    subst hcs
    have hnm : n ≤ m := by rw [hm]; split <;> omega
    have hw : ∀ x ∈ (DataW.slice ((List.range n).map D) ((List.range (m - n)).map fun j => D (n + j)) : DataW H).weights Try.prog 22, x ≤ reachBytes := by rw [← hx]; exact hsz
    simp only [DataW.weights, Try.underlying22] at hw
    have hat : ∀ i, i < n → ∃ s z, w.cell? (a.add (i * 2)) = some (.string s) ∧ w.cell? (a.add (i * 2 + 1)) = some (.int .i64 z) ∧ s.size ≤ 140737488355328 := by
      intro i hin
      obtain ⟨ys, q, hD, hyl, hf⟩ := hi i (by omega)
      obtain ⟨v0, y0, c0, e0, t0⟩ := hf 0 _ rfl
      obtain ⟨v1, y1, c1, e1, t1⟩ := hf 1 _ rfl
      obtain ⟨s, hs, hy0, _⟩ := DataW.trod_string Try.underlying9 t0
      obtain ⟨z, hz, hy1, _⟩ := DataW.trod_int Try.underlying3 t1
      injection hs with hs _
      injection hz with hz _
      subst hs hz hy0
      refine ⟨s, z, c0, c1, bounded (hw _ ?_)⟩
      have hmem : D i ∈ (List.range n).map D := List.mem_map.2 ⟨i, List.mem_range.2 hin, rfl⟩
      refine List.mem_cons_of_mem _ (List.mem_append_left _ (weightsAll_mem hmem _ ?_))
      rw [hD]
      simp only [DataW.weights, Try.underlying46]
      match ys, hyl, e0 with
      | [u0, u1], _, e0 =>
        have e0' : u0 = (DataW.lit (Lit.string s.data.toList), []) := by simpa using e0
        rw [e0']
        simp [DataW.weightsEach, DataW.weights]
    refine ⟨some a, n, c, (List.range n).map (entAt w a), rfl, ⟨by simp, fun i hin => ?_⟩, ?_, fun j hj => ?_⟩
    · obtain ⟨s, z, h0, h1, _⟩ := hat i hin
      have hg : ((List.range n).map (entAt w a)).getD i z0 = (s, z) := by
        simp [List.getD, hin, entAt, h0, h1]
      obtain ⟨b, off, spot⟩ := a
      obtain ⟨s', z', h00, _⟩ := hat 0 (by omega)
      have hspot : spot = none := by simpa [Addr.add] using World.cell?_spot h00
      subst hspot
      refine ⟨b, off, rfl, ?_, ?_⟩
      · rw [hg, ← Go.WideShapes.add_plain]; exact h0
      · rw [hg, Nat.add_assoc, ← Go.WideShapes.add_plain]; exact h1
    · have := hw _ List.mem_cons_self
      have hb : Try.prog.bytesOf 46 = 24 := by kernel_rfl
      rw [hb] at this
      have hr : reachBytes ≤ 140737488355328 := by decide
      simp only [List.length_map, List.length_range] at this
      omega
    · obtain ⟨s, z, h0, h1, hs⟩ := hat j hj
      have hg : ((List.range n).map (entAt w a)).getD j z0 = (s, z) := by
        simp [List.getD, hj, entAt, h0, h1]
      rw [hg]; exact hs
/-- A node that came in. -/
theorem node_open {r : Reach} {b0 : Nat} {ts : List TypeId} {ds : List (DataW H)} {j : Nat} {v : Value} {d : DataW H} {p : List MemPlace} (hsz : (DataW.weightsEach Try.prog ts ds).all (· ≤ reachBytes) = true) (ht : ts[j]? = some 24) (hd : ds[j]? = some d)
    (hv : Value.okWide Try.prog w r b0 24 v) (h : DataW.Trod enc Try.prog w base sp held 24 v d p) :
    ∃ k m dd t a n c l, v = nv k m dd t a n c ∧ EntsA a n l w ∧ dd.size ≤ 140737488355328 ∧ t.size ≤ 140737488355328 := by
  obtain ⟨v0, v1, v2, v3, v4, y0, y1, y2, y3, y4, n, rfl, rfl, t0, t1, t2, t3, t4⟩ := five_open Try.underlying24 (by kernel_rfl) (by kernel_rfl) hv h
  obtain ⟨k, e0, _, _⟩ := DataW.trod_int Try.underlying3 t0
  obtain ⟨m, e1, _, _⟩ := DataW.trod_int Try.underlying3 t1
  obtain ⟨dd, e2, q2, _⟩ := DataW.trod_string Try.underlying9 t2
  obtain ⟨tt, e3, q3, _⟩ := DataW.trod_string Try.underlying9 t3
  injection e0 with e0 _
  injection e1 with e1 _
  injection e2 with e2 _
  injection e3 with e3 _
  subst e0 e1 e2 e3 q2 q3
  have hw : ∀ x ∈ DataW.weightsEach Try.prog [3, 3, 9, 9, 22] [y0.1, y1.1, .lit (.string dd.data.toList), .lit (.string tt.data.toList), y4.1], x ≤ reachBytes := fun x hx =>
    of_decide_eq_true (List.all_eq_true.1 hsz _ (DataW.weights_mem_each ht hd x (by simp only [DataW.weights, Try.underlying24]; exact hx)))
  have hw' : (DataW.weightsEach Try.prog [3, 3, 9, 9, 22] [y0.1, y1.1, .lit (.string dd.data.toList), .lit (.string tt.data.toList), y4.1]).all (· ≤ reachBytes) = true := List.all_eq_true.2 fun x hx => decide_eq_true (hw x hx)
  obtain ⟨a, n', c, l, rfl, hE⟩ := ents_open t4 fun x hx => hw x (DataW.weights_mem_each (j := 4) rfl rfl x hx)
  exact ⟨k, m, dd, tt, a, n', c, l, rfl, hE, bounded (sized_string hw' (j := 2) (t := 9) rfl rfl), bounded (sized_string hw' (j := 3) (t := 9) rfl rfl)⟩
end
/-- Five parameters. -/
theorem trodAll_five {H : Type} {enc : TypeId × Value → H} {P : Program} {w : World} {base : Nat} {spare : Nat → Bool} {held : Bool} {t0 t1 t2 t3 t4 : TypeId} {args : Array Value} {ds : List (DataW H)} {ps : List MemPlace} (h : DataW.TrodAll enc P w base spare held [t0, t1, t2, t3, t4] args.toList ds ps) :
    ∃ v0 v1 v2 v3 v4 d0 d1 d2 d3 d4 p0 p1 p2 p3 p4, args = #[v0, v1, v2, v3, v4] ∧ ds = [d0, d1, d2, d3, d4] ∧ ps = p0 ++ p1 ++ p2 ++ p3 ++ p4 ∧ DataW.Trod enc P w base spare held t0 v0 d0 p0 ∧ DataW.Trod enc P w base spare held t1 v1 d1 p1 ∧ DataW.Trod enc P w base spare held t2 v2 d2 p2 ∧
      DataW.Trod enc P w base spare held t3 v3 d3 p3 ∧ DataW.Trod enc P w base spare held t4 v4 d4 p4 := by
  obtain ⟨v0, vs0, d0, ds0, p0, q0, hargs, rfl, rfl, h0, r0⟩ := trodAll_cons h
  obtain ⟨v1, vs1, d1, ds1, p1, q1, rfl, rfl, rfl, h1, r1⟩ := trodAll_cons r0
  obtain ⟨v2, vs2, d2, ds2, p2, q2, rfl, rfl, rfl, h2, r2⟩ := trodAll_cons r1
  obtain ⟨v3, vs3, d3, ds3, p3, q3, rfl, rfl, rfl, h3, r3⟩ := trodAll_cons r2
  obtain ⟨v4, vs4, d4, ds4, p4, q4, rfl, rfl, rfl, h4, r4⟩ := trodAll_cons r3
  obtain ⟨rfl, rfl, rfl⟩ := trodAll_nil r4
  exact ⟨v0, v1, v2, v3, v4, d0, d1, d2, d3, d4, p0, p1, p2, p3, p4, by cases args; simp_all, rfl, by simp, h0, h1, h2, h3, h4⟩
theorem EntsA.below {a : Option Addr} {n : Nat} {l : List En} {w w' : World} (h : EntsA a n l w) (hb : Below w.heap.size w w') : EntsA a n l w' := ⟨h.ents.below hb, h.few, h.size⟩
end Go.Proofs.Yteieehjggiiljaa
