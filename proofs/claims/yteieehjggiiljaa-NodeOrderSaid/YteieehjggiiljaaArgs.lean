/- A row of texts that came in, and what the reach says of it. -/
import Derived.Test.YteieehjggiiljaaShape
namespace Go.Proofs.Yteieehjggiiljaa
open Go.ChangeShapes Go.WideShapes Go.ChangeAt Go.RowKit
/-- The reach, of a text in a slice. -/
theorem sized_text {H : Type} {P : Program} {ts : List TypeId} {ds : List (DataW H)} (h : (DataW.weightsEach P ts ds).all (· ≤ reachBytes) = true) {j : Nat} {t e : TypeId} {elems spare : List (DataW H)} {bytes : List UInt8}
    (ht : ts[j]? = some t) (hd : ds[j]? = some (.slice elems spare)) (hu : P.underlying t = some (.slice e)) (hx : DataW.lit (.string bytes) ∈ elems) : bytes.length ≤ reachBytes := by
  refine of_decide_eq_true (List.all_eq_true.1 h _ (DataW.weights_mem_each ht hd _ ?_))
  simp only [DataW.weights, hu, List.mem_cons, List.mem_append]
  exact Or.inr (Or.inl (weightsAll_mem hx _ (by simp [DataW.weights])))
theorem texts_at {w : World} {a : Addr} {ss : List ByteArray} (h : ∀ i, i < ss.length → w.cell? (a.add i) = some (.string (ss.getD i ByteArray.empty))) (len : Nat) (hl : len ≤ ss.length) : Strs (some a) len (ss.take len) w := by
  refine ⟨by simp; omega, fun i hi => ?_⟩
  obtain ⟨b, off, spot⟩ := a
  have hspot : spot = none := by simpa [Addr.add] using World.cell?_spot (h 0 (by omega))
  subst hspot
  refine ⟨b, off, rfl, ?_⟩
  rw [← Go.WideShapes.add_plain, h i (by omega)]
  simp [List.getD, hi]
/-- A row of texts that came in. -/
structure Arg (ss : List ByteArray) (a : Option Addr) (len cap : Nat) (w : World) : Prop where
  at_ : Strs a len ss w
  room : len ≤ cap
  small : ∀ s ∈ ss, s.size ≤ 140737488355328
  short : len ≤ 140737488355328
  nil : a = none → len = 0 ∧ cap = 0
theorem texts_open {H : Type} {enc : TypeId × Value → H} {w : World} {base : Nat} {sp : Nat → Bool} {held : Bool} {ts : List TypeId} {ds : List (DataW H)} {j : Nat} {a : Option Addr} {len cap : Nat} {d : DataW H} {ps : List MemPlace}
    (hsz : (DataW.weightsEach Try.prog ts ds).all (· ≤ reachBytes) = true) (ht : ts[j]? = some 48) (hd : ds[j]? = some d) (h : DataW.Trod enc Try.prog w base sp held 48 (.slice a len cap) d ps) : ∃ ss, Arg ss a len cap w := by
  obtain ⟨fuel, hf⟩ := h
  rcases open_strings Try.underlying48 Try.underlying9 (by kernel_rfl) hf with ⟨hcs, hx⟩ | ⟨a', len', cap', ss, hcs, _, hl, hm, hz, hx, hcell, hws⟩
  · have hq : Value.slice a len cap = .slice none 0 0 := by simpa [Value.cells] using hcs
    injection hq with e1 e2 e3
    subst e1 e2 e3
    exact ⟨[], ⟨rfl, fun i hi => by omega⟩, Nat.le_refl _, (fun s hs => by cases hs), by omega, fun _ => ⟨rfl, rfl⟩⟩
  · have hq : Value.slice a len cap = .slice (some a') len' cap' := by simpa [Value.cells] using hcs
    injection hq with e1 e2 e3
    subst e1 e2 e3
    have hll : len ≤ ss.length := by rw [hz]; split <;> omega
    simp only [Prod.mk.injEq] at hx
    obtain ⟨rfl, _⟩ := hx
    have hb := sized_slice hsz (j := j) (t := 48) ht hd Try.underlying48
    rw [show Try.prog.bytesOf 9 = 16 by kernel_rfl] at hb
    refine ⟨ss.take len, texts_at hcell len hll, hl, fun s hs => ?_, ?_, fun e => by cases e⟩
    · have hmem : DataW.lit (.string s.data.toList) ∈ strs (H := H) (ss.take len) := List.mem_map.2 ⟨s, hs, rfl⟩
      exact bounded (sized_text hsz ht hd Try.underlying48 hmem)
    · have : reachBytes ≤ 140737488355328 := by decide
      simp [strs] at hb
      omega
end Go.Proofs.Yteieehjggiiljaa
