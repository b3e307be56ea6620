/- A map of texts to texts: what it holds; the law's look-up. -/
import Derived.Test.YtnapjloapgfcfaaDoorAwake
import Derived.Maps.OwnSet
import Derived.StringKeys
namespace Go.Proofs.YtnapjloapgfcfaaDoor
set_option maxRecDepth 100000
open Go.RowKit Go.Maps Go.WideMaps Sha

theorem law9 : Keyed Tryd.prog 9 := string_keyed Tryd.underlying9
abbrev sk (a : ByteArray) : Lit := .string a.data.toList
theorem sk_inj {a b : ByteArray} (h : sk a = sk b) : a = b := Go.WideShapes.bytes_inj (by injection h)
def heldv (v : Value) : Option (DataW Value × List MemPlace) := some (.held v, [])
/-- Block b is a map of at most n entries that holds just f. -/
def Smp (w : World) (b n : Nat) (f : ByteArray → Option Value) : Prop :=
  ∃ D : DataW Value, w.ownsMap Tryd.prog 9 heldv b n D ∧ ∀ a, (∀ z, D.atKey (sk a) (.held z) = .held ((f a).getD z)) ∧ Maps.has D (sk a) = (f a).isSome
theorem Smp.lt {w : World} {b n : Nat} {f : ByteArray → Option Value} (h : Smp w b n f) : b < w.heap.size := by
  obtain ⟨D, ho, _⟩ := h; exact ho.lt
theorem Smp.kept {w w' : World} {b n : Nat} {f : ByteArray → Option Value} (h : Smp w b n f) (hb : w'.heap[b]? = w.heap[b]?) : Smp w' b n f := by
  obtain ⟨D, ⟨es, c, h1, h2⟩, h3⟩ := h; exact ⟨D, ⟨es, c, hb.trans h1, h2⟩, h3⟩
theorem Smp.below {w w' : World} {b n : Nat} {f : ByteArray → Option Value} (h : Smp w b n f) (hb : Below w.heap.size w w') : Smp w' b n f := h.kept (hb.block b h.lt)
theorem Smp.same {w : World} {b n : Nat} {f g : ByteArray → Option Value} (h : Smp w b n f) (hg : f = g) : Smp w b n g := hg ▸ h
theorem Smp.made (w : World) : Smp (w.alloc (.map #[] 0)) w.heap.size 0 (fun _ => none) :=
  ⟨.map [], World.ownsMap_made w _ _ _, fun _ => ⟨fun _ => rfl, rfl⟩⟩
theorem Smp.look_ok {w : World} {b n : Nat} {f : ByteArray → Option Value} (h : Smp w b n f) {t e : TypeId} (ht : Tryd.prog.underlying t = some (.map 9 e)) {z : Value} (hz : (zeroValue e).run Tryd.prog w = .ok z w) {a : ByteArray} (ha : a.size ≤ maxLen) :
    (Instr.lookup t (.map (some b)) (.string a) true).run Tryd.prog w = .ok (.tuple #[(f a).getD z, .bool (f a).isSome]) w := by
  obtain ⟨D, ho, h2⟩ := h
  obtain ⟨v, ps, hr, hv⟩ := ho.look_ok law9 ht hz (zd := .held z) (zp := []) rfl (keyOf_string_mk Tryd.underlying9 ha)
  rw [(h2 a).1 z] at hv
  rw [hr, (h2 a).2]
  unfold heldv at hv
  injection hv with hv
  injection hv with hv _
  injection hv with hv
  rw [hv]
theorem sk_key (a : ByteArray) : WideAt.IsKeyLit (sk a) := trivial
def updS (f : ByteArray → Option Value) (a : ByteArray) (v : Value) : ByteArray → Option Value := fun x => if x = a then some v else f x
theorem Smp.store {w : World} {b n : Nat} {f : ByteArray → Option Value} (h : Smp w b n f) {t e : TypeId} (ht : Tryd.prog.underlying t = some (.map 9 e)) (hn : n < maxLen) {a : ByteArray} (ha : a.size ≤ maxLen) (v : Value) :
    ∃ w', (Instr.mapUpdate t (.map (some b)) (.string a) v).run Tryd.prog w = .ok () w' ∧ Smp w' b (n + 1) (updS f a v) ∧ w.mapTurned w' b := by
  obtain ⟨D, ho, h2⟩ := h
  have hm := ho.isMap
  obtain ⟨w', hr, h3, h4⟩ := ho.store law9 ht hn (keyOf_string_mk Tryd.underlying9 ha) (val := v) (d := .held v) (ps := []) rfl
  refine ⟨w', hr, ⟨_, h3, fun x => ?_⟩, h4⟩
  unfold updS
  by_cases hxa : x = a
  · subst hxa
    rw [if_pos rfl]
    exact ⟨fun z => atKey_put_same hm (sk_key _) _ _, has_put_same hm (sk_key _) _⟩
  · rw [if_neg hxa]
    have hne : sk x ≠ sk a := fun e => hxa (sk_inj e)
    exact ⟨fun z => (atKey_put_other hne _ _).trans ((h2 x).1 z), (has_put_other hne _).trans (h2 x).2⟩
/-- What the map holds of those known from place j on. -/
def fromJ (known : List ByteArray) (j : Nat) : ByteArray → Option Value := fun x => (look (known.drop j) x).map .string
theorem fromJ_end (known : List ByteArray) : fromJ known known.length = fun _ => none := by
  unfold fromJ; rw [List.drop_length]; rfl
theorem fromJ_step (known : List ByteArray) {j : Nat} (h : j < known.length) : updS (fromJ known (j + 1)) (lstr (nameOf (known.getD j ByteArray.empty).data.toList)) (.string (known.getD j ByteArray.empty)) = fromJ known j := by
  funext x
  unfold updS fromJ look
  rw [List.drop_eq_getElem_cons h, List.find?_cons, List.getD, List.getElem?_eq_getElem h]
  simp only [Option.getD_some]
  by_cases hx : x = lstr (nameOf known[j].data.toList)
  · rw [if_pos hx, show alike (lstr (nameOf known[j].data.toList)) x = true from by unfold alike; simp [hx]]; rfl
  · rw [if_neg hx, show alike (lstr (nameOf known[j].data.toList)) x = false from by unfold alike; simp; exact fun e => hx e.symm]
theorem fill_spec (names known : List ByteArray) (n : Int) : FillSpec names.length n (pick names known n.toNat) (fillR names known n) where
  range h := fill_range h
  none m e h k hk hp := by subst e; exact fill_none h hk (by rwa [Int.toNat_natCast] at hp)
  form m e h ha k hk hp := by subst e; rw [Int.toNat_natCast] at ha hp; exact fill_form h ha hk hp
  whole m e h ha hb := by subst e; rw [Int.toNat_natCast] at ha hb ⊢; exact fill_whole h ha hb
theorem alike_nil {x : ByteArray} (h : x.size = 0) : alike x ⟨#[]⟩ = true := by rw [str_empty h]; unfold alike; simp
theorem alike_not {x : ByteArray} (h : 0 < x.size) : alike x ⟨#[]⟩ = false := by
  unfold alike
  simp only [decide_eq_false_iff_not]
  intro e; rw [e] at h; exact absurd h (by decide)
set_option maxHeartbeats 1000000 in
theorem look_any (known : List ByteArray) (w : World) (mb bx n : Nat) (hM : Smp w mb n (fromJ known 0)) (hB : Boxed w bx 38 (.map (some mb))) (x : ByteArray) (hx : x.size ≤ maxLen) (W1 : World) (hW : Below w.heap.size w W1) :
    Calls Tryd.prog 24 #[.string x, .pointer (some ⟨bx, 0, none⟩)] W1 fun e W2 => e = .returned (.tuple #[.string ((look known x).getD ⟨#[]⟩), .bool (look known x).isSome]) ∧ W1 = W2 := by
  have hl := (hM.below hW).look_ok (z := .string ⟨#[]⟩) Tryd.underlying38 (Tryd.zeroValue9 W1) hx
  have hc := (boxed_below hB hW).cell
  rw [show ((fromJ known 0 x).getD (.string ⟨#[]⟩)) = .string ((look known x).getD ⟨#[]⟩) from by unfold fromJ; rw [List.drop_zero]; cases look known x <;> rfl, show (fromJ known 0 x).isSome = (look known x).isSome from by unfold fromJ; rw [List.drop_zero]; cases look known x <;> rfl] at hl
  generalize (look known x).getD ⟨#[]⟩ = v at hl ⊢
  generalize (look known x).isSome = bb at hl ⊢
  clear hM hB hW
  go_enter Tryd.func24, Tryd.ntmps24
  go_wp2_with fail
  go_ret2
  exact ⟨rfl, rfl⟩
end Go.Proofs.YtnapjloapgfcfaaDoor
