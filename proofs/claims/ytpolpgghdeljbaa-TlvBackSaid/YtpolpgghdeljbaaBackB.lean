/- A fresh reader; bytes of the call's own; ends that are counted. -/
import Derived.Test.YtpolpgghdeljbaaBackA
import Derived.Lib.ConvBytes
import Derived.Laws.IdiomStrings
namespace Go.Proofs.Ytpolpgghdeljbaa
open Go.RowKit Crc

theorem owns_base {w : World} {B B' : Nat} {e : TypeId} {size : Nat} {v : Value} {n : Nat} {xs : List Value} (h : w.ownsRow B e size v n xs) (hB : B' ≤ B) : w.ownsRow B' e size v n xs := by
  refine ⟨h.1, ?_⟩
  rcases h.2 with hn | ⟨g, cap, cur, rfl, hb, rest⟩
  · exact .inl hn
  · exact .inr ⟨g, cap, cur, rfl, Nat.le_trans hB hb, rest⟩
/-- A reader that was fed nothing, fed once. -/
theorem feed_fresh {w0 w : World} {r : Nat} (l : List UInt8) (D : Rd w r (.slice none 0 0) ([], 0, 0)) (hb : Below w0.heap.size w0 w) (hr : w0.heap.size ≤ r) (hl : l.length ≤ 1000000000) :
    Calls Try.prog 9 #[ptr r, .string (lstr l)] w fun e w' => ∃ ao cap, e = .returned (.tuple #[.slice ao (Tlv.feed 0 l).1.length cap, .int .i64 (Tlv.feed 0 l).2.2.2]) ∧ w'.ownsRow w0.heap.size 38 3 (.slice ao (Tlv.feed 0 l).1.length cap) (Tlv.feed 0 l).1.length (rcells (Tlv.feed 0 l).1) ∧ Below w0.heap.size w0 w' := by
  have hst : Tlv.step ([], 0, 0) l = ((Tlv.feed 0 l).1, (Tlv.feed 0 l).2) := by unfold Tlv.step; rw [if_neg (by simp), List.nil_append]
  refine (feed_eq l D hst (by show 0 + _ ≤ _; omega)).mono ?_
  rintro e w' ⟨ao, cap, v', he, hrow, _, T⟩
  refine ⟨ao, cap, he, owns_base hrow hb.size, hb.trans (T.below hb.size ?_)⟩
  rintro k (rfl | hk)
  · exact hr
  · cases hk
theorem feed_fresh_eq {w0 w : World} {r : Nat} (l : List UInt8) {rs : List Tlv.R} {er : Int} (h1 : (Tlv.feed 0 l).1 = rs) (h2 : (Tlv.feed 0 l).2.2.2 = er) (D : Rd w r (.slice none 0 0) ([], 0, 0)) (hb : Below w0.heap.size w0 w) (hr : w0.heap.size ≤ r) (hl : l.length ≤ 1000000000) :
    Calls Try.prog 9 #[ptr r, .string (lstr l)] w fun e w' => ∃ ao cap, e = .returned (.tuple #[.slice ao rs.length cap, .int .i64 er]) ∧ w'.ownsRow w0.heap.size 38 3 (.slice ao rs.length cap) rs.length (rcells rs) ∧ Below w0.heap.size w0 w' := by
  have := feed_fresh (w0 := w0) l D hb hr hl
  rw [h1, h2] at this
  exact this

/-- Block g holds the bytes l, which may be written. -/
structure Bytes (g : Nat) (l : List UInt8) (w : World) : Prop where
  cell : ∀ i, i < l.length → w.cell? ⟨g, i, none⟩ = some (bv (l.getD i 0))
  free : ∀ i, i < l.length → w.frozen? ⟨g, i, none⟩ = false
theorem bytes_of (y : ByteArray) (w : World) : ∃ cap w', (convert 9 35 (.string y)).run Try.prog w = .ok (.slice (some ⟨w.heap.size, 0, none⟩) y.size cap) w' ∧ Bytes w.heap.size y.data.toList w' ∧ Below w.heap.size w w' ∧ w.heap.size < w'.heap.size := by
  have hl : y.data.toList.length = y.size := Array.length_toList
  refine ⟨_, _, Lib.run_convert_string_bytes (P := Try.prog) w 9 35 5 y Try.underlying9 Try.underlying35 Try.underlying5, ⟨fun i hi => Lib.bytesWorld_cell w 5 y i (by omega), fun i hi => ?_⟩, ⟨rfl, rfl, rfl, ?_, fun k hk => Lib.bytesWorld_at_old w 5 y k hk⟩, ?_⟩
  · have hC : y.size ≤ (Lib.bytesCells w 5 y).size := by
      unfold Lib.bytesCells
      rw [Array.size_append, Array.size_map]
      exact Nat.le_add_right _ _
    have hn := Lib.bytesWorld_at_new w 5 y
    unfold World.frozen?
    rw [hn]
    simp
    omega
  · rw [Lib.bytesWorld_size]; omega
  · rw [Lib.bytesWorld_size]; omega
theorem bytes_back {g : Nat} {l : List UInt8} {w : World} (h : Bytes g l w) (n cap : Nat) (hn : n = l.length) : (convert 35 9 (.slice (some ⟨g, 0, none⟩) n cap)).run Try.prog w = .ok (.string (lstr l)) w := by
  subst hn
  refine run_convert_bytes_back (P := Try.prog) w 35 9 5 ⟨g, 0, none⟩ cap l Try.underlying35 Try.underlying5 Try.underlying9 (fun j hj => ?_)
  rw [Go.WideShapes.add_plain, Nat.zero_add, h.cell j hj]
  simp [List.getD, List.getElem?_eq_getElem hj]
theorem Bytes.set {g : Nat} {l : List UInt8} {w : World} (h : Bytes g l w) (k : Nat) (hk : k < l.length) (v : UInt8) : Bytes g (l.set k v) (w.setCell ⟨g, k, none⟩ (bv v)) := by
  refine ⟨fun i hi => ?_, fun i hi => ?_⟩
  · rw [List.length_set] at hi
    by_cases he : k = i
    · subst he
      rw [World.cell?_setCell_same _ _ _ (h.cell k hk)]
      simp [List.getD, hk]
    · have hne : (⟨g, k, none⟩ : Addr) ≠ ⟨g, i, none⟩ := by
        intro e
        injection e with e1 e2
        exact he e2
      have := World.cell?_setCell_other w (a := ⟨g, k, none⟩) (b := ⟨g, i, none⟩) (v := bv v) hne
      rw [this, h.cell i hi]
      simp [List.getD, he]
  · rw [List.length_set] at hi
    rw [World.frozen?_setCell]; exact h.free i hi
theorem Bytes.below {g : Nat} {l : List UInt8} {w w' : World} (h : Bytes g l w) (hg : g < w.heap.size) (hb : Below w.heap.size w w') : Bytes g l w' :=
  ⟨fun i hi => (hb.cell (p := ⟨g, i, none⟩) hg).trans (h.cell i hi), fun i hi => (hb.frozen (p := ⟨g, i, none⟩) hg).trans (h.free i hi)⟩
theorem sem_xor8 (t : TypeId) (a b : UInt8) : binOp .xor t (.int .u8 (a.toNat : Int)) (.int .u8 (b.toNat : Int)) = pure (bv (a ^^^ b)) := by
  show pure (Value.int .u8 (Go.bits .xor .u8 (a.toNat : Int) (b.toNat : Int))) = _
  rw [u8_xor_nat _ _ a.toNat_lt b.toNat_lt]; unfold bv; rw [UInt8.toNat_xor]

/-- The ends as cells. -/
theorem ends_at {w0 w : World} {K : Nat → UInt8} {ss : List ByteArray} {k : Nat} {vw : Value} {ae : Option Addr} {ce : Nat} (L : Laid w0 K ss k w vw (.slice ae k ce)) (hk : 0 < k) :
    ∃ g, ae = some ⟨g, 0, none⟩ ∧ g < w.heap.size ∧ ∀ j, j < k → w.cell? ⟨g, j, none⟩ = some (.int .i64 ((Tlv.allBytes ((recsOf K ss k).take (j + 1))).length : Int)) := by
  obtain ⟨g, cap, hv, _, hg⟩ := L.ends.form hk
  injection hv with hv _ _
  subst hv
  refine ⟨g, rfl, hg, fun j hj => ?_⟩
  have := L.ends.cells (g := g) rfl j _ (endsOf_get k j hj)
  rw [recsOf_take k (j + 1) (by omega)]
  have hadd : (⟨g, 0, none⟩ : Addr).add j = ⟨g, j, none⟩ := by unfold Addr.add; split <;> simp_all
  rwa [hadd] at this
theorem cap_ge {w : World} {B : Nat} {e : TypeId} {size : Nat} {ao : Option Addr} {n cap : Nat} {xs : List Value} (h : w.ownsRow B e size (.slice ao n cap) n xs) : n ≤ cap := by
  rcases h.2 with ⟨_, rfl⟩ | ⟨g, c, cur, hv, _, _, hc, _⟩
  · exact Nat.zero_le _
  · injection hv with _ _ hv; rw [hv]; exact hc
/-- Two rows of the same records. -/
def Two (ao bo : Option Addr) (ys : List Tlv.R) (w : World) : Prop := Recs w ao ys ∧ Recs w bo ys
theorem Two.left {ao bo : Option Addr} {ys : List Tlv.R} {w : World} (h : Two ao bo ys w) : Recs w ao ys := h.1
theorem Two.right {ao bo : Option Addr} {ys : List Tlv.R} {w : World} (h : Two ao bo ys w) : Recs w bo ys := h.2
theorem Two.below {ao bo : Option Addr} {ys : List Tlv.R} {w w' : World} (h : Two ao bo ys w) (hb : Below w.heap.size w w') : Two ao bo ys w' := ⟨h.1.below hb, h.2.below hb⟩
theorem Two.drew {ao bo : Option Addr} {ys : List Tlv.R} {w : World} (h : Two ao bo ys w) : Two ao bo ys w.drew := ⟨fun i hi => h.1 i hi, fun i hi => h.2 i hi⟩
theorem of_n (ys : List Tlv.R) (n : Nat) (hn : ys.length = n) (hl : n ≤ 1000) (W : World) (ao : Option Addr) (cap : Nat) (h : Recs W ao ys) :
    Calls Try.prog 11 #[.slice ao n cap] W fun e w' => ∃ ao' cap', e = .returned (.slice ao' n cap') ∧ w'.ownsRow W.heap.size 58 3 (.slice ao' n cap') n (rcells ys) ∧ Below W.heap.size W w' := by
  subst hn
  exact of_any ao cap ys W h (by omega)
theorem same_n (ys : List Tlv.R) (n : Nat) (hn : ys.length = n) (hl : n ≤ 1000) (W : World) (ao bo : Option Addr) (ac bc : Nat) (ha : Recs W ao ys) (hb : Recs W bo ys) :
    Calls Try.prog 10 #[.slice ao n ac, .slice bo n bc] W fun e w' => e = .returned (.bool true) ∧ Below W.heap.size W w' := by
  subst hn
  refine (same_any ao bo ac bc ys ys W ha hb (by omega) (by omega)).mono ?_
  rintro e w' ⟨rfl, h⟩
  exact ⟨by rw [show sameAll ys ys = true from decide_eq_true rfl], h⟩
theorem feed_n {w0 w : World} {r : Nat} (l : List UInt8) {ys : List Tlv.R} {er : Int} {n : Nat} (hn : ys.length = n) (h1 : (Tlv.feed 0 l).1 = ys) (h2 : (Tlv.feed 0 l).2.2.2 = er) (D : Rd w r (.slice none 0 0) ([], 0, 0)) (hb : Below w0.heap.size w0 w) (hr : w0.heap.size ≤ r) (hl : l.length ≤ 1000000000) :
    Calls Try.prog 9 #[ptr r, .string (lstr l)] w fun e w' => ∃ ao cap, e = .returned (.tuple #[.slice ao n cap, .int .i64 er]) ∧ w'.ownsRow w0.heap.size 38 3 (.slice ao n cap) n (rcells ys) ∧ Below w0.heap.size w0 w' := by
  subst hn
  exact feed_fresh_eq l h1 h2 D hb hr hl
end Go.Proofs.Ytpolpgghdeljbaa
