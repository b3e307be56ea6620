/- A text as bytes of the call's own, and bits of them turned. -/
import Derived.Test.YtmelcndcgaoegaaAwake
import Derived.Lib.ConvBytes
import Derived.Laws.IdiomStrings
import Derived.IntWalk
namespace Go.Proofs.Ytmelcndcgaoegaa
open Go.RowKit Crc

/-- Block g holds the bytes l, which may be written. -/
structure Bytes (g : Nat) (l : List UInt8) (w : World) : Prop where
  cell : ∀ i, i < l.length → w.cell? ⟨g, i, none⟩ = some (bv (l.getD i 0))
  free : ∀ i, i < l.length → w.frozen? ⟨g, i, none⟩ = false
theorem bytes_of (y : ByteArray) (w : World) : ∃ cap w', (convert 9 35 (.string y)).run Try.prog w = .ok (.slice (some ⟨w.heap.size, 0, none⟩) y.size cap) w' ∧ Bytes w.heap.size y.data.toList w' ∧ Below w.heap.size w w' := by
  have hl : y.data.toList.length = y.size := Array.length_toList
  refine ⟨_, _, Lib.run_convert_string_bytes (P := Try.prog) w 9 35 5 y Try.underlying9 Try.underlying35 Try.underlying5, ⟨fun i hi => Lib.bytesWorld_cell w 5 y i (by omega), fun i hi => ?_⟩, ⟨rfl, rfl, rfl, ?_, fun k hk => Lib.bytesWorld_at_old w 5 y k hk⟩⟩
  · have hC : y.size ≤ (Lib.bytesCells w 5 y).size := by
      unfold Lib.bytesCells
      rw [Array.size_append, Array.size_map]
      exact Nat.le_add_right _ _
    have hn := Lib.bytesWorld_at_new w 5 y
    unfold World.frozen?
    rw [hn]
    simp
    omega
  · rw [Lib.bytesWorld_size]; omega
theorem bytes_back {g : Nat} {l : List UInt8} {w : World} (h : Bytes g l w) (n cap : Nat) (hn : n = l.length) : (convert 35 9 (.slice (some ⟨g, 0, none⟩) n cap)).run Try.prog w = .ok (.string (lstr l)) w := by
  subst hn
  refine run_convert_bytes_back (P := Try.prog) w 35 9 5 ⟨g, 0, none⟩ cap l Try.underlying35 Try.underlying5 Try.underlying9 (fun j hj => ?_)
  rw [Go.WideShapes.add_plain, Nat.zero_add, h.cell j hj]
  simp [List.getD, List.getElem?_eq_getElem hj]
theorem Bytes.set {g : Nat} {l : List UInt8} {w : World} (h : Bytes g l w) (k : Nat) (hk : k < l.length) (v : UInt8) : Bytes g (l.set k v) (w.setCell ⟨g, k, none⟩ (bv v)) := by
  refine ⟨fun i hi => ?_, fun i hi => ?_⟩
  · rw [List.length_set] at hi
    by_cases he : k = i
    · subst he
      rw [World.cell?_setCell_same _ _ _ (h.cell k hk)]
      simp [List.getD, hk]
    · have hne : (⟨g, k, none⟩ : Addr) ≠ ⟨g, i, none⟩ := by
        intro e
        injection e with e1 e2
        exact he e2
      have := World.cell?_setCell_other w (a := ⟨g, k, none⟩) (b := ⟨g, i, none⟩) (v := bv v) hne
      rw [this, h.cell i hi]
      simp [List.getD, he]
  · rw [List.length_set] at hi
    rw [World.frozen?_setCell]; exact h.free i hi
theorem Bytes.below {g : Nat} {l : List UInt8} {w w' : World} (h : Bytes g l w) (hg : g < w.heap.size) (hb : Below w.heap.size w w') : Bytes g l w' :=
  ⟨fun i hi => (hb.cell (p := ⟨g, i, none⟩) hg).trans (h.cell i hi), fun i hi => (hb.frozen (p := ⟨g, i, none⟩) hg).trans (h.free i hi)⟩

theorem sem_shl8 (t : TypeId) (r : Nat) : binOp .shl t (.int .u8 1) (.int .u64 (r : Int)) = pure (bv (UInt8.ofNat (2 ^ r))) := by
  show Op.shift .shl .u8 1 .u64 (r : Int) = _
  rw [shift_shl_any _ _ _ _ (by omega)]; unfold bv
  show pure (Value.int .u8 (IntKind.u8.wrap (1 * ((2 ^ min r 8 : Nat) : Int)))) = _
  rw [IntKind.wrap_u8', UInt8.toNat_ofNat', Int.one_mul, show (256 : Int) = ((2 ^ 8 : Nat) : Int) from rfl, ← Int.natCast_emod]
  rcases Nat.le_total r 8 with h | h
  · rw [Nat.min_eq_left h]
  · rw [Nat.min_eq_right h, Nat.mod_self, Nat.mod_eq_zero_of_dvd (Nat.pow_dvd_pow 2 h)]
theorem sem_xor8 (t : TypeId) (a b : UInt8) : binOp .xor t (.int .u8 (a.toNat : Int)) (.int .u8 (b.toNat : Int)) = pure (bv (a ^^^ b)) := by
  show pure (Value.int .u8 (Go.bits .xor .u8 (a.toNat : Int) (b.toNat : Int))) = _
  rw [u8_xor_nat _ _ a.toNat_lt b.toNat_lt]; unfold bv; rw [UInt8.toNat_xor]
theorem par_shr (T : BitVec 32) (n : Nat) : par (T >>> n) = T.getLsbD n := by unfold par; simp

/-- A bit turned, as the program does it. -/
theorem Bytes.flip {g : Nat} {l : List UInt8} {w : World} (h : Bytes g l w) (m : Nat) (hm : m < 8 * l.length) : Bytes g (flip l m) (w.setCell ⟨g, m / 8, none⟩ (bv (l.getD (m / 8) 0 ^^^ UInt8.ofNat (2 ^ (m % 8))))) :=
  h.set (m / 8) (by omega) _
theorem opened_turn (l : List UInt8) (a : Nat) (t : BitVec 32) : opened (turn (sealed l) a t 32) = if some_ (sealed l) a t 32 then ([], 8) else (l, 0) := by
  cases hs : some_ (sealed l) a t 32 with
  | false => rw [turn_none 32 hs, opened_sealed]; rfl
  | true =>
    rw [if_pos rfl]
    have hlen : 4 ≤ (turn (sealed l) a t 32).length := by rw [turn_length, sealed_length]; omega
    unfold opened
    rw [if_neg (by omega), if_neg]
    intro h
    have h2 := (sealed_iff hlen).1 h
    rw [← crc_sealed l] at h2
    exact turn_some hs (crc_turn h2)
end Go.Proofs.Ytmelcndcgaoegaa
