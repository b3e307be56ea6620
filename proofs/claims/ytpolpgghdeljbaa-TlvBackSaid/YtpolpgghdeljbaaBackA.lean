/- TlvBack's records, as the law lays them. -/
import Derived.Test.YtpolpgghdeljbaaGather
import Derived.Test.YtpolpgghdeljbaaRow
import Derived.Test.YtpolpgghdeljbaaRest
namespace Go.Proofs.Ytpolpgghdeljbaa
open Go.RowKit Crc

/-- A Kind out of a byte; closed to the walk's simp. -/
def k255 (c : UInt8) : Int := ((c.toNat % 255 : Nat) : Int)
theorem k255_lo (c : UInt8) : 0 ≤ k255 c := by unfold k255; omega
theorem k255_hi (c : UInt8) : k255 c < 255 := by unfold k255; omega
theorem sem_rem255 (t : TypeId) (c : UInt8) : binOp .rem t (.int .u8 (c.toNat : Int)) (.int .u8 255) = pure (.int .u8 (k255 c)) := by
  rw [binOp_rem]; unfold k255
  show (pure (Value.int .u8 (((c.toNat : Nat) : Int).tmod 255)) : Sem Value) = _
  rw [Int.tmod_eq_emod_of_nonneg (Int.natCast_nonneg _)]
  congr 2
theorem run_k255 (w : World) (c : UInt8) : (convert 5 3 (.int .u8 (k255 c))).run Try.prog w = .ok (.int .i64 (k255 c)) w := by
  have h : (convert 5 3 (.int .u8 (k255 c))).run Try.prog w = .ok (.int .i64 (IntKind.i64.wrap (k255 c))) w := by rfl
  have h1 := k255_lo c
  have h2 := k255_hi c
  rw [h, IntWalk.i64_in _ (by omega)]
/-- The record that the law makes of a byte, a place and a text. -/
def recAt (K : Nat → UInt8) (ss : List ByteArray) (i : Nat) : Tlv.R := (1 + k255 (K i), (i : Int), (ss.getD i ByteArray.empty).data.toList)
def recsOf (K : Nat → UInt8) (ss : List ByteArray) (k : Nat) : List Tlv.R := (List.range k).map (recAt K ss)
def endsOf (K : Nat → UInt8) (ss : List ByteArray) (k : Nat) : List Value := (List.range k).map fun j => .int .i64 ((Tlv.allBytes (recsOf K ss (j + 1))).length : Int)
section
variable {K : Nat → UInt8} {ss : List ByteArray}
theorem recsOf_succ (k : Nat) : recsOf K ss (k + 1) = recsOf K ss k ++ [recAt K ss k] := by unfold recsOf; rw [List.range_succ, List.map_append]; rfl
theorem endsOf_succ (k : Nat) : endsOf K ss (k + 1) = endsOf K ss k ++ [.int .i64 ((Tlv.allBytes (recsOf K ss (k + 1))).length : Int)] := by unfold endsOf; rw [List.range_succ, List.map_append]; rfl
theorem recsOf_length (k : Nat) : (recsOf K ss k).length = k := by unfold recsOf; simp
theorem endsOf_length (k : Nat) : (endsOf K ss k).length = k := by unfold endsOf; simp
theorem recsOf_take (k j : Nat) (h : j ≤ k) : (recsOf K ss k).take j = recsOf K ss j := by
  unfold recsOf
  rw [← List.map_take, List.take_range, Nat.min_eq_left h]
theorem endsOf_get (k j : Nat) (h : j < k) : (endsOf K ss k)[j]? = some (.int .i64 ((Tlv.allBytes (recsOf K ss (j + 1))).length : Int)) := by
  unfold endsOf
  simp [h]
theorem allBytes_succ (k : Nat) : Tlv.allBytes (recsOf K ss (k + 1)) = Tlv.allBytes (recsOf K ss k) ++ Tlv.bytes (recAt K ss k) := by
  rw [recsOf_succ, Tlv.allBytes_append]
  congr 1
  show Tlv.bytes _ ++ [] = _
  rw [List.append_nil]
theorem recAt_right (i : Nat) (hi : i < 1000) : 1 ≤ (recAt K ss i).1 ∧ (recAt K ss i).1 ≤ 255 ∧ 0 ≤ (recAt K ss i).2.1 ∧ (recAt K ss i).2.1 ≤ 2147483647 := by
  have h1 := k255_lo (K i)
  have h2 := k255_hi (K i)
  unfold recAt
  dsimp only
  omega
theorem recAt_len (i : Nat) : (recAt K ss i).2.2.length = (ss.getD i ByteArray.empty).size := Array.length_toList
theorem recAt_printed (i : Nat) (hi : i < 1000) : Tlv.printed (recAt K ss i) = if (ss.getD i ByteArray.empty).size ≤ 8192 then (Tlv.bytes (recAt K ss i), 0) else ([], 3) := by
  unfold Tlv.printed
  rw [if_pos (recAt_right i hi), recAt_len]
theorem recAt_fits (i : Nat) (hi : i < 1000) (h : (ss.getD i ByteArray.empty).size ≤ 8192) : Tlv.fits (recAt K ss i) := by
  obtain ⟨h1, h2, h3, h4⟩ := recAt_right (K := K) (ss := ss) i hi
  exact ⟨h1, h2, h3, h4, by rw [recAt_len]; exact h⟩
end
/-- What the first loop leaves. -/
structure Laid (w0 : World) (K : Nat → UInt8) (ss : List ByteArray) (k : Nat) (wr : World) (vw ve : Value) : Prop where
  want : wr.ownsRow w0.heap.size 38 3 vw k (rcells (recsOf K ss k))
  ends : wr.ownsRow w0.heap.size 3 1 ve k (endsOf K ss k)
  good : Tlv.Good 0 (recsOf K ss k)
  count : (Tlv.allBytes (recsOf K ss k)).length = (cat (ss.take k)).length + 11 * k
  below : Below w0.heap.size w0 wr
theorem row_apart {w : World} {B B' n n' : Nat} {v v' : Value} {xs xs' : List Value} (h : w.ownsRow B 38 3 v n xs) (h' : w.ownsRow B' 3 1 v' n' xs') {k : Nat} (hk : v.ownBlock = some k) : v'.ownBlock ≠ some k := fun e => by
  rcases h.2 with ⟨rfl, _⟩ | ⟨g, cap, cur, rfl, _, hg, _⟩
  · cases hk
  · rcases h'.2 with ⟨rfl, _⟩ | ⟨g', cap', cur', rfl, _, hg', _⟩
    · cases e
    · injection hk with hk
      injection e with e
      have h1 : g = k := hk
      have h2 : g' = k := e
      subst h1
      subst h2
      rw [hg] at hg'; injection hg' with hg'; injection hg' with _ h2 _; cases h2
theorem Laid.keep {w0 wr w' : World} {K : Nat → UInt8} {ss : List ByteArray} {k : Nat} {vw ve : Value} (L : Laid w0 K ss k wr vw ve) (hb : Below wr.heap.size wr w') : Laid w0 K ss k w' vw ve :=
  ⟨owns_below L.want hb, owns_below L.ends hb, L.good, L.count, L.below.trans (hb.mono L.below.size)⟩
theorem info3 : (Try.prog.info? 3).map (fun i => (i.zero, i.size, i.bytes)) = some (some (.int .i64 0), 1, 8) := by kernel_rfl
theorem Laid.start (w0 wr : World) (K : Nat → UInt8) (ss : List ByteArray) (hb : Below w0.heap.size w0 wr) : Laid w0 K ss 0 wr (.slice none 0 0) (.slice none 0 0) :=
  ⟨World.ownsRow_nil _ _ _ _, World.ownsRow_nil _ _ _ _, trivial, rfl, hb⟩
/-- One record more: appended to the records, its end to the ends. -/
theorem Laid.more {w0 w1 w2 w3 w4 : World} {K : Nat → UInt8} {ss : List ByteArray} {k : Nat} {vw vw' ve ve' : Value} (L : Laid w0 K ss k w1 vw ve) (hk : k < 1000) (hks : k < ss.length) (h8 : (ss.getD k ByteArray.empty).size ≤ 8192)
    (hg : w1.grownBy w2 vw.ownBlock) (hw : w2.ownsRow w0.heap.size 38 3 vw' (k + 1) (rcells (recsOf K ss k) ++ (rc (recAt K ss k)).toList))
    (hb : Below w2.heap.size w2 w3) (hg2 : w3.grownBy w4 ve.ownBlock) (he : w4.ownsRow w0.heap.size 3 1 ve' (k + 1) (endsOf K ss k ++ [.int .i64 ((Tlv.allBytes (recsOf K ss (k + 1))).length : Int)])) :
    Laid w0 K ss (k + 1) w4 vw' ve' := by
  have e2 : w2.ownsRow w0.heap.size 3 1 ve k (endsOf K ss k) := owns_kept L.ends fun j hj => hg.block j (L.ends.lt j hj).2 (fun e => row_apart L.want L.ends e.symm hj)
  have e3 := owns_below e2 hb
  have w3' := owns_below hw hb
  have b2 := L.below.grown hg L.below.size (fun j hj => (L.want.lt j hj).1)
  have b3 := b2.trans (hb.mono b2.size)
  refine ⟨?_, ?_, ?_, ?_, b3.grown hg2 b3.size (fun j hj => (e3.lt j hj).1)⟩
  · rw [recsOf_succ, rcells_append]
    have : rcells [recAt K ss k] = (rc (recAt K ss k)).toList := by simp [rcells]
    rw [this]
    exact owns_kept w3' fun j hj => hg2.block j (w3'.lt j hj).2 (fun e => row_apart w3' e3 hj e.symm)
  · rw [endsOf_succ]; exact he
  · rw [recsOf_succ]
    exact L.good.snoc (recAt_fits k hk h8) (by rw [recsOf_length]; unfold recAt; simp)
  · rw [allBytes_succ, List.length_append, L.count, Tlv.bytes_len, recAt_len, cat_take_succ ss k hks, List.length_append, Array.length_toList]
    show _ = _ + (ss.getD k ByteArray.empty).size + _
    omega
end Go.Proofs.Ytpolpgghdeljbaa
