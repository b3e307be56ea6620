/- A disk in memory: the struct's cells, its two maps, its list of writes. -/
import Derived.Test.YtdgbfkedgedogaaRows
import Derived.WalkKit
import Derived.WalkSpells
import Derived.WalkLawsBesides
import Derived.Maps.OwnSet
import Derived.Deep.MidRow
import Derived.Deep.AppendLies
import Derived.Deep.RegionHeld3
import Derived.OneCell
import Derived.Lib.Hide
namespace Go.Proofs.Ytdgbfkedgedogaa
open Go.RowKit Go.Maps

/-! ### Maps keyed by int -/
abbrev ik (a : Int) : Lit := .int .i64 a
theorem law3 : Keyed Try.prog 3 := int_keyed Try.underlying3
def upd {α : Type} (f : Int → Option α) (a : Int) (v : α) : Int → Option α := fun x => if x = a then some v else f x
def held (v : Value) : Option (DataW Value × List MemPlace) := some (.held v, [])

/-- Block b is a map of at most n entries that holds just f. -/
def Mp (w : World) (b n : Nat) (f : Int → Option Value) : Prop :=
  ∃ D : DataW Value, w.ownsMap Try.prog 3 held b n D ∧ ∀ a, (ik a).wf = true → (∀ z, D.atKey (ik a) (.held z) = .held ((f a).getD z)) ∧ Maps.has D (ik a) = (f a).isSome

theorem Mp.lt {w : World} {b n : Nat} {f : Int → Option Value} (h : Mp w b n f) : b < w.heap.size := by
  obtain ⟨D, ho, _⟩ := h; exact ho.lt
theorem Mp.isMap {w : World} {b n : Nat} {f : Int → Option Value} (h : Mp w b n f) : ∃ es c, w.heap[b]? = some (.map es c) := by
  obtain ⟨D, ⟨es, c, hb, _⟩, _⟩ := h; exact ⟨es, c, hb⟩
theorem Mp.mono {w : World} {b n m : Nat} {f : Int → Option Value} (h : Mp w b n f) (hm : n ≤ m) : Mp w b m f := by
  obtain ⟨D, ho, h2⟩ := h; exact ⟨D, ho.mono hm, h2⟩
theorem Mp.kept {w w' : World} {b n : Nat} {f : Int → Option Value} (h : Mp w b n f) (hb : w'.heap[b]? = w.heap[b]?) : Mp w' b n f := by
  obtain ⟨D, ⟨es, c, h1, h2⟩, h3⟩ := h; exact ⟨D, ⟨es, c, hb.trans h1, h2⟩, h3⟩
theorem Mp.made (w : World) : Mp (w.alloc (.map #[] 0)) w.heap.size 0 (fun _ => none) :=
  ⟨.map [], World.ownsMap_made w _ _ _, fun _ _ => ⟨fun _ => rfl, rfl⟩⟩
theorem Mp.look {w : World} {b n : Nat} {f : Int → Option Value} (h : Mp w b n f) {t e : TypeId} (ht : Try.prog.underlying t = some (.map 3 e)) {z : Value} (hz : (zeroValue e).run Try.prog w = .ok z w) {a : Int} (ha : (ik a).wf = true) :
    (Instr.lookup t (.map (some b)) (.int .i64 a) false).run Try.prog w = .ok ((f a).getD z) w := by
  obtain ⟨D, ho, h2⟩ := h
  obtain ⟨v, ps, hr, hv⟩ := ho.lookup law3 ht hz (zd := .held z) (zp := []) rfl (keyOf_int_mk Try.underlying3 ha)
  rw [(h2 a ha).1 z] at hv
  rw [hr]
  unfold held at hv
  injection hv with hv
  injection hv with hv _
  injection hv with hv
  rw [hv]
theorem Mp.look_ok {w : World} {b n : Nat} {f : Int → Option Value} (h : Mp w b n f) {t e : TypeId} (ht : Try.prog.underlying t = some (.map 3 e)) {z : Value} (hz : (zeroValue e).run Try.prog w = .ok z w) {a : Int} (ha : (ik a).wf = true) :
    (Instr.lookup t (.map (some b)) (.int .i64 a) true).run Try.prog w = .ok (.tuple #[(f a).getD z, .bool (f a).isSome]) w := by
  obtain ⟨D, ho, h2⟩ := h
  obtain ⟨v, ps, hr, hv⟩ := ho.look_ok law3 ht hz (zd := .held z) (zp := []) rfl (keyOf_int_mk Try.underlying3 ha)
  rw [(h2 a ha).1 z] at hv
  rw [hr, (h2 a ha).2]
  unfold held at hv
  injection hv with hv
  injection hv with hv _
  injection hv with hv
  rw [hv]
theorem ik_key (a : Int) : WideAt.IsKeyLit (ik a) := trivial
theorem Mp.store {w : World} {b n : Nat} {f : Int → Option Value} (h : Mp w b n f) {t e : TypeId} (ht : Try.prog.underlying t = some (.map 3 e)) (hn : n < maxLen) {a : Int} (ha : (ik a).wf = true) (v : Value) :
    ∃ w', (Instr.mapUpdate t (.map (some b)) (.int .i64 a) v).run Try.prog w = .ok () w' ∧ Mp w' b (n + 1) (upd f a v) ∧ w.mapTurned w' b := by
  obtain ⟨D, ho, h2⟩ := h
  have hm := ho.isMap
  obtain ⟨w', hr, h3, h4⟩ := ho.store law3 ht hn (keyOf_int_mk Try.underlying3 ha) (val := v) (d := .held v) (ps := []) rfl
  refine ⟨w', hr, ⟨_, h3, fun x hx => ?_⟩, h4⟩
  unfold upd
  by_cases hxa : x = a
  · subst hxa
    rw [if_pos rfl]
    exact ⟨fun z => atKey_put_same hm (ik_key _) _ _, has_put_same hm (ik_key _) _⟩
  · rw [if_neg hxa]
    have hne : ik x ≠ ik a := fun e => hxa (by injection e)
    exact ⟨fun z => (atKey_put_other hne _ _).trans ((h2 x hx).1 z), (has_put_other hne _).trans (h2 x hx).2⟩
theorem turned_other {w w' : World} {b k : Nat} (h : w.mapTurned w' b) (hk : k ≠ b) : w'.heap[k]? = w.heap[k]? := by
  rcases Nat.lt_or_ge k w.heap.size with hl | hl
  · exact h.grown.block k hl (fun e => hk (by injection e))
  · obtain ⟨es, c, es', c', hb, rfl⟩ := h
    exact ChangeMaps.heap_setBlock_other hb _ hk

/-! ### Words of 64 bits -/
/-- A word as a number; closed to the walk's simp. -/
def u64 (x : BitVec 64) : Int := (x.toNat : Int)
abbrev kv (x : BitVec 64) : Value := .int .u64 (u64 x)
def b01 (b : Bool) : Int := if b then 1 else 0
def par (x : BitVec 64) : Bool := x.getLsbD 0
theorem par_shr (x : BitVec 64) (n : Nat) : par (x >>> n) = x.getLsbD n := by unfold par; simp
theorem lsb_nat (x : BitVec 64) : (x.toNat : Int) % 2 = b01 (x.getLsbD 0) := by
  unfold b01 BitVec.getLsbD
  rw [Nat.testBit_zero]
  by_cases h : x.toNat % 2 = 1
  · rw [decide_eq_true h, if_pos rfl]; omega
  · rw [decide_eq_false h, if_neg (by simp)]; omega
theorem sem_shr64 (t : TypeId) (k : IntKind) (x : BitVec 64) (n : Int) (h0 : 0 ≤ n) : binOp .shr t (.int .u64 (u64 x)) (.int k n) = pure (kv (x >>> n.toNat)) := by
  show Op.shift .shr .u64 (u64 x) k n = _
  rw [shift_shr_any _ _ _ _ h0]; unfold kv u64; rw [BitVec.toNat_ushiftRight, Nat.shiftRight_eq_div_pow]
  have hx := x.isLt
  congr 2
  rw [show ((2 : Int) ^ min n.toNat (IntKind.bits .u64)) = ((2 ^ min n.toNat 64 : Nat) : Int) by push_cast; rfl, ← Int.natCast_ediv]
  congr 1
  rcases Nat.le_total n.toNat 64 with h | h
  · rw [Nat.min_eq_left h]
  · rw [Nat.min_eq_right h, Nat.div_eq_of_lt hx, Nat.div_eq_of_lt (Nat.lt_of_lt_of_le hx (Nat.pow_le_pow_right (by decide) h))]
theorem sem_and64 (t : TypeId) (x : BitVec 64) : binOp .and t (.int .u64 (u64 x)) (.int .u64 1) = pure (.int .u64 (b01 (par x))) := by
  show pure (Value.int .u64 (Go.bits .and .u64 (u64 x) ((1 : Nat) : Int))) = _
  unfold u64 par
  rw [u64_and_nat _ _ x.isLt (by decide), Nat.and_one_is_mod, ← lsb_nat]; rfl
theorem sem_rem64 (t : TypeId) (x : BitVec 64) : binOp .rem t (.int .u64 (u64 x)) (.int .u64 2) = pure (.int .u64 (b01 (par x))) := by
  unfold par; rw [binOp_rem, ← lsb_nat]; unfold u64
  show (pure (Value.int .u64 ((x.toNat : Int).tmod 2)) : Sem Value) = _
  rw [Int.tmod_eq_emod_of_nonneg (by omega)]
theorem sem_eq01 (t : TypeId) (a : Bool) : binOp .eql t (.int .u64 (b01 a)) (.int .u64 1) = pure (.bool a) := by
  cases a <;> rfl

/-! ### The disk -/
/-- Where a disk's parts lie. -/
structure Hd where
  L : Nat
  N : Nat
  v : Value
/-- What a disk's parts hold. -/
structure Raw where
  size : Int
  lasts : Int → Option (List UInt8)
  cw : List (Int × List UInt8)
  newest : Int → Option Nat
  waiting : Int
  cut : Int
  keep : BitVec 64
  down : Bool
  nL : Nat
  nN : Nat
def Raw.cells (h : Hd) (s : Raw) : Array Value := #[.int .i64 s.size, .map (some h.L), h.v, .map (some h.N), .int .i64 s.waiting, .int .i64 s.cut, .int .u64 (u64 s.keep), .bool s.down]
def sec (l : List UInt8) : List Value := l.map fun b => .int .u8 (b.toNat : Int)
def wcells (x : Int × List UInt8) : List Value := .int .i64 x.1 :: sec x.2
def rows (l : List (Int × List UInt8)) : List Value := l.flatMap wcells
def secV (l : List UInt8) : Value := .agg (sec l).toArray

structure Disk (w : World) (p : Nat) (h : Hd) (s : Raw) : Prop where
  cells : w.heap[p]? = some (.cells (s.cells h) 66 (0, 0))
  lasts : Mp w h.L s.nL (fun a => (s.lasts a).map secV)
  newest : Mp w h.N s.nN (fun a => (s.newest a).map fun i => .int .i64 (i : Int))
  row : w.ownsRow 0 72 33 h.v s.cw.length (rows s.cw)
  apart : h.L ≠ h.N
def owned (p : Nat) (h : Hd) (k : Nat) : Prop := k = p ∨ k = h.L ∨ k = h.N ∨ h.v.ownBlock = some k
theorem Disk.lt {w : World} {p : Nat} {h : Hd} {s : Raw} (D : Disk w p h s) {k : Nat} (hk : owned p h k) : k < w.heap.size := by
  rcases hk with rfl | rfl | rfl | hk
  · exact lt_of_block D.cells
  · exact D.lasts.lt
  · exact D.newest.lt
  · exact (D.row.lt k hk).2
theorem Disk.kept {w w' : World} {p : Nat} {h : Hd} {s : Raw} (D : Disk w p h s) (hk : ∀ k, owned p h k → w'.heap[k]? = w.heap[k]?) : Disk w' p h s where
  cells := (hk p (.inl rfl)).trans D.cells
  lasts := D.lasts.kept (hk _ (.inr (.inl rfl)))
  newest := D.newest.kept (hk _ (.inr (.inr (.inl rfl))))
  row := by
    refine ⟨D.row.1, ?_⟩
    rcases D.row.2 with h0 | ⟨g, cap, cur, hv, hb, hg, r⟩
    · exact .inl h0
    · exact .inr ⟨g, cap, cur, hv, hb, (hk g (.inr (.inr (.inr (by rw [hv]; rfl))))).trans hg, r⟩
  apart := D.apart
theorem Disk.grown {w w' : World} {p : Nat} {h : Hd} {s : Raw} (D : Disk w p h s) (hb : Below w.heap.size w w') : Disk w' p h s := D.kept fun _ hk => hb.block _ (D.lt hk)

/-- What a call leaves of what isn't the disk's; what it is made of is of old, or new. -/
structure Turn (p : Nat) (w w' : World) (h h' : Hd) : Prop where
  os : w'.os = w.os
  tape : w'.tape = w.tape
  output : w'.output = w.output
  size : w.heap.size ≤ w'.heap.size
  block : ∀ k, k < w.heap.size → ¬ owned p h k → w'.heap[k]? = w.heap[k]?
  own : ∀ k, owned p h' k → owned p h k ∨ w.heap.size ≤ k
theorem Turn.refl (p : Nat) (w : World) (h : Hd) : Turn p w w h h := ⟨rfl, rfl, rfl, Nat.le_refl _, fun _ _ _ => rfl, fun _ hk => .inl hk⟩
theorem Turn.trans {p : Nat} {a b c : World} {h h' h'' : Hd} (x : Turn p a b h h') (y : Turn p b c h' h'') : Turn p a c h h'' :=
  ⟨y.os.trans x.os, y.tape.trans x.tape, y.output.trans x.output, Nat.le_trans x.size y.size,
    fun k hk ho => (y.block k (Nat.lt_of_lt_of_le hk x.size) (fun e => (x.own k e).elim ho (fun e => by omega))).trans (x.block k hk ho),
    fun k hk => (y.own k hk).elim (fun e => x.own k e) (fun e => .inr (Nat.le_trans x.size e))⟩
theorem Turn.of_below {p : Nat} {w w' : World} (h : Hd) (hb : Below w.heap.size w w') : Turn p w w' h h :=
  ⟨hb.os, hb.tape, hb.output, hb.size, fun k hk _ => hb.block k hk, fun _ hk => .inl hk⟩
/-- Block k is there, and isn't the disk's. -/
def Mine (w : World) (p : Nat) (h : Hd) (k : Nat) : Prop := k < w.heap.size ∧ ¬ owned p h k
theorem Turn.mine {p : Nat} {w w' : World} {h h' : Hd} (t : Turn p w w' h h') {k : Nat} (hk : Mine w p h k) : Mine w' p h' k :=
  ⟨Nat.lt_of_lt_of_le hk.1 t.size, fun e => (t.own k e).elim hk.2 (fun e => by have := hk.1; omega)⟩
theorem Turn.keep {p : Nat} {w w' : World} {h h' : Hd} (t : Turn p w w' h h') {k : Nat} (hk : Mine w p h k) : w'.heap[k]? = w.heap[k]? := t.block k hk.1 hk.2
theorem Turn.cell {p : Nat} {w w' : World} {h h' : Hd} (t : Turn p w w' h h') {k o : Nat} (hk : Mine w p h k) : w'.cell? ⟨k, o, none⟩ = w.cell? ⟨k, o, none⟩ := World.cell?_of_block (t.keep hk)
theorem Turn.frozen {p : Nat} {w w' : World} {h h' : Hd} (t : Turn p w w' h h') {k o : Nat} (hk : Mine w p h k) : w'.frozen? ⟨k, o, none⟩ = w.frozen? ⟨k, o, none⟩ := World.frozen?_of_block (t.keep hk)
theorem Mine.below {w w' : World} {p : Nat} {h : Hd} {k : Nat} (hk : Mine w p h k) (hb : Below w.heap.size w w') : Mine w' p h k := ⟨Nat.lt_of_lt_of_le hk.1 hb.size, hk.2⟩
theorem Disk.mine_new {w w' : World} {p : Nat} {h : Hd} {s : Raw} (D : Disk w p h s) {k : Nat} (h1 : w.heap.size ≤ k) (h2 : k < w'.heap.size) : Mine w' p h k :=
  ⟨h2, fun e => by have := D.lt e; omega⟩
theorem Turn.below {p : Nat} {w w' : World} {h h' : Hd} (t : Turn p w w' h h') {B : Nat} (hB : B ≤ w.heap.size) (ho : ∀ k, owned p h k → B ≤ k) : Below B w w' :=
  ⟨t.os, t.tape, t.output, t.size, fun k hk => t.block k (by omega) (fun e => by have := ho k e; omega)⟩
theorem Turn.owns {p : Nat} {w w' : World} {h h' : Hd} (t : Turn p w w' h h') {B : Nat} (hB : B ≤ w.heap.size) (ho : ∀ k, owned p h k → B ≤ k) : ∀ k, owned p h' k → B ≤ k :=
  fun k hk => (t.own k hk).elim (ho k) (fun e => by omega)

/-! ### A cell of the disk's own, read and written -/
theorem block_setCell {w : World} {b k : Nat} {cs : Array Value} {t : TypeId} {fr : Nat × Nat} (h : w.heap[b]? = some (.cells cs t fr)) (u : Value) : (w.setCell ⟨b, k, none⟩ u).heap[b]? = some (.cells (cs.setIfInBounds k u) t fr) := by
  have hlt := lt_of_block h
  have h' : w.heap[b] = .cells cs t fr := by simpa [Array.getElem?_eq_getElem hlt] using h
  show (w.heap.modify b _)[b]? = _
  rw [Array.getElem?_eq_getElem (by simpa using hlt), Array.getElem_modify_self, h']
  rfl
theorem cell_block {w : World} {b : Nat} {cs : Array Value} {t : TypeId} {fr : Nat × Nat} (h : w.heap[b]? = some (.cells cs t fr)) (k : Nat) : w.cell? ⟨b, k, none⟩ = cs[k]? := by
  simp [World.cell?, h]
theorem free_block {w : World} {b : Nat} {cs : Array Value} {t : TypeId} (h : w.heap[b]? = some (.cells cs t (0, 0))) (k : Nat) : w.frozen? ⟨b, k, none⟩ = false := by
  simp [World.frozen?, h]
section
variable {w : World} {p : Nat} {h : Hd} {s : Raw}
theorem Disk.c0 (D : Disk w p h s) : w.cell? ⟨p, 0, none⟩ = some (.int .i64 s.size) := cell_block D.cells 0
theorem Disk.c1 (D : Disk w p h s) : w.cell? ⟨p, 1, none⟩ = some (.map (some h.L)) := cell_block D.cells 1
theorem Disk.c2 (D : Disk w p h s) : w.cell? ⟨p, 2, none⟩ = some h.v := cell_block D.cells 2
theorem Disk.c3 (D : Disk w p h s) : w.cell? ⟨p, 3, none⟩ = some (.map (some h.N)) := cell_block D.cells 3
theorem Disk.c4 (D : Disk w p h s) : w.cell? ⟨p, 4, none⟩ = some (.int .i64 s.waiting) := cell_block D.cells 4
theorem Disk.c5 (D : Disk w p h s) : w.cell? ⟨p, 5, none⟩ = some (.int .i64 s.cut) := cell_block D.cells 5
theorem Disk.c6 (D : Disk w p h s) : w.cell? ⟨p, 6, none⟩ = some (.int .u64 (u64 s.keep)) := cell_block D.cells 6
theorem Disk.c7 (D : Disk w p h s) : w.cell? ⟨p, 7, none⟩ = some (.bool s.down) := cell_block D.cells 7
theorem Disk.free (D : Disk w p h s) (k : Nat) : w.frozen? ⟨p, k, none⟩ = false := free_block D.cells k
theorem Disk.pL (D : Disk w p h s) : h.L ≠ p := fun e => by
  obtain ⟨es, c, hb⟩ := D.lasts.isMap; rw [e, D.cells] at hb; injection hb with hb; cases hb
theorem Disk.pN (D : Disk w p h s) : h.N ≠ p := fun e => by
  obtain ⟨es, c, hb⟩ := D.newest.isMap; rw [e, D.cells] at hb; injection hb with hb; cases hb
theorem row_block {w : World} {v : Value} {n : Nat} {xs : List Value} (hr : w.ownsRow 0 72 33 v n xs) {k : Nat} (hk : v.ownBlock = some k) : ∃ cur, w.heap[k]? = some (.cells cur 72 (0, 0)) := by
  rcases hr.2 with ⟨rfl, _⟩ | ⟨g, cap, cur, rfl, _, hg, _⟩
  · cases hk
  · injection hk with hk; subst hk; exact ⟨cur, hg⟩
theorem Disk.pv (D : Disk w p h s) : h.v.ownBlock ≠ some p := fun e => by
  obtain ⟨cur, hg⟩ := row_block D.row e; rw [D.cells] at hg; injection hg with hg; injection hg with _ h2 _; cases h2
theorem Disk.vL (D : Disk w p h s) : h.v.ownBlock ≠ some h.L := fun e => by
  obtain ⟨cur, hg⟩ := row_block D.row e; obtain ⟨es, c, hb⟩ := D.lasts.isMap; rw [hb] at hg; injection hg with hg; cases hg
theorem Disk.vN (D : Disk w p h s) : h.v.ownBlock ≠ some h.N := fun e => by
  obtain ⟨cur, hg⟩ := row_block D.row e; obtain ⟨es, c, hb⟩ := D.newest.isMap; rw [hb] at hg; injection hg with hg; cases hg
/-- A field of plain data is written. -/
theorem Disk.write (D : Disk w p h s) (k : Nat) (u : Value) (s' : Raw) (hc : (s.cells h).setIfInBounds k u = s'.cells h) (h1 : s'.lasts = s.lasts) (h2 : s'.cw = s.cw) (h3 : s'.newest = s.newest) (h4 : s'.nL = s.nL) (h5 : s'.nN = s.nN) :
    Disk (w.setCell ⟨p, k, none⟩ u) p h s' where
  cells := by rw [block_setCell D.cells, hc]
  lasts := by rw [h1, h4]; exact D.lasts.kept (Below.heap_setCell _ _ _ _ D.pL)
  newest := by rw [h3, h5]; exact D.newest.kept (Below.heap_setCell _ _ _ _ D.pN)
  row := by rw [h2]; exact ownsRow_setCell_other D.row D.pv u
  apart := D.apart
theorem Disk.write_turn (D : Disk w p h s) (k : Nat) (u : Value) : Turn p w (w.setCell ⟨p, k, none⟩ u) h h :=
  ⟨rfl, rfl, rfl, by simp [World.setCell], fun j hj ho => Below.heap_setCell _ _ _ _ (fun e => ho (.inl e)), fun _ hk => .inl hk⟩
end
end Go.Proofs.Ytdgbfkedgedogaa
