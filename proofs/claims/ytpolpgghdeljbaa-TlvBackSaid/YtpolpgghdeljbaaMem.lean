/- A reader in memory: its four cells, the bytes that wait; the builder's calls on it. -/
import Derived.Test.YtpolpgghdeljbaaParse
import Derived.Lib.FrozenHead
import Derived.Deep.AppendLies
import Derived.OwnWalk
namespace Go.Proofs.Ytpolpgghdeljbaa
open Go.RowKit Crc

abbrev ptr (r : Nat) : Value := .pointer (some ⟨r, 0, none⟩)
abbrev rd (p v : Value) (n e : Int) : Array Value := #[p, v, .int .i64 n, .int .i64 e]
/-- Block r is a reader whose bytes lie at v. -/
structure Rw (w : World) (r : Nat) (p v : Value) (s : Tlv.S) : Prop where
  cells : w.heap[r]? = some (.cells (rd p v s.2.1 s.2.2) 49 (0, 0))
  row : w.ownsRowF 0 5 1 v s.1.length (Lib.byteCells s.1)
  addr : p = .pointer none ∨ p = ptr r
def Rd (w : World) (r : Nat) (v : Value) (s : Tlv.S) : Prop := ∃ p, Rw w r p v s
def owned (r : Nat) (v : Value) (k : Nat) : Prop := k = r ∨ v.ownBlock = some k

/-- What a call leaves of what isn't the reader's; what it is made of is of old, or new. -/
structure Turn (r : Nat) (w w' : World) (v v' : Value) : Prop where
  os : w'.os = w.os
  tape : w'.tape = w.tape
  output : w'.output = w.output
  size : w.heap.size ≤ w'.heap.size
  block : ∀ k, k < w.heap.size → ¬ owned r v k → w'.heap[k]? = w.heap[k]?
  own : ∀ k, owned r v' k → owned r v k ∨ w.heap.size ≤ k
theorem Turn.refl (r : Nat) (w : World) (v : Value) : Turn r w w v v := ⟨rfl, rfl, rfl, Nat.le_refl _, fun _ _ _ => rfl, fun _ hk => .inl hk⟩
theorem Turn.trans {r : Nat} {a b c : World} {v v' v'' : Value} (x : Turn r a b v v') (y : Turn r b c v' v'') : Turn r a c v v'' :=
  ⟨y.os.trans x.os, y.tape.trans x.tape, y.output.trans x.output, Nat.le_trans x.size y.size,
    fun k hk ho => (y.block k (Nat.lt_of_lt_of_le hk x.size) (fun e => (x.own k e).elim ho (fun e => by omega))).trans (x.block k hk ho),
    fun k hk => (y.own k hk).elim (fun e => x.own k e) (fun e => .inr (Nat.le_trans x.size e))⟩
theorem Turn.of_below {r : Nat} {w w' : World} (v : Value) (hb : Below w.heap.size w w') : Turn r w w' v v :=
  ⟨hb.os, hb.tape, hb.output, hb.size, fun k hk _ => hb.block k hk, fun _ hk => .inl hk⟩
/-- Block k is there, and isn't the reader's. -/
def Mine (w : World) (r : Nat) (v : Value) (k : Nat) : Prop := k < w.heap.size ∧ ¬ owned r v k
theorem Turn.mine {r : Nat} {w w' : World} {v v' : Value} (t : Turn r w w' v v') {k : Nat} (hk : Mine w r v k) : Mine w' r v' k :=
  ⟨Nat.lt_of_lt_of_le hk.1 t.size, fun e => (t.own k e).elim hk.2 (fun e => by have := hk.1; omega)⟩
theorem Turn.keep {r : Nat} {w w' : World} {v v' : Value} (t : Turn r w w' v v') {k : Nat} (hk : Mine w r v k) : w'.heap[k]? = w.heap[k]? := t.block k hk.1 hk.2
theorem Turn.cell {r : Nat} {w w' : World} {v v' : Value} (t : Turn r w w' v v') {k o : Nat} (hk : Mine w r v k) : w'.cell? ⟨k, o, none⟩ = w.cell? ⟨k, o, none⟩ := World.cell?_of_block (t.keep hk)
theorem Mine.below {w w' : World} {r : Nat} {v : Value} {k : Nat} (hk : Mine w r v k) (hb : Below w.heap.size w w') : Mine w' r v k := ⟨Nat.lt_of_lt_of_le hk.1 hb.size, hk.2⟩
theorem Turn.below {r : Nat} {w w' : World} {v v' : Value} (t : Turn r w w' v v') {B : Nat} (hB : B ≤ w.heap.size) (ho : ∀ k, owned r v k → B ≤ k) : Below B w w' :=
  ⟨t.os, t.tape, t.output, t.size, fun k hk => t.block k (by omega) (fun e => by have := ho k e; omega)⟩
theorem Turn.owns {r : Nat} {w w' : World} {v v' : Value} (t : Turn r w w' v v') {B : Nat} (hB : B ≤ w.heap.size) (ho : ∀ k, owned r v k → B ≤ k) : ∀ k, owned r v' k → B ≤ k :=
  fun k hk => (t.own k hk).elim (ho k) (fun e => by omega)

theorem Rw.lt {w : World} {r : Nat} {p v : Value} {s : Tlv.S} (D : Rw w r p v s) {k : Nat} (hk : owned r v k) : k < w.heap.size := by
  rcases hk with rfl | hk
  · exact lt_of_block D.cells
  · exact (D.row.lt k hk).2
theorem rowF_kept {w w' : World} {e : TypeId} {v : Value} {n : Nat} {xs : List Value} (h : w.ownsRowF 0 e 1 v n xs) (hk : ∀ k, v.ownBlock = some k → w'.heap[k]? = w.heap[k]?) : w'.ownsRowF 0 e 1 v n xs := by
  refine ⟨h.1, ?_⟩
  rcases h.2 with hn | ⟨g, cap, cur, fz, rfl, hb, hg, rest⟩
  · exact .inl hn
  · exact .inr ⟨g, cap, cur, fz, rfl, hb, (hk g rfl).trans hg, rest⟩
theorem Rw.kept {w w' : World} {r : Nat} {p v : Value} {s : Tlv.S} (D : Rw w r p v s) (hk : ∀ k, owned r v k → w'.heap[k]? = w.heap[k]?) : Rw w' r p v s where
  cells := (hk r (.inl rfl)).trans D.cells
  row := rowF_kept D.row fun k h => hk k (.inr h)
  addr := D.addr
theorem Rw.below {w w' : World} {r : Nat} {p v : Value} {s : Tlv.S} (D : Rw w r p v s) (hb : Below w.heap.size w w') : Rw w' r p v s := D.kept fun _ hk => hb.block _ (D.lt hk)
theorem Rd.lt {w : World} {r : Nat} {v : Value} {s : Tlv.S} (D : Rd w r v s) {k : Nat} (hk : owned r v k) : k < w.heap.size := by obtain ⟨p, D⟩ := D; exact D.lt hk
theorem Rd.kept {w w' : World} {r : Nat} {v : Value} {s : Tlv.S} (D : Rd w r v s) (hk : ∀ k, owned r v k → w'.heap[k]? = w.heap[k]?) : Rd w' r v s := by obtain ⟨p, D⟩ := D; exact ⟨p, D.kept hk⟩
theorem Rd.below {w w' : World} {r : Nat} {v : Value} {s : Tlv.S} (D : Rd w r v s) (hb : Below w.heap.size w w') : Rd w' r v s := D.kept fun _ hk => hb.block _ (D.lt hk)
theorem Rd.mine_new {w w' : World} {r : Nat} {v : Value} {s : Tlv.S} (D : Rd w r v s) {k : Nat} (h1 : w.heap.size ≤ k) (h2 : k < w'.heap.size) : Mine w' r v k :=
  ⟨h2, fun e => by have := D.lt e; omega⟩

theorem cell_block {w : World} {b : Nat} {cs : Array Value} {t : TypeId} {fr : Nat × Nat} (h : w.heap[b]? = some (.cells cs t fr)) (k : Nat) : w.cell? ⟨b, k, none⟩ = cs[k]? := by
  simp [World.cell?, h]
theorem free_block {w : World} {b : Nat} {cs : Array Value} {t : TypeId} (h : w.heap[b]? = some (.cells cs t (0, 0))) (k : Nat) : w.frozen? ⟨b, k, none⟩ = false := by
  simp [World.frozen?, h]
section
variable {w : World} {r : Nat} {p v : Value} {s : Tlv.S}
theorem Rw.c0 (D : Rw w r p v s) : w.cell? ⟨r, 0, none⟩ = some p := cell_block D.cells 0
theorem Rw.c1 (D : Rw w r p v s) : w.cell? ⟨r, 1, none⟩ = some v := cell_block D.cells 1
theorem Rw.c2 (D : Rw w r p v s) : w.cell? ⟨r, 2, none⟩ = some (.int .i64 s.2.1) := cell_block D.cells 2
theorem Rw.c3 (D : Rw w r p v s) : w.cell? ⟨r, 3, none⟩ = some (.int .i64 s.2.2) := cell_block D.cells 3
theorem Rw.free (D : Rw w r p v s) (k : Nat) : w.frozen? ⟨r, k, none⟩ = false := free_block D.cells k
theorem Rw.shape (D : Rw w r p v s) : w.shape? r = some (49, 4) := by simp [World.shape?, D.cells]
theorem Rd.c2 (D : Rd w r v s) : w.cell? ⟨r, 2, none⟩ = some (.int .i64 s.2.1) := by obtain ⟨p, D⟩ := D; exact D.c2
theorem Rd.c3 (D : Rd w r v s) : w.cell? ⟨r, 3, none⟩ = some (.int .i64 s.2.2) := by obtain ⟨p, D⟩ := D; exact D.c3
theorem rowF_form {n : Nat} {xs : List Value} {e : TypeId} (h : w.ownsRowF 0 e 1 v n xs) : ∃ ao cap, v = .slice ao n cap := by
  rcases h.2 with ⟨rfl, rfl⟩ | ⟨g, cap, cur, fz, rfl, _⟩
  · exact ⟨none, 0, rfl⟩
  · exact ⟨_, _, rfl⟩
theorem Rw.pv (D : Rw w r p v s) : v.ownBlock ≠ some r := fun e => by
  rcases D.row.2 with ⟨rfl, _⟩ | ⟨g, cap, cur, fz, rfl, _, hg, _⟩
  · cases e
  · injection e with e; subst e
    rw [D.cells] at hg; injection hg with hg; injection hg with _ h2 _; cases h2
theorem setCell_other (w : World) (r k : Nat) (u : Value) {j : Nat} (hj : j ≠ r) : (w.setCell ⟨r, k, none⟩ u).heap[j]? = w.heap[j]? := Below.heap_setCell _ _ _ _ hj
/-- A cell of the reader is written. -/
theorem Rw.write (D : Rw w r p v s) (k : Nat) (u p' v' : Value) (s' : Tlv.S) (hc : (rd p v s.2.1 s.2.2).setIfInBounds k u = rd p' v' s'.2.1 s'.2.2) (hrow : w.ownsRowF 0 5 1 v' s'.1.length (Lib.byteCells s'.1)) (hv : v'.ownBlock ≠ some r) (ha : p' = .pointer none ∨ p' = ptr r) :
    Rw (w.setCell ⟨r, k, none⟩ u) r p' v' s' where
  cells := by rw [← hc]; exact block_setCell D.cells u
  row := rowF_kept hrow fun j hj => setCell_other w r k u (fun e => hv (by rw [hj, e]))
  addr := ha
theorem turn_setCell (w : World) (r k : Nat) (u v : Value) (v' : Value) (hown : ∀ j, owned r v' j → owned r v j ∨ w.heap.size ≤ j) : Turn r w (w.setCell ⟨r, k, none⟩ u) v v' :=
  ⟨rfl, rfl, rfl, by simp [World.setCell], fun j _ ho => setCell_other w r k u (fun e => ho (.inl e)), hown⟩
end
theorem size47 : (Try.prog.info? 47).map (·.size) = some 2 := by kernel_rfl
theorem lies47 : liesAt Try.prog Try.prog.depth 49 (4 / Try.prog.cellsOf 49) 0 47 1 = true := by kernel_rfl

set_option maxHeartbeats 1000000 in
set_option maxRecDepth 100000 in
theorem copyCheck_any (r : Nat) (p v : Value) (s : Tlv.S) (w : World) (D : Rw w r p v s) :
    Calls Try.prog 25 #[ptr r] w fun e w' => e = .returned (.tuple #[]) ∧ Rw w' r (ptr r) v s ∧ Turn r w w' v v := by
  obtain ⟨j, hj, hjs⟩ := Option.map_eq_some_iff.1 size47
  have h0 := D.c0
  have hf := D.free 0
  have hsh := D.shape
  have HD := Lib.hid D
  rcases D.addr with rfl | rfl
  · clear D
    go_enter Try.func25, Try.ntmps25
    go_wp2
    rw [Lib.run_to_unsafe w ⟨r, 0, none⟩ Try.underlying45 Try.underlying69 hj (by rw [hjs]; decide) hsh (show 0 < 4 by omega)]
    simp only [Result.andThen]
    rw [Oper.upon_value]
    go_wp2
    rw [run_callFunc_extern Try.func32 (by kernel_rfl) (by kernel_rfl) (by kernel_rfl) (e := Extern.AbiNoEscape.same) (by kernel_rfl)]
    rw [Lib.run_noEscape]
    simp only [Result.andThen]
    rw [Oper.upon_value]
    go_wp2
    rw [Lib.run_from_unsafe w ⟨r, 0, none⟩ Try.underlying69 Try.underlying45 hj hsh lies47]
    simp only [Result.andThen]
    rw [Oper.upon_value]
    go_wp2
    go_end0
    exact ⟨rfl, HD.out.write 0 _ _ _ s rfl HD.out.row HD.out.pv (.inr rfl), turn_setCell _ _ _ _ _ _ fun _ h => .inl h⟩
  · clear D hf
    go_enter Try.func25, Try.ntmps25
    go_wp2
    rw [Lib.run_neq_ptr_same w _ Try.underlying45 hj]
    go_wp2
    go_end0
    exact ⟨rfl, HD.out, Turn.refl _ _ _⟩
end Go.Proofs.Ytpolpgghdeljbaa
