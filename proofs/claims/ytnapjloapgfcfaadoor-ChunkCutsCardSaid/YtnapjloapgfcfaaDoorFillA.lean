/- chunk.Fill. -/
import Derived.Test.YtnapjloapgfcfaaDoorPut
import Derived.Test.YtnapjloapgfcfaaDoorRefFill
import Derived.Deep.Quiet
namespace Go.Proofs.YtnapjloapgfcfaaDoor
set_option maxRecDepth 100000
open Go.RowKit Go.Shelf Sha
attribute [local go_sem] Oper.semAt_some

/-- A function of the caller's that looks a name up, in whatever world that keeps what lay. -/
def Looks (gk : Nat) (lb : Array Value) (G : ByteArray → Option ByteArray) (w : World) : Prop := ∀ (x : ByteArray) (W1 : World), x.size ≤ 140737488355328 → Below w.heap.size w W1 →
  Calls Tryd.prog gk (#[.string x] ++ lb) W1 fun e W2 => e = .returned (.tuple #[.string ((G x).getD ⟨#[]⟩), .bool (G x).isSome]) ∧ W1 = W2
/-- What Fill says, by the chunks that are picked. -/
structure FillSpec (ln : Nat) (n : Int) (pk : Nat → Option (List UInt8)) (R : List UInt8 × Int) : Prop where
  range : n < 0 ∨ 4096 < n ∨ (ln : Int) ≠ (n + 15) / 16 → R = ([], 1)
  none : ∀ (m : Nat), n = (m : Int) → ¬ (n < 0 ∨ 4096 < n ∨ (ln : Int) ≠ (n + 15) / 16) → ∀ k, k < ln → pk k = none → R = ([], 4)
  form : ∀ (m : Nat), n = (m : Int) → ¬ (n < 0 ∨ 4096 < n ∨ (ln : Int) ≠ (n + 15) / 16) → (∀ i, i < ln → (pk i).isSome = true) → ∀ k, k < ln → ((pk k).getD []).length ≠ place m k → R = ([], 2)
  whole : ∀ (m : Nat), n = (m : Int) → ¬ (n < 0 ∨ 4096 < n ∨ (ln : Int) ≠ (n + 15) / 16) → (∀ i, i < ln → (pk i).isSome = true) → (∀ i, i < ln → ((pk i).getD []).length = place m i) → R = (((List.range ln).map fun i => (pk i).getD []).flatten, 0)
theorem flat_length {m : Nat} {ls : Nat → List UInt8} (h : ∀ k, k < (m + 15) / 16 → (ls k).length = place m k) : ∀ n, n ≤ (m + 15) / 16 → ((List.range n).map ls).flatten.length = min (16 * n) m
  | 0, _ => by simp
  | n + 1, hn => by
    have ih := flat_length h n (by omega)
    have h1 := h n (by omega)
    unfold place at h1
    rw [List.range_succ, List.map_append, List.flatten_append, List.length_append, ih]
    simp only [List.map_cons, List.map_nil, List.flatten_cons, List.flatten_nil, List.append_nil]
    omega
theorem flat_b {m : Nat} {ls : Nat → List UInt8} (h : ∀ k, k < (m + 15) / 16 → (ls k).length = place m k) : ∀ n, n ≤ (m + 15) / 16 → ∀ i, i < min (16 * n) m → Chk.b ((List.range n).map ls).flatten i = Chk.b (ls (i / 16)) (i % 16)
  | 0, _, i, hi => by omega
  | n + 1, hn, i, hi => by
    have hl := flat_length h n (by omega)
    rw [List.range_succ, List.map_append, List.flatten_append]
    simp only [List.map_cons, List.map_nil, List.flatten_cons, List.flatten_nil, List.append_nil]
    by_cases h1 : i < min (16 * n) m
    · rw [Chk.b_append_left (by rw [hl]; exact h1)]
      exact flat_b h n (by omega) i h1
    · rw [Chk.b_append_right (by rw [hl]; omega), hl, show i / 16 = n from by omega, show i - min (16 * n) m = i % 16 from by omega]
/-- All right so far? -/
def rt {m : Nat} (pk : Nat → Option (List UInt8)) (pre : List (Pl m)) : Bool := pre.all fun x => ((pk x.1).getD []).length == place m x.1
theorem rt_snoc {m : Nat} (pk : Nat → Option (List UInt8)) (pre : List (Pl m)) (x : Pl m) : rt pk (pre ++ [x]) = (rt pk pre && (((pk x.1).getD []).length == place m x.1)) := by unfold rt; rw [List.all_append]; simp
def flagOf {m : Nat} (pk : Nat → Option (List UInt8)) (pre : List (Pl m)) : Int := if rt pk pre then 0 else 2
/-- The bytes so far. -/
def Bytes {m : Nat} (pk : Nat → Option (List UInt8)) (pre : List (Pl m)) (l : List UInt8) : Prop :=
  l.length = m ∧ (rt pk pre = true → ∀ i, i < m → Chk.b l i = if i / 16 ∈ pre.map (·.1) then Chk.b ((pk (i / 16)).getD []) (i % 16) else 0)
theorem bytes_nil (m : Nat) (pk : Nat → Option (List UInt8)) : Bytes (m := m) pk [] (List.replicate m 0) := by
  refine ⟨List.length_replicate .., fun _ i hi => ?_⟩
  simp [Chk.b, List.getD, hi]
/-- A chunk of noughts: nothing is written. -/
theorem bytes_zero {m : Nat} {pk : Nat → Option (List UInt8)} {pre : List (Pl m)} {l : List UInt8} (h : Bytes pk pre l) (x : Pl m) (hx : pk x.1 = some (List.replicate (place m x.1) 0)) : Bytes pk (pre ++ [x]) l := by
  refine ⟨h.1, fun hr i hi => ?_⟩
  rw [rt_snoc, Bool.and_eq_true] at hr
  rw [h.2 hr.1 i hi]
  by_cases h1 : i / 16 ∈ pre.map (·.1)
  · rw [if_pos h1, if_pos (by rw [List.map_append, List.mem_append]; exact .inl h1)]
  · rw [if_neg h1]
    by_cases h2 : i / 16 = x.1
    · rw [if_pos (by rw [List.map_append, List.mem_append]; exact .inr (by simp [h2])), h2, hx]
      simp [Chk.b, List.getD, List.getElem?_replicate]
      split <;> rfl
    · rw [if_neg (by rw [List.map_append, List.mem_append]; simp [h2] at h1 ⊢; exact h1)]
/-- Some bytes are written. -/
theorem bytes_more {m : Nat} {pk : Nat → Option (List UInt8)} {pre : List (Pl m)} {l c : List UInt8} (h : Bytes pk pre l) (x : Pl m) (hx : pk x.1 = some c) : Bytes pk (pre ++ [x]) (laid l (16 * x.1) (c.take (min c.length (place m x.1)))) := by
  have hx2 := x.2
  have hfit : 16 * x.1 + (c.take (min c.length (place m x.1))).length ≤ l.length := by rw [List.length_take, h.1]; unfold place; omega
  refine ⟨by rw [laid_length hfit, h.1], fun hr i hi => ?_⟩
  rw [rt_snoc, Bool.and_eq_true, hx] at hr
  have hl : c.length = place m x.1 := by simpa using hr.2
  rw [laid_b hfit]
  have ht : c.take (min c.length (place m x.1)) = c := List.take_of_length_le (by omega)
  rw [ht, hl]
  unfold place
  by_cases h2 : i / 16 = x.1
  · rw [if_pos (by omega), if_pos (by rw [List.map_append, List.mem_append]; exact .inr (by simp [h2])), h2, hx, show i - 16 * x.1 = i % 16 from by omega]
    rfl
  · rw [if_neg (by omega), h.2 hr.1 i hi]
    by_cases h1 : i / 16 ∈ pre.map (·.1)
    · rw [if_pos h1, if_pos (by rw [List.map_append, List.mem_append]; exact .inl h1)]
    · rw [if_neg h1, if_neg (by rw [List.map_append, List.mem_append]; simp [h2] at h1 ⊢; exact h1)]
/-- All of them. -/
theorem bytes_all {m : Nat} {pk : Nat → Option (List UInt8)} {pre : List (Pl m)} {l : List UInt8} (h : Bytes pk pre l) (hp : goesAll m pre) (hr : rt pk pre = true) (hall : ∀ i, i < (m + 15) / 16 → ((pk i).getD []).length = place m i) : l = ((List.range ((m + 15) / 16)).map fun i => (pk i).getD []).flatten := by
  have hf := flat_length (ls := fun i => (pk i).getD []) hall _ (Nat.le_refl _)
  refine Chk.ext (by rw [h.1, hf]; omega) fun i hi => ?_
  rw [h.1] at hi
  rw [h.2 hr i hi, if_pos (by rw [show pre.map (·.1) = _ from hp, List.mem_range]; omega), flat_b (ls := fun i => (pk i).getD []) hall _ (Nat.le_refl _) i (by omega)]
structure Fst (na : Option Addr) (ln cn gk m : Nat) (lb : Array Value) (pk : Nat → Option (List UInt8)) (w : World) (pre : List (Pl m)) (W : World) : Prop where
  names : Boxed W (w.heap.size) 35 (.slice na ln cn)
  get : Boxed W (w.heap.size + 1) 42 (.func (.func gk) #[] lb)
  r1 : Boxed W (w.heap.size + 1 + 1) 9 (.string ⟨#[]⟩)
  r2 : Boxed W (w.heap.size + 1 + 1 + 1) 23 (.int .i64 0)
  bytes : ∃ l, Bfile (w.heap.size + 1 + 1 + 1 + 1) l W ∧ Bytes pk pre l
  file : Boxed W (w.heap.size + 1 + 1 + 1 + 1 + 1) 48 (.slice (some ⟨w.heap.size + 1 + 1 + 1 + 1, 0, none⟩) m m)
  flag : Boxed W (w.heap.size + 1 + 1 + 1 + 1 + 1 + 1) 23 (.int .i64 (flagOf pk pre))
  num : Boxed W (w.heap.size + 1 + 1 + 1 + 1 + 1 + 1 + 1) 3 (.int .i64 (m : Int))
  known : ∀ x ∈ pre, (pk x.1).isSome = true
  below : Below w.heap.size w W
structure Fex (m : Nat) (pk : Nat → Option (List UInt8)) (w : World) (c : Code) (pre : List (Pl m)) (W : World) : Prop where
  code : c = .ret
  lacks : ∃ x ∈ pre, pk x.1 = none
  r1 : Boxed W (w.heap.size + 1 + 1) 9 (.string ⟨#[]⟩)
  r2 : Boxed W (w.heap.size + 1 + 1 + 1) 23 (.int .i64 4)
  below : Below w.heap.size w W
theorem fst_zero {na : Option Addr} {ln cn gk m : Nat} {lb : Array Value} {pk : Nat → Option (List UInt8)} {w : World} {pre : List (Pl m)} {W : World} (h : Fst na ln cn gk m lb pk w pre W) (x : Pl m) (hx : pk x.1 = some (List.replicate (place m x.1) 0)) : Fst na ln cn gk m lb pk w (pre ++ [x]) W := by
  obtain ⟨h1, h2, h3, h4, ⟨l, h5, h5b⟩, h6, h7, h8, h9, hb⟩ := h
  refine ⟨h1, h2, h3, h4, ⟨l, h5, bytes_zero h5b x hx⟩, h6, ?_, h8, fun z hz => ?_, hb⟩
  · rw [show flagOf pk (pre ++ [x]) = flagOf pk pre from by unfold flagOf; rw [rt_snoc, hx]; simp]; exact h7
  · rcases List.mem_append.1 hz with hz | hz
    · exact h9 z hz
    · rw [List.mem_singleton.1 hz, hx]; rfl
theorem bfile_not {W : World} {g : Nat} {l : List UInt8} (h : Bfile g l W) {r : Option Nat} (hr : ∀ b, r = some b → ∃ o : Obj, W.heap[b]? = some o ∧ o.isCells = false) : some g ≠ r := by
  intro e
  obtain ⟨o, ho, hc⟩ := hr _ e.symm
  rw [show W.heap[g]? = _ from h] at ho; cases ho; cases hc
theorem Bfile.kept {W W' : World} {g : Nat} {l : List UInt8} {row : Option Nat} (h : Bfile g l W) (hg : W.grownBy W' row) (hne : some g ≠ row) : Bfile g l W' := (hg.block g h.lt hne).trans h
theorem grownBy_setRow (W : World) (g : Nat) (cs : Array Value) : W.grownBy (W.setRow g cs) (some g) := ⟨rfl, rfl, rfl, by simp [World.setRow], fun k _ hk => setRow_other W g k cs (fun e => hk (by rw [e]))⟩
theorem flag_right {m : Nat} {pk : Nat → Option (List UInt8)} {pre : List (Pl m)} (x : Pl m) {c : List UInt8} (hx : pk x.1 = some c) (hl : c.length = place m x.1) : flagOf pk (pre ++ [x]) = flagOf pk pre := by
  unfold flagOf; rw [rt_snoc, hx]; simp [hl]
theorem flag_wrong {m : Nat} {pk : Nat → Option (List UInt8)} {pre : List (Pl m)} (x : Pl m) {c : List UInt8} (hx : pk x.1 = some c) (hl : ¬ c.length = place m x.1) : flagOf pk (pre ++ [x]) = 2 := by
  unfold flagOf; rw [rt_snoc, hx]; simp [hl]
/-- A chunk is written. -/
theorem fst_step {na : Option Addr} {ln cn gk m : Nat} {lb : Array Value} {pk : Nat → Option (List UInt8)} {w : World} {pre : List (Pl m)} {W W1 : World} (h : Fst na ln cn gk m lb pk w pre W) (x : Pl m) {c : ByteArray} (hx : pk x.1 = some c.data.toList) (hg : W.grownBy W1 (some (w.heap.size + 1 + 1 + 1 + 1 + 1 + 1))) (hk : KeepsOthers W W1) (hflag : Boxed W1 (w.heap.size + 1 + 1 + 1 + 1 + 1 + 1) 23 (.int .i64 (flagOf pk (pre ++ [x])))) (B : Nat) :
    ∃ W2, (Builtin.copy_ #[48, 9] 3 #[.slice (some ⟨w.heap.size + 1 + 1 + 1 + 1, 16 * x.1, none⟩) (place m x.1) (m - 16 * x.1), .string c]).run Tryd.prog W1 = .ok (goInt (min c.size (place m x.1) : Nat)) W2 ∧ KeepsFrom B W W2 ∧ KeepC (w.heap.size + 1 + 1 + 1 + 1 + 1 + 1 + 1) W W2 ∧ Fst na ln cn gk m lb pk w (pre ++ [x]) W2 := by
  obtain ⟨h1, h2, h3, h4, ⟨l, h5, h5b⟩, h6, h7, h8, h9, hb⟩ := h
  have h1 := h1.kept hg (by simp <;> omega)
  have h2 := h2.kept hg (by simp <;> omega)
  have h3 := h3.kept hg (by simp <;> omega)
  have h4 := h4.kept hg (by simp <;> omega)
  have h5 := h5.kept hg (by simp <;> omega)
  have h6 := h6.kept hg (by simp)
  have h8' := h8.kept hg (by simp)
  have hcl : c.data.toList.length = c.size := Array.length_toList
  have hcp := run_copy8 W1 (w.heap.size + 1 + 1 + 1 + 1) (16 * x.1) (place m x.1) (m - 16 * x.1) (min c.size (place m x.1)) 3 l c h5 rfl (by have := x.2; rw [h5b.1]; unfold place; omega)
  have hf := bfile_laid (o := 16 * x.1) (c.data.toList.take (min c.size (place m x.1))) h5
  have hbm := bytes_more h5b x hx
  rw [hcl] at hbm
  have hg2 := grownBy_setRow W1 (w.heap.size + 1 + 1 + 1 + 1) ((laid l (16 * x.1) (c.data.toList.take (min c.size (place m x.1)))).map bv).toArray
  have hk2 : KeepsOthers W1 (W1.setRow (w.heap.size + 1 + 1 + 1 + 1) ((laid l (16 * x.1) (c.data.toList.take (min c.size (place m x.1)))).map bv).toArray) := KeepsOthers.of_grownBy hg2 fun j o ej hj => by
    cases ej
    rw [show W1.heap[w.heap.size + 1 + 1 + 1 + 1]? = _ from h5] at hj; cases hj; rfl
  generalize W1.setRow (w.heap.size + 1 + 1 + 1 + 1) ((laid l (16 * x.1) (c.data.toList.take (min c.size (place m x.1)))).map bv).toArray = W2 at hcp hf hg2 hk2
  have h82 := h8'.kept hg2 (by simp <;> omega)
  refine ⟨W2, hcp, (hk.trans hk2).from B, fun v e => by rw [h8.cell] at e; cases e; exact h82.cell, h1.kept hg2 (by simp <;> omega), h2.kept hg2 (by simp <;> omega), h3.kept hg2 (by simp <;> omega), h4.kept hg2 (by simp <;> omega), ⟨_, hf, hbm⟩, h6.kept hg2 (by simp), hflag.kept hg2 (by simp <;> omega), h82, fun z hz => ?_, (hb.grown hg hb.size (fun j e => by cases e; omega)).grown hg2 (Nat.le_trans hb.size hg.size) (fun j e => by cases e; omega)⟩
  rcases List.mem_append.1 hz with hz | hz
  · exact h9 z hz
  · rw [List.mem_singleton.1 hz, hx]; rfl
theorem fst_drew {na : Option Addr} {ln cn gk m : Nat} {lb : Array Value} {pk : Nat → Option (List UInt8)} {w : World} {pre : List (Pl m)} {W : World} (h : Fst na ln cn gk m lb pk w pre W) : Fst na ln cn gk m lb pk w pre W.drew := ⟨h.names, h.get, h.r1, h.r2, h.bytes, h.file, h.flag, h.num, h.known, h.below.drew⟩
theorem fst_own (na : Option Addr) (ln cn gk m : Nat) (lb : Array Value) (pk : Nat → Option (List UInt8)) (w : World) (B : Nat) (hB : w.heap.size ≤ B) : OwnFrom B (Fst na ln cn gk m lb pk w) := by
  rintro pre W W' r ⟨h1, h2, h3, h4, ⟨l, h5, h5b⟩, h6, h7, h8, h9, hb⟩ hg hrow
  have hr : ∀ b, r = some b → ∃ o : Obj, W.heap[b]? = some o ∧ o.isCells = false := fun b e => (hrow b e).2
  exact ⟨h1.kept hg (not_cells h1 hr), h2.kept hg (not_cells h2 hr), h3.kept hg (not_cells h3 hr), h4.kept hg (not_cells h4 hr), ⟨l, h5.kept hg (bfile_not h5 hr), h5b⟩, h6.kept hg (not_cells h6 hr), h7.kept hg (not_cells h7 hr), h8.kept hg (not_cells h8 hr), h9, hb.grown hg hb.size (fun j e => by have := (hrow j e).1; omega)⟩
theorem fex_own (m : Nat) (pk : Nat → Option (List UInt8)) (w : World) (B : Nat) (hB : w.heap.size ≤ B) (c : Code) : OwnFrom B (Fex m pk w c) := by
  rintro pre W W' r ⟨hc, hl, h3, h4, hb⟩ hg hrow
  have hr : ∀ b, r = some b → ∃ o : Obj, W.heap[b]? = some o ∧ o.isCells = false := fun b e => (hrow b e).2
  exact ⟨hc, hl, h3.kept hg (not_cells h3 hr), h4.kept hg (not_cells h4 hr), hb.grown hg hb.size (fun j e => by have := (hrow j e).1; omega)⟩
end Go.Proofs.YtnapjloapgfcfaaDoor
