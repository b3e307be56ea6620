/- The document's Same. -/
import Derived.Test.YteieehjggiiljaaMem
namespace Go.Proofs.Yteieehjggiiljaa
set_option maxRecDepth 100000
open Go.RowKit Go.Less
attribute [local go_sem 9000] sem_eql sem_neq sem_lss sem_leq sem_gtr sem_geq
/-- Are two entries the same? Closed to the walk's simp. -/
def sameE (x y : En) : Bool := decide (x = y)
theorem sameE_eq (a b : ByteArray) (p q : Int) : sameE (a, p) (b, q) = (alike a b && (p == q)) := by
  unfold sameE alike
  rw [Bool.eq_iff_iff]
  simp [Prod.ext_iff]
theorem fields46 : (Try.prog.fieldsOf 46).toList.map (fun f => (f.type, f.offset, decide (f.name ≠ "_"))) = [(9, 0, true), (3, 1, true)] := by kernel_rfl
theorem part_n (W : World) (a : ByteArray) (p : Int) : (part 9 #[.string a, .int .i64 p] 0).run Try.prog W = .ok (.string a) W := by
  simp [part, Try.isAgg9, Try.sizeOf9]
theorem part_i (W : World) (a : ByteArray) (p : Int) : (part 3 #[.string a, .int .i64 p] 1).run Try.prog W = .ok (.int .i64 p) W := by
  simp [part, Try.isAgg3, Try.sizeOf3]
theorem fld {P : Program} (d : Nat) (xs ys : Array Value) (f : Field) (fs : List Field) (hn : f.name ≠ "_") {a b : Value} {r : Bool} (W : World) (ha : (part f.type xs f.offset).run P W = .ok a W) (hb : (part f.type ys f.offset).run P W = .ok b W)
    (hr : (Op.equalIn d f.type a b).run P W = .ok r W) : (Op.eqFields d xs ys (f :: fs)).run P W = if r then (Op.eqFields d xs ys fs).run P W else .ok false W := by
  conv => lhs; rw [Op.eqFields]
  rw [if_pos hn]
  simp only [Sem.run_bind, ha, hb, hr, Result.andThen_ok]
  cases r <;> simp
theorem eq_fields (W : World) (fs : List Field) (h : fs.map (fun f => (f.type, f.offset, decide (f.name ≠ "_"))) = [(9, 0, true), (3, 1, true)]) (a b : ByteArray) (p q : Int) :
    (Op.eqFields 9999 #[.string a, .int .i64 p] #[.string b, .int .i64 q] fs).run Try.prog W = .ok (sameE (a, p) (b, q)) W := by
  obtain ⟨f0, fs, rfl, h0, h⟩ := List.map_eq_cons_iff.1 h
  obtain ⟨f1, fs, rfl, h1, h⟩ := List.map_eq_cons_iff.1 h
  obtain rfl := List.map_eq_nil_iff.1 h
  simp only [Prod.mk.injEq, decide_eq_true_eq] at h0 h1
  obtain ⟨t0, o0, n0⟩ := h0
  obtain ⟨t1, o1, n1⟩ := h1
  rw [fld _ _ _ _ _ n0 W (by rw [t0, o0]; exact part_n W a p) (by rw [t0, o0]; exact part_n W b q) (by rw [t0]; exact run_equalIn_string W 9998 9 _ _ Try.underlying9), alike_is]
  rw [fld _ _ _ _ _ n1 W (by rw [t1, o1]; exact part_i W a p) (by rw [t1, o1]; exact part_i W b q) (by rw [t1]; exact run_equalIn_int W 9998 3 .i64 .i64 _ _ Try.underlying3)]
  rw [sameE_eq]
  cases alike a b <;> cases (p == q) <;> simp [Op.eqFields]
theorem eq46 (W : World) (a b : ByteArray) (p q : Int) : (Op.equalIn 10000 46 (.agg #[.string a, .int .i64 p]) (.agg #[.string b, .int .i64 q])).run Try.prog W = .ok (sameE (a, p) (b, q)) W := by
  rw [show (10000 : Nat) = 9999 + 1 from rfl, run_equalIn_struct W 9999 46 _ _ (by kernel_rfl) (by kernel_rfl)]
  exact eq_fields W _ fields46 a b p q
theorem neq_ent (W : World) (a b : ByteArray) (p q : Int) : (binOp .neq 46 (.agg #[.string a, .int .i64 p]) (.agg #[.string b, .int .i64 q])).run Try.prog W = .ok (.bool (!sameE (a, p) (b, q))) W := by
  rw [run_neq_struct, eq46 W a b p q]; rfl
/-- Are two nodes the same? -/
def sameN (k m : Int) (d t : ByteArray) (l : List En) (k' m' : Int) (d' t' : ByteArray) (l' : List En) : Bool := (k == k') && (m == m') && alike d d' && alike t t' && decide (l = l')
def Samed (b : Bool) (w : World) (e : Ending) (w' : World) : Prop := e = .returned (.bool b) ∧ Below w.heap.size w w'
theorem bdn {B : Nat} {w w1 : World} (h : Below B w w1) (n : Nat) : Below B w (w1.drewN n) := by
  induction n with
  | zero => exact h
  | succ n ih => exact ih.drew
theorem take_ext {l l' : List En} (hl : l.length = l'.length) {i : Nat} (h : l.take i = l'.take i) (hi : i < l.length) (hx : l.getD i z0 = l'.getD i z0) : l.take (i + 1) = l'.take (i + 1) := by
  rw [take_snoc hi z0, take_snoc (by omega) z0, h, hx]
attribute [local go_sem 9000] neq_ent
set_option maxHeartbeats 4000000 in
theorem refSame_any (k m : Int) (d t : ByteArray) (a : Option Addr) (n cap : Nat) (l : List En) (k' m' : Int) (d' t' : ByteArray) (a' : Option Addr) (n' cap' : Nat) (l' : List En) (w : World) (hE : Ents a n l w) (hE' : Ents a' n' l' w) (hn : n ≤ 1000000) (hn' : n' ≤ 1000000) :
    Calls Try.prog 22 #[nv k m d t a n cap, nv k' m' d' t' a' n' cap'] w (Samed (sameN k m d t l k' m' d' t' l') w) := by
  have HNL := Lib.hid hE.count
  have HNL' := Lib.hid hE'.count
  have hni : (n : Int) ≤ 1000000 := by omega
  have HE := Lib.hid (fun W (hb : Below w.heap.size w W) => hE.below hb)
  have HE' := Lib.hid (fun W (hb : Below w.heap.size w W) => hE'.below hb)
  have HB0 := Lib.hid (show ∀ x y : Obj, Below w.heap.size w ((w.alloc x).alloc y) from fun x y => ((Below.refl _ w).alloc (Nat.le_refl _) _).alloc (by simp) _)
  have HF := Lib.hid (show ∀ b, sameN k m d t l k' m' d' t' l' = b → Samed (sameN k m d t l k' m' d' t' l') w (.returned (.bool b)) ((w.alloc (.cells #[.int .i64 k, .int .i64 m, .string d, .string t, .slice a n cap] 24)).alloc (.cells #[.int .i64 k', .int .i64 m', .string d', .string t', .slice a' n' cap'] 24)) from fun b hb => by rw [hb]; exact ⟨rfl, HB0.out _ _⟩)
  clear hE hE'
  by_cases e1 : ¬ k = k'
  · have b1 : (k == k') = false := by rw [beq_eq_false_iff_ne]; exact e1
    have HR := Lib.hid (HF.out false (by unfold sameN; rw [b1]; rfl))
    go_enter Try.func22, Try.ntmps22
    go_wp2_with fail
    go_ret
    exact HR.out
  obtain rfl := Decidable.not_not.1 e1
  clear e1
  by_cases e2 : ¬ m = m'
  · have b1 : (m == m') = false := by rw [beq_eq_false_iff_ne]; exact e2
    have HR := Lib.hid (HF.out false (by unfold sameN; rw [b1]; simp))
    go_enter Try.func22, Try.ntmps22
    go_wp2_with fail
    go_ret
    exact HR.out
  obtain rfl := Decidable.not_not.1 e2
  clear e2
  cases e3 : alike d d'
  · have HR := Lib.hid (HF.out false (by unfold sameN; rw [e3]; simp))
    go_enter Try.func22, Try.ntmps22
    go_wp2_with fail
    go_ret
    exact HR.out
  cases e4 : alike t t'
  · have HR := Lib.hid (HF.out false (by unfold sameN; rw [e4]; simp))
    go_enter Try.func22, Try.ntmps22
    go_wp2_with fail
    go_ret
    exact HR.out
  by_cases e5 : ¬ n = n'
  · have b1 : ((n : Int) == (n' : Int)) = false := by rw [beq_eq_false_iff_ne]; omega
    have HR := Lib.hid (HF.out false (by unfold sameN; rw [decide_eq_false (fun e => e5 (by rw [HNL.out, HNL'.out, e]))]; simp))
    go_enter Try.func22, Try.ntmps22
    go_wp2_with fail
    go_ret
    exact HR.out
  obtain rfl := Decidable.not_not.1 e5
  clear e5
  have HL := Lib.hid (show sameN k m d t l k m d' t' l' = decide (l = l') by unfold sameN; rw [e3, e4]; simp)
  clear HF
  go_enter Try.func22, Try.ntmps22
  go_wp2_with fail
  go_loopw [5] (fun i wr => (∃ j : Nat, j ≤ n ∧ i = .int .i64 j ∧ l.take j = l'.take j) ∧ wr.cell? ⟨w.heap.size, 4, none⟩ = some (.slice a n cap) ∧ wr.cell? ⟨w.heap.size + 1, 4, none⟩ = some (.slice a' n cap') ∧ Below w.heap.size w wr) (fun i _ => n - (intOf i).toNat)
  case atStart => exact ⟨⟨0, Nat.zero_le _, rfl, rfl⟩, by simp, by simp, HB0.out _ _⟩
  case round =>
    obtain ⟨⟨j, hj, rfl, hf⟩, hc, hc', hb⟩ := hrel
    by_cases hlt : j < n
    · have j0 : (j : Int) < (n : Int) := by omega
      have hj0 : (0 : Int) ≤ (j : Int) := by omega
      obtain ⟨b, off, rfl, c0, c1⟩ := (HE.out _ hb).cell j hlt
      obtain ⟨b', off', rfl, c0', c1'⟩ := (HE'.out _ hb).cell j hlt
      have HT := Lib.hid (fun h => take_ext (l := l) (l' := l') (by rw [← HNL.out, ← HNL'.out]) hf (by rw [← HNL.out]; exact hlt) h)
      obtain ⟨x, hxe⟩ : ∃ x, x = l.getD j z0 := ⟨_, rfl⟩
      obtain ⟨x', hxe'⟩ : ∃ x, x = l'.getD j z0 := ⟨_, rfl⟩
      have HN := Lib.hid (show x ≠ x' → l ≠ l' from fun h e => h (by rw [hxe, hxe', e]))
      rw [← hxe] at c0 c1 HT
      rw [← hxe'] at c0' c1' HT
      clear hxe hxe' hf
      obtain ⟨x1, x2⟩ := x
      obtain ⟨y1, y2⟩ := x'
      have HB := Lib.hid hb
      clear hb
      cases hx : sameE (x1, x2) (y1, y2)
      · have HR := Lib.hid (HN.out (of_decide_eq_false hx))
        clear HN HT
        go_wp2_with fail
        go_quiet (fail)
        go_wp2_with fail
        go_ret
        show Samed _ w _ _
        rw [HL.out, decide_eq_false HR.out]
        exact ⟨rfl, bdn HB.out _⟩
      · have HR := Lib.hid (HT.out (of_decide_eq_true hx))
        clear HN HT
        go_wp2_with fail
        go_quiet (fail)
        go_wp2_with fail
        exact ⟨⟨⟨j + 1, by omega, by go_num, HR.out⟩, by simpa using hc, by simpa using hc', bdn HB.out _⟩, by simp [intOf]; omega⟩
    · obtain rfl : j = n := by omega
      have HR := Lib.hid (show l = l' by rw [HNL.out, List.take_length, ← HNL.out, HNL'.out, List.take_length] at hf; exact hf)
      have HB := Lib.hid hb
      clear hf hb
      go_wp2_with fail
      go_ret
      show Samed _ w _ _
      rw [HL.out, decide_eq_true HR.out]
      exact ⟨rfl, HB.out⟩
end Go.Proofs.Yteieehjggiiljaa
