/- A sector is written. -/
import Derived.Test.YtdgbfkedgedogaaWait
namespace Go.Proofs.Ytdgbfkedgedogaa
open Go.RowKit Go.Maps
def pad (d : ByteArray) : List UInt8 := d.data.toList ++ List.replicate (32 - d.size) 0
theorem pad_length (d : ByteArray) (h : d.size ≤ 32) : (pad d).length = 32 := by
  unfold pad
  rw [List.length_append, List.length_replicate, Array.length_toList]
  show d.size + _ = _
  omega
structure Raw.Good (s : Raw) (lim : Nat) : Prop where
  each : ∀ x ∈ s.cw, (ik x.1).wf = true ∧ x.2.length = 32
  new : ∀ a i, s.newest a = some i → i < s.cw.length
  note : s.nN ≤ s.cw.length
  count : (s.cw.length : Int) ≤ s.waiting
  room : (s.nL : Int) + s.waiting ≤ lim
  cut0 : 0 ≤ s.cut
  cut1 : s.cut ≤ 9223372036854775807
theorem Raw.Good.ok {s : Raw} {lim : Nat} (G : s.Good lim) (hl : lim < 1099511627776) : s.Ok := ⟨by have := G.count; have := G.room; omega, G.each⟩
theorem Raw.Good.waited {s : Raw} {lim : Nat} (G : s.Good lim) {x : Int × List UInt8} (hx : (ik x.1).wf = true ∧ x.2.length = 32) : (s.waited x).Good (lim + 1) := by
  unfold Raw.waited
  by_cases h : 64 ≤ s.newAt x.1
  · rw [if_pos h]
    refine ⟨fun y hy => ?_, fun a i h => by rw [List.length_set]; exact G.new a i h, by rw [List.length_set]; exact G.note, ?_, ?_, G.cut0, G.cut1⟩
    · rcases List.mem_or_eq_of_mem_set hy with hy | rfl
      · exact G.each y hy
      · exact hx
    · have := G.count; show ((s.cw.set _ x).length : Int) ≤ s.waiting + 1; rw [List.length_set]; omega
    · have := G.room; show (s.nL : Int) + (s.waiting + 1) ≤ ((lim + 1 : Nat) : Int); omega
  · rw [if_neg h]
    refine ⟨fun y hy => ?_, fun a i h => ?_, ?_, ?_, ?_, G.cut0, G.cut1⟩
    · rcases List.mem_append.1 hy with hy | hy
      · exact G.each y hy
      · rw [List.mem_singleton.1 hy]; exact hx
    · show i < (s.cw ++ [x]).length
      rw [List.length_append]
      unfold upd at h
      by_cases ha : a = x.1
      · simp only [ha, if_true] at h; injection h with h; rw [← h]; simp
      · simp only [ha, if_false] at h; have := G.new a i h; omega
    · have := G.note; show s.nN + 1 ≤ (s.cw ++ [x]).length; rw [List.length_append]; simpa using this
    · have := G.count; show ((s.cw ++ [x]).length : Int) ≤ s.waiting + 1; rw [List.length_append, List.length_singleton]; omega
    · have := G.room; show (s.nL : Int) + (s.waiting + 1) ≤ ((lim + 1 : Nat) : Int); omega
theorem Raw.Good.settled {s : Raw} {lim : Nat} (G : s.Good lim) (K : Nat → Bool) : (s.settled K).Good lim := by
  refine ⟨fun y hy => (by simp [Raw.settled] at hy), fun a i h => (by simp [Raw.settled] at h), Nat.le_refl _, (by show ((0 : Nat) : Int) ≤ 0; omega), ?_, G.cut0, G.cut1⟩
  have := G.room; have := G.count
  show ((s.nL + s.cw.length : Nat) : Int) + 0 ≤ (lim : Int); omega
theorem Raw.Good.set {s : Raw} {lim : Nat} (G : s.Good lim) {c : Int} (h0 : 0 ≤ c) (h1 : c ≤ 9223372036854775807) (k : BitVec 64) (d : Bool) : Raw.Good { s with cut := c, keep := k, down := d } lim :=
  ⟨G.each, G.new, G.note, G.count, G.room, h0, h1⟩
theorem Raw.Good.crashed {s : Raw} {lim : Nat} (G : s.Good lim) (k : BitVec 64) : (s.crashed k).Good lim := by
  unfold Raw.crashed
  by_cases h : s.down = true
  · rw [if_pos h]; exact G
  · rw [if_neg h]; exact (G.settled (bits k)).set (Int.le_refl _) (by decide) _ _
theorem Raw.Good.failing {s : Raw} {lim : Nat} (G : s.Good lim) : s.failing.Good lim := by
  unfold Raw.failing
  by_cases h0 : s.cut = 0
  · rw [if_pos h0]; exact G
  · rw [if_neg h0]
    by_cases h1 : s.cut = 1
    · rw [if_pos h1]; exact Raw.Good.crashed (G.set (c := 0) (by decide) (by decide) s.keep s.down) _
    · rw [if_neg h1]; have := G.cut0; have := G.cut1; exact G.set (by omega) (by omega) s.keep s.down
def Raw.writeE (s : Raw) (a : Int) (d : ByteArray) : Int := if s.refusal a ≠ 0 then s.refusal a else if 32 < d.size then 3 else if (s.waited (a, pad d)).failed then 7 else 0
def Raw.written (s : Raw) (a : Int) (d : ByteArray) : Raw := if s.refusal a ≠ 0 ∨ 32 < d.size then s else (s.waited (a, pad d)).failing

def z32 : List UInt8 := List.replicate 32 0
theorem run_build72 (A : Int) (w : World) : (Instr.build 72 #[(0, .int .i64 A)]).run Try.prog w = .ok (.agg (wcells (A, z32)).toArray) w := by kernel_rfl
theorem wpList_build72 {ops : Array Oper} {rest : List Oper} {op : Oper} {a : Act} {w : World} {Q : Exit → Act → World → Prop} (hgd : op.guard = none) (x : Operand) (ho : op.op = .build 72 #[(0, x)])
    (A : Int) (hx : a.eval x = .int .i64 A) (h : wpList Try.prog ops Q rest (a.put op.dst (.agg (wcells (A, z32)).toArray)) w) : wpList Try.prog ops Q (op :: rest) a w :=
  wpList_plain hgd fun _ hK => by
    unfold Oper.wp execOp
    have e : #[(0, x)].map (fun (y : Nat × Operand) => (y.1, a.eval y.2)) = #[(0, .int .i64 A)] := by simp [hx]
    simp only [ho]
    simp only [e, Sem.run_bind, run_build72, Result.andThen_ok, Sem.run_pure]
    exact hK _ _ h
theorem copy_pad (w : World) (A : Int) (d : ByteArray) (h : d.size ≤ 32) (ty : TypeId) :
    (Builtin.copy_ #[73, 9] ty #[.slice (some ⟨w.heap.size, 1, none⟩) 32 32, .string d]).run Try.prog (w.alloc (.cells (wcells (A, z32)).toArray 72)) = .ok (goInt d.size) (w.alloc (.cells (wcells (A, pad d)).toArray 72)) := by
  have hp := heap_alloc_new w (.cells (wcells (A, z32)).toArray 72)
  have hl : d.data.toList.length = d.size := Array.length_toList
  have h33 : (wcells (A, z32)).length = 33 := rfl
  have hst := run_storeCells_at Try.prog w.heap.size 1 72 (sec d.data.toList) 0 _ (w.alloc (.cells (wcells (A, z32)).toArray 72)) hp (by rw [sec_length, hl, List.size_toArray, h33]; omega) (fun v hv => wcells_one (A, d.data.toList) v (List.mem_cons_of_mem _ hv))
  rw [World.setRow_alloc_new] at hst
  have e : (List.take (1 + 0) (wcells (A, z32)).toArray.toList ++ sec d.data.toList ++ List.drop (1 + 0 + (sec d.data.toList).length) (wcells (A, z32)).toArray.toList).toArray = (wcells (A, pad d)).toArray := by
    rw [List.toList_toArray, sec_length, hl, Nat.add_zero]
    unfold wcells pad
    congr 1
    show [Value.int .i64 A] ++ sec d.data.toList ++ List.drop (1 + d.size) (.int .i64 A :: sec z32) = _
    rw [Nat.add_comm, List.drop_succ_cons, List.singleton_append, List.cons_append]
    congr 1
    unfold sec z32
    rw [List.map_append, List.map_replicate, List.map_replicate, List.drop_replicate]
  rw [e] at hst
  have hz : (sizeOf 5).run Try.prog (w.alloc (.cells (wcells (A, z32)).toArray 72)) = .ok 1 (w.alloc (.cells (wcells (A, z32)).toArray 72)) := by kernel_rfl
  have hmin : Nat.min d.size 32 = d.size := Nat.min_eq_left h
  have ht : (d.data.toList.map fun b => (Value.int .u8 (b.toNat : Int))).take d.size = sec d.data.toList := by
    rw [← hl, ← List.map_take, List.take_length]; rfl
  simp [Builtin.copy_, run_underlying Try.underlying73, Builtin.lenOf, Builtin.firstCells, hz, hmin, ht, hst]
set_option maxRecDepth 100000 in
set_option maxHeartbeats 1000000 in
theorem write_any {w : World} {p : Nat} {h : Hd} {s : Raw} {lim : Nat} (D : Disk w p h s) (G : s.Good lim) (hl : lim < 1099511627775) (a : Int) (ha : (ik a).wf = true) (d : ByteArray) (hd : d.size ≤ maxLen) :
    Calls Try.prog 12 #[ptr p, .int .i64 a, .string d] w fun e w' => e = .returned (.int .i64 (s.writeE a d)) ∧ ∃ h', Disk w' p h' (s.written a d) ∧ Turn p w w' h h' := by
  have HE := Lib.hid (show s.writeE a d = if s.refusal a ≠ 0 then s.refusal a else if 32 < d.size then 3 else if (s.waited (a, pad d)).failed then 7 else 0 from rfl)
  have HW := Lib.hid (show s.written a d = if s.refusal a ≠ 0 ∨ 32 < d.size then s else (s.waited (a, pad d)).failing from rfl)
  go_enter Try.func12, Try.ntmps12
  go_wp2_with fail
  refine (refusal_any D a).mono ?_
  rintro e w' ⟨rfl, rfl⟩
  by_cases h0 : s.refusal a = 0
  · rw [h0]
    by_cases h32 : d.size ≤ 32
    · have h32' : (d.size : Int) ≤ 32 := by omega
      have hst := store_fresh w (wcells (a, z32)) rfl (all_oneCell_toArray (wcells_one _))
      have hcp := copy_pad w a d h32
      have hlp := pad_length d h32
      have hC := wcells_length (x := (a, pad d)) hlp
      have hra : (w.alloc (.cells (wcells (a, pad d)).toArray 72)).rangeAt w.heap.size 0 (wcells (a, pad d)) := fun j u hj => by
        rw [cell_block (heap_alloc_new w _)]; simpa using hj
      have D1 := D.alloc (.cells (wcells (a, pad d)).toArray 72)
      have T1 := (Turn.refl p w h).alloc (.cells (wcells (a, pad d)).toArray 72)
      have G2 := G.waited (x := (a, pad d)) ⟨ha, hlp⟩
      have hw0 : 0 ≤ s.waiting := by have := G.count; omega
      have hw1 : s.waiting < 1099511627776 := by have := G.room; omega
      have hw3 : s.cw.length < 1099511627776 := by have := G.count; omega
      have hw2 : s.nN < 1099511627776 := by have := G.note; omega
      go_wp2_with (first
        | (refine wpList_build72 rfl (.tmp 18) (by rfl) a (by rfl) ?_)
        | (refine wpList_load_mid rfl 72 (.tmp 8) (by rfl) w.heap.size 0 (by rfl) (wcells (a, pad d)) _ hra Try.underlying72 (by rfl) (by rw [hC]; exact size72) ?_)
        | fail)
      refine (wait_any D1 (G.ok (by omega)) (a, pad d) ⟨ha, hlp⟩ hw0 hw1 hw2 hw3 G.new).mono ?_
      rintro e w2 ⟨rfl, h2, D2, T2⟩
      go_wp2_with fail
      refine (fails_any D2 (G2.ok (by omega)) G2.cut0 G2.cut1).mono ?_
      rintro e w3 ⟨rfl, h3, D3, T3⟩
      have hDD : Disk w3 p h3 (s.written a d) := by rw [HW.out, if_neg (by rw [h0]; simp; omega)]; exact D3
      have hTT := (T1.trans T2).trans T3
      have HE2 : Hid (∀ b, (s.waited (a, pad d)).failed = b → s.writeE a d = if b = true then 7 else 0) := fun b e => by rw [HE.out, if_neg (by simp [h0]), if_neg (by omega), e]
      clear hst hcp hra G2 D2
      cases hf : (s.waited (a, pad d)).failed
      · have HF := Lib.hid hf
        clear hf
        go_wp2
        go_ret
        rw [HE2.out _ HF.out]
        exact ⟨rfl, h3, hDD, hTT⟩
      · have HF := Lib.hid hf
        clear hf
        go_wp2
        go_ret
        rw [HE2.out _ HF.out]
        exact ⟨rfl, h3, hDD, hTT⟩
    · have h32' : (32 : Int) < (d.size : Int) := by omega
      go_wp2
      go_ret
      rw [HE.out, HW.out, if_neg (by simp [h0]), if_pos (by omega), if_pos (.inr (by omega))]
      exact ⟨rfl, h, D, Turn.refl _ _ _⟩
  · have h0' := h0
    generalize hr : s.refusal a = r at *
    go_wp2
    go_ret
    rw [HE.out, HW.out, if_pos h0, if_pos (.inl h0)]
    exact ⟨rfl, h, D, Turn.refl _ _ _⟩
end Go.Proofs.Ytdgbfkedgedogaa
