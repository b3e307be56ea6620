/- tlv.take. -/
import Derived.Test.YtpolpgghdeljbaaTake
namespace Go.Proofs.Ytpolpgghdeljbaa
open Go.RowKit Crc

theorem store38 {ops : Array Oper} {rest : List Oper} {o : Oper} {a : Act} {w : World} {Q : Exit → Act → World → Prop} (hgd : o.guard = none) (x y : Operand) (ho : o.op = .store 38 x y)
    (g : Nat) (old cells : Array Value) (hx : a.eval x = .pointer (some ⟨g, 0, none⟩)) (hy : a.eval y = .agg cells) (hg : w.heap[g]? = some (.cells old 38 (0, 0))) (hs : cells.size = 3) (ho6 : old.size = 3) (h1 : cells.all (·.oneCell') = true)
    (h : ∀ w', w'.heap[g]? = some (.cells cells 38 (0, 0)) → (∀ k, k ≠ g → w'.heap[k]? = w.heap[k]?) → w'.heap.size = w.heap.size → (∀ B w0, B ≤ g → Below B w0 w → Below B w0 w') → wpList Try.prog ops Q rest (a.put o.dst undef) w') : wpList Try.prog ops Q (o :: rest) a w :=
  wpList_store_row hgd 38 x y ho g cells hx hy 38 old hg (by rw [hs]; exact size38) (by rw [hs, ho6]) h1
    (h _ (setRow_heap _ _ _ _ _ _ hg) (fun k hk => setRow_other _ _ _ _ hk) (setRow_size _ _ _) (fun B w0 hB hb => ⟨hb.os, hb.tape, hb.output, by rw [setRow_size]; exact hb.size, fun k hk => (setRow_other _ _ _ _ (by omega)).trans (hb.block k hk)⟩))
theorem one3 (a b c : Value) (ha : a.oneCell' = true) (hb : b.oneCell' = true) (hc : c.oneCell' = true) : (#[a, b, c] : Array Value).all (·.oneCell') = true := by
  simp [ha, hb, hc]
/-- A record's cells. -/
abbrev rc (x : Tlv.R) : Array Value := #[.int .i64 x.1, .int .i64 x.2.1, .string (lstr x.2.2)]
abbrev zc : Array Value := #[.int .i64 0, .int .i64 0, .string ⟨#[]⟩]

theorem opened_eq (l : List UInt8) (h : Tlv.len l + 11 ≤ l.length) : opened (l.take (Tlv.len l + 11)) = if Tlv.opens l then (l.take (Tlv.len l + 7), 0) else ([], 8) := by
  unfold opened Tlv.opens
  have hl : (l.take (Tlv.len l + 11)).length = Tlv.len l + 11 := by rw [List.length_take]; omega
  rw [hl, if_neg (by omega), show Tlv.len l + 11 - 4 = Tlv.len l + 7 by omega, List.take_take, Nat.min_eq_left (by omega)]

/-- A length's bytes as numbers; closed to the walk's simp. -/
def s8 (c : UInt8) : Int := (c.toNat : Int) * 256
def l16 (c d : UInt8) : Int := (c.toNat : Int) * 256 + (d.toNat : Int)
theorem sem_shl8 (t : TypeId) (c : UInt8) : binOp .shl t (.int .i64 (c.toNat : Int)) (.int .u64 8) = pure (.int .i64 (s8 c)) := by
  show Op.shift .shl .i64 (c.toNat : Int) .u64 8 = _
  rw [shift_shl_any _ _ _ _ (by omega)]; unfold s8
  have := c.toNat_lt
  show pure (Value.int .i64 (IntKind.i64.wrap ((c.toNat : Int) * ((2 ^ min (8 : Int).toNat 64 : Nat) : Int)))) = _
  rw [show (2 ^ min (8 : Int).toNat 64 : Nat) = 256 from rfl, IntWalk.i64_in _ (by omega)]; rfl
theorem i64_or_small (a b : Nat) (ha : a < 65536) (hb : b < 65536) : bits .or .i64 (a : Int) (b : Int) = ((a ||| b : Nat) : Int) := by
  have hx : a ||| b < 2 ^ 16 := Nat.or_lt_two_pow (by omega) (by omega)
  show IntKind.i64.wrap ((BitVec.ofInt 64 (a : Int) ||| BitVec.ofInt 64 (b : Int)).toNat : Int) = _
  rw [BitVec.toNat_or, ofInt_u64 a (by omega), ofInt_u64 b (by omega), IntWalk.i64_in _ (by omega)]
theorem sem_or8 (t : TypeId) (c d : UInt8) : binOp .or t (.int .i64 (s8 c)) (.int .i64 (d.toNat : Int)) = pure (.int .i64 (l16 c d)) := by
  show pure (Value.int .i64 (Go.bits .or .i64 (s8 c) (d.toNat : Int))) = _
  have hc := c.toNat_lt
  have hd := d.toNat_lt
  have e : bits .or .i64 (s8 c) (d.toNat : Int) = l16 c d := by
    unfold s8 l16
    rw [show ((c.toNat : Int) * 256) = ((c.toNat * 256 : Nat) : Int) by omega, i64_or_small _ _ (by omega) (by omega), or_low _ _ hd]
    omega
  rw [e]
theorem l16_len (y : ByteArray) (h : 7 ≤ y.size) : l16 y[5] y[6] = (Tlv.len y.data.toList : Int) := by
  unfold l16 Tlv.len Tlv.b
  rw [getD_get y 5 (by omega), getD_get y 6 (by omega)]
  omega
attribute [local go_sem 9000] sem_shl8 sem_or8 run_c83

set_option maxRecDepth 100000 in
set_option maxHeartbeats 2000000 in
theorem take_any (y : ByteArray) (w : World) (hy : y.size ≤ 140737488355328) :
    Calls Try.prog 23 #[.string y] w fun e w' => e = .returned (.tuple #[rv (Tlv.take y.data.toList).1, .int .i64 (Tlv.take y.data.toList).2.1, .int .i64 (Tlv.take y.data.toList).2.2]) ∧ Below w.heap.size w w' := by
  have hy' : (y.size : Int) ≤ 140737488355328 := by omega
  have hll : y.data.toList.length = y.size := Array.length_toList
  have hB := (Below.refl w.heap.size w).alloc (Nat.le_refl _) (.cells zc 38)
  have hcells := heap_alloc_new w (.cells zc 38)
  have hs0 : w.heap.size < (w.alloc (.cells zc 38)).heap.size := by simp
  unfold Tlv.take
  rw [hll]
  by_cases h7 : y.size < 7
  · rw [if_pos h7]
    have h7' : (y.size : Int) < 7 := by omega
    clear hll hB hcells hs0
    go_enter Try.func23, Try.ntmps23
    go_wp2_with fail
    refine bodyPost_ret_by (results_rec3 rfl _ _ w.heap.size _ _ _ rfl (heap_alloc_new w _)) rfl ⟨rfl, (Below.refl _ _).alloc (Nat.le_refl _) _⟩
  · rw [if_neg h7]
    have h7n : 7 ≤ y.size := by omega
    have h7' : (7 : Int) ≤ (y.size : Int) := by omega
    have HN := Lib.hid (l16_len y h7n)
    have hn := Tlv.len_lt y.data.toList
    have HO := Lib.hid (opened_eq y.data.toList)
    rw [hll] at HO
    have HE := Lib.hid (head_eq y)
    have HL := Lib.hid hll
    generalize y.data.toList = l at HN hn HO HE HL ⊢
    generalize Tlv.len l = n at HN hn HO ⊢
    generalize ht : (if 8192 < n then (Tlv.z, 0, 3) else if y.size < n + 11 then (Tlv.z, 0, 4) else if Tlv.opens l then ((Tlv.rec_ (l.take (n + 7))).1, n + 11, (Tlv.rec_ (l.take (n + 7))).2) else (Tlv.z, 0, 8) : Tlv.R × Nat × Int) = t
    have HT := Lib.hid ht
    have h5 : (5 : Int) < (y.size : Int) := by omega
    have h6 : (6 : Int) < (y.size : Int) := by omega
    clear h7 hll ht
    go_enter Try.func23, Try.ntmps23
    go_wp2_with fail
    generalize w.alloc (.cells zc 38) = w0 at hB hcells hs0 ⊢
    go_quiet (fail)
    rw [HN.out]
    have hB1 : Below w.heap.size w (w0.drewN nq) := below_drewN hB nq
    have hc1 : (w0.drewN nq).heap[w.heap.size]? = some (.cells zc 38 (0, 0)) := hcells
    have hs1 : w.heap.size < (w0.drewN nq).heap.size := hs0
    clear hB hcells hs0 HN
    generalize w0.drewN nq = w1 at hB1 hc1 hs1 ⊢
    by_cases h8 : 8192 < n
    · have e : t = (Tlv.z, 0, 3) := by rw [← HT.out, if_pos h8]
      subst e
      have h8' : (8192 : Int) < (n : Int) := by omega
      clear HT HO
      go_wp2_with (refine store38 rfl (.tmp 2) (.tmp 24) rfl w.heap.size _ _ (by rfl) (by rfl) hc1 rfl rfl (one3 _ _ _ rfl rfl rfl) ?_; intro w2 hc2 hk2 hs2 hb2)
      refine bodyPost_ret_by (results_rec3 rfl _ _ w.heap.size _ _ _ rfl hc2) rfl ⟨rfl, hb2 _ _ (Nat.le_refl _) hB1⟩
    · have h8' : (n : Int) ≤ 8192 := by omega
      have hw1 : IntKind.i64.wrap (7 + (n : Int)) = 7 + (n : Int) := IntWalk.i64_in _ (by omega)
      have hw2 : IntKind.i64.wrap (7 + (n : Int) + 4) = 7 + (n : Int) + 4 := IntWalk.i64_in _ (by omega)
      by_cases hs : y.size < n + 11
      · have e : t = (Tlv.z, 0, 4) := by rw [← HT.out, if_neg h8, if_pos hs]
        subst e
        have hs' : (y.size : Int) < 7 + (n : Int) + 4 := by omega
        clear HT HO
        go_wp2_with (refine store38 rfl (.tmp 2) (.tmp 32) rfl w.heap.size _ _ (by rfl) (by rfl) hc1 rfl rfl (one3 _ _ _ rfl rfl rfl) ?_; intro w2 hc2 hk2 hs2 hb2)
        refine bodyPost_ret_by (results_rec3 rfl _ _ w.heap.size _ _ _ rfl hc2) rfl ⟨rfl, hb2 _ _ (Nat.le_refl _) hB1⟩
      · have hs' : 7 + (n : Int) + 4 ≤ (y.size : Int) := by omega
        have hHO := HO.out (by omega)
        have hx : (7 + (n : Int) + 4).toNat = n + 11 := by omega
        have hsz : (lstr (l.take (n + 11))).size ≤ 140737488355328 := by rw [lstr_size, List.length_take]; omega
        have H29 := Lib.hid (fun W => open_any (lstr (l.take (n + 11))) W hsz)
        rw [lstr_data, hHO] at H29
        have hE := HE.out (n + 11)
        clear hsz hHO HO HE h8 hs
        by_cases ho : Tlv.opens l
        · have e : t = ((Tlv.rec_ (l.take (n + 7))).1, n + 11, (Tlv.rec_ (l.take (n + 7))).2) := by rw [← HT.out, if_neg (by omega), if_neg (by omega), if_pos ho]
          subst e
          rw [if_pos ho] at H29
          have hl7 : (lstr (l.take (n + 7))).size = n + 7 := by rw [lstr_size, List.length_take, HL.out]; omega
          have H30 := Lib.hid (fun W => record_any (lstr (l.take (n + 7))) W (by rw [hl7]; omega) (by rw [hl7]; omega))
          rw [lstr_data] at H30
          have HZ := Lib.hid (show 7 + (n : Int) + 4 = (n : Int) + 11 by omega)
          generalize lstr (l.take (n + 7)) = u at H29 H30
          generalize hr : Tlv.rec_ (l.take (n + 7)) = r at H30
          have HRR := Lib.hid hr
          clear HT ho hl7 hr
          go_wp2_with fail
          refine (H29.out _).mono ?_
          rintro e w2 ⟨rfl, hw2⟩
          have hc2 := (hw2.block _ hs1).trans hc1
          have hB2 := hB1.trans (hw2.mono hB1.size)
          have hs2 := Nat.lt_of_lt_of_le hs1 hw2.size
          clear hB1 hc1 hs1 hw2 hE hx
          dsimp only
          go_wp2_with fail
          refine (H30.out _).mono ?_
          rintro e w3 ⟨rfl, hw3⟩
          have hc3 := (hw3.block _ hs2).trans hc2
          have hB3 := hB2.trans (hw3.mono hB2.size)
          have hs3 := Nat.lt_of_lt_of_le hs2 hw3.size
          have hc4 := (Below.heap_alloc w3 (.cells (rc r.1) 38) w.heap.size hs3).trans hc3
          clear hB2 hc2 hs2 hw3
          dsimp only
          go_wp2_with (refine store38 rfl (.tmp 2) (.tmp 49) rfl w.heap.size _ _ (by rfl) (by rfl) hc4 rfl rfl (one3 _ _ _ rfl rfl rfl) ?_; intro w5 hc5 hk5 hs5 hb5)
          rw [HZ.out]
          refine bodyPost_ret_by (results_rec3 rfl _ _ w.heap.size _ _ _ rfl hc5) rfl ⟨by rw [HRR.out]; rfl, hb5 _ _ (Nat.le_refl _) (hB3.alloc hB3.size _)⟩
        · have e : t = (Tlv.z, 0, 8) := by rw [← HT.out, if_neg (by omega), if_neg (by omega), if_neg ho]
          subst e
          rw [if_neg ho] at H29
          clear HT ho
          go_wp2_with fail
          refine (H29.out _).mono ?_
          rintro e w2 ⟨rfl, hw2⟩
          have hc2 := (hw2.block _ hs1).trans hc1
          have hB2 := hB1.trans (hw2.mono hB1.size)
          clear hB1 hc1 hw2 hE hx
          dsimp only
          go_wp2_with (refine store38 rfl (.tmp 2) (.tmp 42) rfl w.heap.size _ _ (by rfl) (by rfl) hc2 rfl rfl (one3 _ _ _ rfl rfl rfl) ?_; intro w5 hc5 hk5 hs5 hb5)
          refine bodyPost_ret_by (results_rec3 rfl _ _ w.heap.size _ _ _ rfl hc5) rfl ⟨rfl, hb5 _ _ (Nat.le_refl _) hB2⟩
end Go.Proofs.Ytpolpgghdeljbaa
