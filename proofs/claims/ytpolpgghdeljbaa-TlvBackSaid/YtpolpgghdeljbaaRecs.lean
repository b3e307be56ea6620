/- Rows of records: compared, copied. -/
import Derived.Test.YtpolpgghdeljbaaFeed
import Derived.Laws.StructEq
namespace Go.Proofs.Ytpolpgghdeljbaa
open Go.RowKit Crc

/-- Are two records the same? Closed to the walk's simp. -/
def sameR (x y : Tlv.R) : Bool := decide (x = y)
theorem sameR_eq (a b c d : Int) (p q : List UInt8) : sameR (a, b, p) (c, d, q) = ((a == c) && ((b == d) && decide (p = q))) := by
  unfold sameR
  rw [Bool.eq_iff_iff]
  simp [Prod.ext_iff]
theorem str_same (p q : List UInt8) : ((lstr p).toList == (lstr q).toList) = decide (p = q) := by
  rw [Bool.eq_iff_iff, beq_iff_eq, decide_eq_true_eq, ByteArray.toList_eq, ByteArray.toList_eq]
  exact Iff.rfl
theorem fields38 : (Try.prog.fieldsOf 38).toList.map (fun f => (f.type, f.offset, decide (f.name ≠ "_"))) = [(3, 0, true), (3, 1, true), (9, 2, true)] := by kernel_rfl
theorem fields58 : (Try.prog.fieldsOf 58).toList.map (fun f => (f.type, f.offset, decide (f.name ≠ "_"))) = [(3, 0, true), (3, 1, true), (9, 2, true)] := by kernel_rfl
theorem part_k (W : World) (x : Tlv.R) : (part 3 (rc x) 0).run Try.prog W = .ok (.int .i64 x.1) W := by
  simp [part, Try.isAgg3, Try.sizeOf3]
theorem part_s (W : World) (x : Tlv.R) : (part 3 (rc x) 1).run Try.prog W = .ok (.int .i64 x.2.1) W := by
  simp [part, Try.isAgg3, Try.sizeOf3]
theorem part_p (W : World) (x : Tlv.R) : (part 9 (rc x) 2).run Try.prog W = .ok (.string (lstr x.2.2)) W := by
  simp [part, Try.isAgg9, Try.sizeOf9]
theorem fld {P : Program} (d : Nat) (xs ys : Array Value) (f : Field) (fs : List Field) (hn : f.name ≠ "_") {a b : Value} {r : Bool} (W : World) (ha : (part f.type xs f.offset).run P W = .ok a W) (hb : (part f.type ys f.offset).run P W = .ok b W)
    (hr : (Op.equalIn d f.type a b).run P W = .ok r W) : (Op.eqFields d xs ys (f :: fs)).run P W = if r then (Op.eqFields d xs ys fs).run P W else .ok false W := by
  conv => lhs; rw [Op.eqFields]
  rw [if_pos hn]
  simp only [Sem.run_bind, ha, hb, hr, Result.andThen_ok]
  cases r <;> simp
theorem eq_fields (W : World) (fs : List Field) (h : fs.map (fun f => (f.type, f.offset, decide (f.name ≠ "_"))) = [(3, 0, true), (3, 1, true), (9, 2, true)]) (x y : Tlv.R) :
    (Op.eqFields 9999 (rc x) (rc y) fs).run Try.prog W = .ok (sameR x y) W := by
  obtain ⟨f0, fs, rfl, h0, h⟩ := List.map_eq_cons_iff.1 h
  obtain ⟨f1, fs, rfl, h1, h⟩ := List.map_eq_cons_iff.1 h
  obtain ⟨f2, fs, rfl, h2, h⟩ := List.map_eq_cons_iff.1 h
  obtain rfl := List.map_eq_nil_iff.1 h
  simp only [Prod.mk.injEq, decide_eq_true_eq] at h0 h1 h2
  obtain ⟨t0, o0, n0⟩ := h0
  obtain ⟨t1, o1, n1⟩ := h1
  obtain ⟨t2, o2, n2⟩ := h2
  rw [fld _ _ _ _ _ n0 W (by rw [t0, o0]; exact part_k W x) (by rw [t0, o0]; exact part_k W y) (by rw [t0]; exact run_equalIn_int W 9998 3 .i64 .i64 _ _ Try.underlying3)]
  rw [fld _ _ _ _ _ n1 W (by rw [t1, o1]; exact part_s W x) (by rw [t1, o1]; exact part_s W y) (by rw [t1]; exact run_equalIn_int W 9998 3 .i64 .i64 _ _ Try.underlying3)]
  rw [fld _ _ _ _ _ n2 W (by rw [t2, o2]; exact part_p W x) (by rw [t2, o2]; exact part_p W y) (by rw [t2]; exact run_equalIn_string W 9998 9 _ _ Try.underlying9), str_same]
  obtain ⟨a, b, p⟩ := x
  obtain ⟨c, d, q⟩ := y
  rw [sameR_eq]
  dsimp only
  cases (a == c) <;> cases (b == d) <;> cases decide (p = q) <;> simp [Op.eqFields]
theorem eq38 (W : World) (x y : Tlv.R) : (Op.equalIn 10000 38 (rv x) (rv y)).run Try.prog W = .ok (sameR x y) W := by
  rw [show (10000 : Nat) = 9999 + 1 from rfl, run_equalIn_struct W 9999 38 _ _ (by kernel_rfl) (by kernel_rfl)]
  exact eq_fields W _ fields38 x y
theorem eq58 (W : World) (x y : Tlv.R) : (Op.equalIn 10000 58 (rv x) (rv y)).run Try.prog W = .ok (sameR x y) W := by
  rw [show (10000 : Nat) = 9999 + 1 from rfl, run_equalIn_struct W 9999 58 _ _ (by kernel_rfl) (by kernel_rfl)]
  exact eq_fields W _ fields58 x y
theorem eql_rec (W : World) (a b c d : Int) (p q : List UInt8) : (binOp .eql 38 (.agg #[.int .i64 a, .int .i64 b, .string (lstr p)]) (.agg #[.int .i64 c, .int .i64 d, .string (lstr q)])).run Try.prog W = .ok (.bool (sameR (a, b, p) (c, d, q))) W := by
  rw [run_eql_struct, eq38 W (a, b, p) (c, d, q)]; rfl
theorem neq_rec (W : World) (a b c d : Int) (p q : List UInt8) : (binOp .neq 58 (.agg #[.int .i64 a, .int .i64 b, .string (lstr p)]) (.agg #[.int .i64 c, .int .i64 d, .string (lstr q)])).run Try.prog W = .ok (.bool (!sameR (a, b, p) (c, d, q))) W := by
  rw [run_neq_struct, eq58 W (a, b, p) (c, d, q)]; rfl
/-- A row of records, wherever it lies. -/
def Recs (w : World) (ao : Option Addr) (rs : List Tlv.R) : Prop :=
  ∀ i, i < rs.length → ∃ g, ao = some ⟨g, 0, none⟩ ∧ w.cell? ⟨g, i * 3, none⟩ = some (.int .i64 (rs.getD i Tlv.z).1) ∧ w.cell? ⟨g, i * 3 + 1, none⟩ = some (.int .i64 (rs.getD i Tlv.z).2.1) ∧ w.cell? ⟨g, i * 3 + 2, none⟩ = some (.string (lstr (rs.getD i Tlv.z).2.2))
theorem rcells_get (rs : List Tlv.R) (i j : Nat) (hi : i < rs.length) (hj : j < 3) : (rcells rs)[i * 3 + j]? = (rc (rs.getD i Tlv.z))[j]? := by
  induction rs generalizing i with
  | nil => cases hi
  | cons x rs ih =>
    have e : rcells (x :: rs) = (rc x).toList ++ rcells rs := rfl
    rw [e]
    have hl : (rc x).toList.length = 3 := rfl
    cases i with
    | zero =>
      rw [List.getElem?_append_left (by rw [hl]; omega)]
      simp [List.getD]
    | succ i =>
      rw [List.getElem?_append_right (by rw [hl]; omega), hl, show (i + 1) * 3 + j - 3 = i * 3 + j by omega, ih i (by simpa using hi)]
      simp [List.getD]
theorem recs_of {w : World} {B : Nat} {e : TypeId} {ao : Option Addr} {n cap : Nat} {rs : List Tlv.R} (h : w.ownsRow B e 3 (.slice ao n cap) n (rcells rs)) : Recs w ao rs := by
  intro i hi
  have hn : 0 < n := by have := h.1; rw [rcells_length] at this; omega
  obtain ⟨g, cap', hv, _, _⟩ := h.form hn
  injection hv with hv _ _
  subst hv
  have hc := h.cells (g := g) rfl
  have hadd : ∀ j, (⟨g, 0, none⟩ : Addr).add j = ⟨g, j, none⟩ := fun j => by unfold Addr.add; split <;> simp_all
  refine ⟨g, rfl, ?_, ?_, ?_⟩
  · have := hc (i * 3) _ (rcells_get rs i 0 hi (by omega))
    rwa [hadd] at this
  · have := hc (i * 3 + 1) _ (rcells_get rs i 1 hi (by omega))
    rwa [hadd] at this
  · have := hc (i * 3 + 2) _ (rcells_get rs i 2 hi (by omega))
    rwa [hadd] at this
theorem Recs.kept {w w' : World} {ao : Option Addr} {rs : List Tlv.R} (h : Recs w ao rs) (hk : ∀ k, (Value.slice ao 0 0).ownBlock = some k → w'.heap[k]? = w.heap[k]?) : Recs w' ao rs := by
  intro i hi
  obtain ⟨g, rfl, h0, h1, h2⟩ := h i hi
  have e := hk g rfl
  exact ⟨g, rfl, (World.cell?_of_block e).trans h0, (World.cell?_of_block e).trans h1, (World.cell?_of_block e).trans h2⟩
theorem Recs.below {w w' : World} {ao : Option Addr} {rs : List Tlv.R} (h : Recs w ao rs) (hb : Below w.heap.size w w') : Recs w' ao rs := by
  intro i hi
  obtain ⟨g, rfl, h0, h1, h2⟩ := h i hi
  have hl := block_lt_of_cell h0
  exact ⟨g, rfl, (hb.cell (p := ⟨g, i * 3, none⟩) hl).trans h0, (hb.cell (p := ⟨g, i * 3 + 1, none⟩) hl).trans h1, (hb.cell (p := ⟨g, i * 3 + 2, none⟩) hl).trans h2⟩
theorem Recs.take {w : World} {ao : Option Addr} {rs : List Tlv.R} (h : Recs w ao rs) (n : Nat) : Recs w ao (rs.take n) := by
  intro i hi
  rw [List.length_take] at hi
  have e : (rs.take n).getD i Tlv.z = rs.getD i Tlv.z := by simp [List.getD, show i < n by omega]
  rw [e]
  exact h i (by omega)

attribute [local go_sem 9000] eql_rec neq_rec
set_option maxRecDepth 100000 in
set_option maxHeartbeats 1000000 in
theorem of_any (ao : Option Addr) (cap : Nat) (rs : List Tlv.R) (w : World) (h : Recs w ao rs) (hl : rs.length ≤ 1000000000) :
    Calls Try.prog 11 #[.slice ao rs.length cap] w fun e w' => ∃ ao' cap', e = .returned (.slice ao' rs.length cap') ∧ w'.ownsRow w.heap.size 58 3 (.slice ao' rs.length cap') rs.length (rcells rs) ∧ Below w.heap.size w w' := by
  obtain ⟨i0, hi, hz0, hz1, hz2⟩ := info_parts (show (Try.prog.info? 58).map (fun i => (i.zero, i.size, i.bytes)) = some (some (.agg #[.int .i64 0, .int .i64 0, .string ⟨#[]⟩]), 3, 32) by kernel_rfl)
  have HL := Lib.hid hl
  have hl' : (rs.length : Int) ≤ 1000000000 := by omega
  clear hl
  go_enter Try.func11, Try.ntmps11
  go_wp2_with fail
  go_loopw [3, 4] (fun x i wr => ∃ (k : Nat) (ao' : Option Addr) (cap' : Nat), k ≤ rs.length ∧ i = .int .i64 k ∧ x = .slice ao' k cap' ∧ wr.ownsRow w.heap.size 58 3 (.slice ao' k cap') k (rcells (rs.take k)) ∧ Below w.heap.size w wr) (fun _ i _ => rs.length - (intOf i).toNat)
  case atStart => exact ⟨0, none, 0, by omega, rfl, rfl, World.ownsRow_nil _ _ _ _, Below.refl _ _⟩
  case round =>
    obtain ⟨k, ao', cap', hk, rfl, rfl, hown, hB⟩ := hrel
    by_cases hlt : k < rs.length
    · obtain ⟨g, rfl, h0, h1, h2⟩ := h k hlt
      have hgl := block_lt_of_cell h0
      have c0 := (hB.cell (p := ⟨g, k * 3, none⟩) hgl).trans h0
      have c1 := (hB.cell (p := ⟨g, k * 3 + 1, none⟩) hgl).trans h1
      have c2 := (hB.cell (p := ⟨g, k * 3 + 2, none⟩) hgl).trans h2
      have hk0 : (k : Int) < (rs.length : Int) := by omega
      have HT := Lib.hid (show rcells (rs.take k) ++ (rc (rs.getD k Tlv.z)).toList = rcells (rs.take (k + 1)) by
        rw [List.take_succ_eq_append_getElem hlt, rcells_append]; simp [List.getD, List.getElem?_eq_getElem hlt, rcells])
      generalize rs.getD k Tlv.z = x at c0 c1 c2 HT
      have HO := Lib.hid hown
      have HB := Lib.hid hB
      clear hown hB h0 h1 h2
      have HBA := Lib.hid (HB.out.alloc HB.out.size (.cells (rc x) 58))
      have HOA := Lib.hid (owns_below HO.out ((Below.refl wr.heap.size wr).alloc (Nat.le_refl _) (.cells (rc x) 58)))
      go_wp2_with (at_builtin; (refine wpList_append_lies _ rfl _ _ 32 rfl w.heap.size 58 i0 _ 3 32 Try.underlying32 hi hz0 hz1 hz2 rfl (by omega) (.slice ao' k cap') k (rcells (rs.take k)) (by rfl) HOA.out ⟨wr.heap.size, 0, none⟩ 1 1 (rc x).toList (by rfl) (by rfl) (World.news_of_block (heap_alloc_new _ _)) (by simp [Value.oneCell']) (by omega) (by have := HL.out; unfold maxLen; omega) (by have := HL.out; omega) HBA.out.size _ rfl ?_); intro g5 cap5 w5 hown5 hgrow5 hat5 hlt5; have HB5 := Lib.hid (HBA.out.grown hgrow5 HBA.out.size (fun j hj => (HOA.out.lt j hj).1)); have HO5 : Hid (w5.ownsRow w.heap.size 58 3 (.slice (some ⟨g5, 0, none⟩) (k + 1) cap5) (k + 1) (rcells (rs.take (k + 1)))) := (by rw [← HT.out]; exact hown5); clear hown5 hgrow5 hat5 hlt5)
      go_roundw
      case rel => exact ⟨k + 1, _, cap5, by omega, by go_num, rfl, HO5.out, HB5.out⟩
      case measure => simp [intOf]; omega
    · obtain rfl : k = rs.length := by omega
      rw [List.take_length] at hown
      have HO := Lib.hid hown
      have HB := Lib.hid hB
      clear hown hB h
      go_wp2_with fail
      go_ret
      exact ⟨ao', cap', rfl, HO.out, HB.out⟩

def sameAll (a b : List Tlv.R) : Bool := decide (a = b)
set_option maxRecDepth 100000 in
set_option maxHeartbeats 1000000 in
theorem same_any (ao bo : Option Addr) (ac bc : Nat) (a b : List Tlv.R) (w : World) (ha : Recs w ao a) (hb : Recs w bo b) (hl : a.length ≤ 1000000000) (hm : b.length ≤ 1000000000) :
    Calls Try.prog 10 #[.slice ao a.length ac, .slice bo b.length bc] w fun e w' => e = .returned (.bool (sameAll a b)) ∧ Below w.heap.size w w' := by
  have hl' : (a.length : Int) ≤ 1000000000 := by omega
  have hm' : (b.length : Int) ≤ 1000000000 := by omega
  by_cases hlen : a.length = b.length
  · have hlen' : (a.length : Int) = (b.length : Int) := by omega
    have HLen := Lib.hid hlen
    clear hl hm hlen
    go_enter Try.func10, Try.ntmps10
    go_wp2_with fail
    go_loopw [5] (fun i wr => ∃ k : Nat, k ≤ a.length ∧ i = .int .i64 k ∧ a.take k = b.take k ∧ Below w.heap.size w wr) (fun i _ => a.length - (intOf i).toNat)
    case atStart => exact ⟨0, by omega, rfl, by simp, Below.refl _ _⟩
    case round =>
      obtain ⟨k, hk, rfl, hpre, hB⟩ := hrel
      have HP := Lib.hid hpre
      have HB := Lib.hid hB
      by_cases hlt : k < a.length
      · have hltb : k < b.length := by rw [← HLen.out]; exact hlt
        obtain ⟨g, rfl, h0, h1, h2⟩ := ha k hlt
        obtain ⟨f, rfl, k0, k1, k2⟩ := hb k hltb
        have hgl := block_lt_of_cell h0
        have hfl := block_lt_of_cell k0
        have c0 := (hB.cell (p := ⟨g, k * 3, none⟩) hgl).trans h0
        have c1 := (hB.cell (p := ⟨g, k * 3 + 1, none⟩) hgl).trans h1
        have c2 := (hB.cell (p := ⟨g, k * 3 + 2, none⟩) hgl).trans h2
        have d0 := (hB.cell (p := ⟨f, k * 3, none⟩) hfl).trans k0
        have d1 := (hB.cell (p := ⟨f, k * 3 + 1, none⟩) hfl).trans k1
        have d2 := (hB.cell (p := ⟨f, k * 3 + 2, none⟩) hfl).trans k2
        have hk0 : (k : Int) < (a.length : Int) := by omega
        have hk1 : (k : Int) < (b.length : Int) := by omega
        have HXY := Lib.hid (show a.getD k Tlv.z = b.getD k Tlv.z → a.take (k + 1) = b.take (k + 1) by
          intro e
          have e' : a[k] = b[k] := by simpa [List.getD, List.getElem?_eq_getElem hlt, List.getElem?_eq_getElem hltb] using e
          rw [List.take_succ_eq_append_getElem hlt, List.take_succ_eq_append_getElem hltb, HP.out, e'])
        have HNE := Lib.hid (show a.getD k Tlv.z ≠ b.getD k Tlv.z → sameAll a b = false from fun e => decide_eq_false fun h => e (by rw [h]))
        generalize a.getD k Tlv.z = x at c0 c1 c2 HXY HNE
        generalize b.getD k Tlv.z = y at d0 d1 d2 HXY HNE
        obtain ⟨x0, x1, x2⟩ := x
        obtain ⟨y0, y1, y2⟩ := y
        dsimp only at c0 c1 c2 d0 d1 d2
        clear hpre hB h0 h1 h2 k0 k1 k2 ha hb
        go_wp2_with fail
        go_quiet (fail)
        generalize hsv : sameR (x0, x1, x2) (y0, y1, y2) = t
        cases t with
        | true =>
          have HX := Lib.hid (HXY.out (of_decide_eq_true hsv))
          clear hsv
          go_wp2_with fail
          go_roundw
          case rel => exact ⟨k + 1, by omega, by go_num, HX.out, below_drewN HB.out nq⟩
          case measure => simp [intOf]; omega
        | false =>
          have HX := Lib.hid (HNE.out (of_decide_eq_false hsv))
          clear hsv
          go_wp2_with fail
          go_ret
          exact ⟨by rw [HX.out]; rfl, below_drewN HB.out nq⟩
      · obtain rfl : k = a.length := by omega
        have HS := Lib.hid (show sameAll a b = true from decide_eq_true (by have := HP.out; rwa [List.take_length, HLen.out, List.take_length] at this))
        clear hpre hB ha hb
        go_wp2_with fail
        go_ret
        exact ⟨by rw [HS.out]; rfl, HB.out⟩
  · have hlen' : ¬ (a.length : Int) = (b.length : Int) := by omega
    have HS := Lib.hid (show sameAll a b = false from decide_eq_false fun h => hlen (by rw [h]))
    clear hl hm hlen ha hb
    go_enter Try.func10, Try.ntmps10
    go_wp2_with fail
    go_ret
    exact ⟨by rw [HS.out]; rfl, Below.refl _ _⟩
end Go.Proofs.Ytpolpgghdeljbaa
