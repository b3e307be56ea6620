/- tlv.record, tlv.take. -/
import Derived.Test.YtpolpgghdeljbaaHead
import Derived.BigQuiet
namespace Go.Proofs.Ytpolpgghdeljbaa
open Go.RowKit Crc

/-- A number of the record's bytes so far; closed to the walk's simp. -/
def sqi (l : List UInt8) (k : Nat) : Int := (Tlv.sq l k : Int)
def sqs (l : List UInt8) (k : Nat) : Int := ((Tlv.sq l k * 256 : Nat) : Int)
theorem sem_shlsq (t : TypeId) (l : List UInt8) (k : Nat) (hk : k < 4) : binOp .shl t (.int .u32 (sqi l k)) (.int .u64 8) = pure (.int .u32 (sqs l k)) := by
  show Op.shift .shl .u32 (sqi l k) .u64 8 = _
  rw [shift_shl_any _ _ _ _ (by omega)]; unfold sqi sqs
  have h := Tlv.sq_lt l k
  have h2 : 256 ^ k ≤ 256 ^ 3 := Nat.pow_le_pow_right (by omega) (by omega)
  show pure (Value.int .u32 (IntKind.u32.wrap ((Tlv.sq l k : Int) * ((2 ^ min (8 : Int).toNat 32 : Nat) : Int)))) = _
  rw [IntKind.wrap_u32', show (2 ^ min (8 : Int).toNat 32 : Nat) = 256 from rfl]
  congr 2
  omega
theorem or_low (a c : Nat) (hc : c < 256) : a * 256 ||| c = a * 256 + c := by
  rw [Nat.mul_comm, show 256 = 2 ^ 8 from rfl, Nat.two_pow_add_eq_or_of_lt hc]
theorem or_sq (l : List UInt8) (k : Nat) (hk : k < 4) : Go.bits .or .u32 (sqs l k) (u32 (w8 (l[k + 1]?.getD 0))) = sqi l (k + 1) := by
  have h := Tlv.sq_lt l k
  have h2 : 256 ^ k ≤ 256 ^ 3 := Nat.pow_le_pow_right (by omega) (by omega)
  have hc := (l[k + 1]?.getD 0).toNat_lt
  unfold sqs u32 sqi
  rw [w8_toNat, u32_or_nat _ _ (by omega) (by omega), or_low _ _ hc]
  rfl
theorem run_c83 (w : World) (c : UInt8) : (convert 5 3 (bv c)).run Try.prog w = .ok (.int .i64 (c.toNat : Int)) w := by
  have h : (convert 5 3 (bv c)).run Try.prog w = .ok (.int .i64 (IntKind.i64.wrap (c.toNat : Int))) w := by rfl
  have := c.toNat_lt
  rw [h, IntWalk.i64_in _ (by omega)]
attribute [local go_sem 9000] sem_shlsq run_w8 run_c83

theorem getD_get (y : ByteArray) (i : Nat) (h : i < y.size) : y[i] = y.data.toList.getD i 0 := by
  have h' : i < y.data.toList.length := by rw [Array.length_toList]; exact h
  simp [List.getD, List.getElem?_eq_getElem h']
  rfl
theorem drop_eq (y : ByteArray) (n : Nat) : y.extract n y.size = lstr (y.data.toList.drop n) := tail_eq y n

theorem size38 : (Try.prog.info? 38).map (·.size) = some 3 := by kernel_rfl
theorem results_rec2 {fn : Func} {p u : Tmp} (h : fn.results = #[.cell p 38, .tmp u]) (tmps : Array Value) (w : World) (g : Nat) (k s y : Value)
    (hp : tmps.getD p undef = .pointer (some ⟨g, 0, none⟩)) (hg : w.heap[g]? = some (.cells #[k, s, y] 38 (0, 0))) :
    (results fn tmps).run Try.prog w = .ok (.tuple #[.agg #[k, s, y], tmps.getD u undef]) w := by
  rw [results_cell_tmp h, hp]
  simp [asAddr, Result.andThen, run_loadVar_row (P := Try.prog) w g 38 38 #[k, s, y] (0, 0) _ hg Try.underlying38 rfl size38]
theorem results_cell_tmp2 {fn : Func} {p u v : Tmp} {ty : TypeId} (h : fn.results = #[.cell p ty, .tmp u, .tmp v]) (tmps : Array Value) (P : Program) (w : World) :
    (results fn tmps).run P w =
      ((asAddr (tmps.getD p undef)).run P w).andThen fun a w₁ => ((loadVar ty a).run P w₁).andThen fun x w₂ => .ok (.tuple #[x, tmps.getD u undef, tmps.getD v undef]) w₂ := by
  simp only [results, h]
  simp [Sem.run_bind, Result.andThen]
theorem results_rec3 {fn : Func} {p u v : Tmp} (h : fn.results = #[.cell p 38, .tmp u, .tmp v]) (tmps : Array Value) (w : World) (g : Nat) (k s y : Value)
    (hp : tmps.getD p undef = .pointer (some ⟨g, 0, none⟩)) (hg : w.heap[g]? = some (.cells #[k, s, y] 38 (0, 0))) :
    (results fn tmps).run Try.prog w = .ok (.tuple #[.agg #[k, s, y], tmps.getD u undef, tmps.getD v undef]) w := by
  rw [results_cell_tmp2 h, hp]
  simp [asAddr, Result.andThen, run_loadVar_row (P := Try.prog) w g 38 38 #[k, s, y] (0, 0) _ hg Try.underlying38 rfl size38]

set_option maxRecDepth 100000 in
set_option maxHeartbeats 1000000 in
theorem record_any (y : ByteArray) (w : World) (h7 : 7 ≤ y.size) (hy : y.size ≤ 140737488355328) :
    Calls Try.prog 30 #[.string y] w fun e w' => e = .returned (.tuple #[rv (Tlv.rec_ y.data.toList).1, .int .i64 (Tlv.rec_ y.data.toList).2]) ∧ Below w.heap.size w w' := by
  have h7' : (7 : Int) ≤ (y.size : Int) := by omega
  have hy' : (y.size : Int) ≤ 140737488355328 := by omega
  have HG := Lib.hid (getD_get y)
  have HD := Lib.hid (drop_eq y 7)
  unfold Tlv.rec_
  generalize y.data.toList = l at HG HD ⊢
  have h0 : y[0] = l.getD 0 0 := HG.out 0 (by omega)
  by_cases hk : Tlv.b l 0 = 0
  · rw [if_pos hk]
    have hk' : (y[0].toNat : Int) = 0 := by rw [h0]; unfold Tlv.b at hk; omega
    clear HG hk h0 HD
    go_enter Try.func30, Try.ntmps30
    go_wp2_with fail
    refine bodyPost_ret_by (results_rec2 rfl _ _ w.heap.size _ _ _ rfl (heap_alloc_new w _)) rfl ⟨rfl, (Below.refl _ _).alloc (Nat.le_refl _) _⟩
  · rw [if_neg hk]
    have hk' : ¬ (y[0].toNat : Int) = 0 := by rw [h0]; unfold Tlv.b at hk; omega
    have HK := Lib.hid (show (y[0].toNat : Int) = (Tlv.b l 0 : Int) by rw [h0]; rfl)
    clear hk h0
    go_enter Try.func30, Try.ntmps30
    go_wp2_with fail
    have hB := (Below.refl w.heap.size w).alloc (Nat.le_refl _) (.cells #[.int .i64 0, .int .i64 0, .string ⟨#[]⟩] 38)
    have hcells := heap_alloc_new w (.cells #[.int .i64 0, .int .i64 0, .string ⟨#[]⟩] 38)
    go_loop [4, 5] (fun s i => ∃ k : Nat, k ≤ 4 ∧ i = .int .i64 ((k : Int) + 1) ∧ s = .int .u32 (sqi l k)) (fun _ i => 5 - (intOf i).toNat)
    case atStart => exact ⟨0, by omega, rfl, rfl⟩
    case round =>
      obtain ⟨k, hk, rfl, rfl⟩ := hrel
      by_cases hlt : k < 4
      · have hk1 : (k : Int) + 1 < 5 := by omega
        have hk2 : (k : Int) + 1 < (y.size : Int) := by omega
        have hk3 : 0 ≤ (k : Int) + 1 := by omega
        have hk4 : ((k : Int) + 1).toNat = k + 1 := by omega
        have hix : ∀ h, y[k + 1]'h = l.getD (k + 1) 0 := fun h => HG.out (k + 1) (by omega)
        go_wp2_with fail
        rw [or_sq l k hlt]
        go_round
        case rel => exact ⟨k + 1, by omega, by go_num, rfl⟩
        case measure => simp [intOf]; omega
      · obtain rfl : k = 4 := by omega
        have hq0 : 0 ≤ sqi l 4 := by unfold sqi; omega
        have hlt4 := Tlv.sq_lt l 4
        by_cases hb : 2147483647 < Tlv.sq l 4
        · have HB := Lib.hid hb
          have hb' : 2147483647 < sqi l 4 := by unfold sqi; omega
          clear hb hlt4
          rw [show ((4 : Nat) : Int) = 4 from rfl]
          go_wp2_with fail
          refine bodyPost_ret_by (results_rec2 rfl _ _ w.heap.size _ _ _ rfl hcells) rfl ⟨rfl, hB⟩
        · have HB := Lib.hid hb
          have hb' : sqi l 4 ≤ 2147483647 := by unfold sqi; omega
          have HS := Lib.hid (show sqi l 4 = (Tlv.sq l 4 : Int) from rfl)
          generalize sqi l 4 = q at hq0 hb' HS ⊢
          clear hb hlt4 hlt hk
          rw [show ((4 : Nat) : Int) = 4 from rfl]
          go_wp2_with fail
          go_region
          all_goals
            go_wp2
            rw [HD.out, HK.out, HS.out]
            refine bodyPost_ret_by (results_rec2 rfl _ _ w.heap.size _ _ _ rfl (heap_alloc_new w _)) rfl ⟨rfl, ((Below.refl _ _).alloc (Nat.le_refl _) _).drew⟩
end Go.Proofs.Ytpolpgghdeljbaa
