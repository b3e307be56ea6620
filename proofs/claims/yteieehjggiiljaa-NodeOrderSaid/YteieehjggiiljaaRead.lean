/- The program's read: a text's node, right or not. -/
import Derived.Test.YteieehjggiiljaaEnts
import Derived.Test.YteieehjggiiljaaRt
import Derived.BigRegion
namespace Go.Proofs.Yteieehjggiiljaa
set_option maxRecDepth 100000
open Go.RowKit Go.Less
attribute [local go_sem 9000] sem_eql sem_neq sem_lss sem_leq sem_gtr sem_geq c_of
def shl8 (n : Int) : Int := n * 256
theorem sem_shl64 (t : TypeId) (n : Int) (h0 : 0 ≤ n) (h1 : n < 256) : binOp .shl t (.int .i64 n) (.int .u64 8) = pure (.int .i64 (shl8 n)) := by
  show Op.shift .shl .i64 n .u64 8 = _
  rw [shift_shl_any _ _ _ _ (by omega)]; unfold shl8
  show pure (Value.int .i64 (IntKind.i64.wrap (n * ((2 ^ min (8 : Int).toNat 64 : Nat) : Int)))) = _
  rw [show (2 ^ min (8 : Int).toNat 64 : Nat) = 256 from rfl, IntWalk.i64_in _ (by omega)]
  rfl
attribute [local go_sem 9000] sem_shl64
theorem ofInt_64 (a : Nat) (ha : a < 18446744073709551616) : (BitVec.ofInt 64 (a : Int)).toNat = a := by
  rw [BitVec.ofInt_natCast, BitVec.toNat_ofNat]; exact Nat.mod_eq_of_lt (by omega)
theorem i64_or_nat (a b : Nat) (ha : a < 65536) (hb : b < 65536) : Go.bits .or .i64 (a : Int) (b : Int) = ((a ||| b : Nat) : Int) := by
  have hx : a ||| b < 2 ^ 16 := Nat.or_lt_two_pow (by omega) (by omega)
  show IntKind.i64.wrap ((BitVec.ofInt 64 (a : Int) ||| BitVec.ofInt 64 (b : Int)).toNat : Int) = _
  rw [BitVec.toNat_or, ofInt_64 a (by omega), ofInt_64 b (by omega), IntWalk.i64_in _ (by omega)]
theorem or_two (b c : UInt8) : Go.bits .or .i64 (shl8 (b.toNat : Int)) (c.toNat : Int) = (b.toNat : Int) * 256 + (c.toNat : Int) := by
  have hb := b.toNat_lt; have hc := c.toNat_lt
  unfold shl8
  rw [show (b.toNat : Int) * 256 = ((b.toNat * 256 : Nat) : Int) by omega, i64_or_nat _ _ (by omega) (by omega), or_low _ _ hc]
  omega
/-- What read answers. -/
def ReadP (s : ByteArray) (w : World) (e : Ending) (w' : World) : Prop :=
  ∃ (k m : Int) (d t : ByteArray) (a : Option Addr) (n cp : Nat) (l : List En) (ok : Bool), e = .returned (.tuple #[nv k m d t a n cp, .bool ok]) ∧ Below w.heap.size w w' ∧ Ents a n l w' ∧ n ≤ 100000 ∧ d.size ≤ 100000 ∧ t.size ≤ 100000 ∧ (∀ j, j < n → (l.getD j z0).1.size ≤ 100000) ∧
    (ok = true → parseR s.data.toList = if Nd.right less Nm.right ⟨k, m, d, t, l⟩ = true then (⟨k, m, d, t, l⟩, 0) else (Nd.none0, 2)) ∧ (ok = false → parseR s.data.toList = (Nd.none0, 2))
theorem readP_no {s : ByteArray} {w W : World} {k m : Int} {d t : ByteArray} (h : parseR s.data.toList = (Nd.none0, 2)) (hd : d.size ≤ 100000) (ht : t.size ≤ 100000) (hb : Below w.heap.size w W) : ReadP s w (.returned (.tuple #[nv k m d t none 0 0, .bool false])) W :=
  ⟨k, m, d, t, none, 0, 0, [], false, rfl, hb, ents_nil _, Nat.zero_le _, hd, ht, fun j hj => by omega, fun e => (by cases e), fun _ => h⟩
theorem readP_one {s : ByteArray} {w W : World} {k m : Int} {d t : ByteArray} (h : parseR s.data.toList = if Nd.right less Nm.right ⟨k, m, d, t, []⟩ = true then (⟨k, m, d, t, []⟩, 0) else (Nd.none0, 2)) (hd : d.size ≤ 100000) (ht : t.size ≤ 100000) (hb : Below w.heap.size w W) : ReadP s w (.returned (.tuple #[nv k m d t none 0 0, .bool true])) W :=
  ⟨k, m, d, t, none, 0, 0, [], true, rfl, hb, ents_nil _, Nat.zero_le _, hd, ht, fun j hj => by omega, fun _ => h, fun e => (by cases e)⟩
set_option maxHeartbeats 4000000 in
theorem read_any (s : ByteArray) (w : World) (hs : s.size ≤ 100000) : Calls Try.prog 25 #[.string s] w (ReadP s w) := by
  have hsi : (s.size : Int) ≤ 100000 := by omega
  have HL := Lib.hid (show s.data.toList.length = s.size from Array.length_toList)
  have HB0 := Lib.hid (show ∀ x : Obj, Below w.heap.size w (w.alloc x) from fun x => (Below.refl _ w).alloc (Nat.le_refl _) _)
  rcases Nat.lt_or_ge s.size 3 with h3 | h3
  · have h3i : (s.size : Int) < 3 := by omega
    have HR := Lib.hid (parseR_none (s := s.data.toList) (Nd.parse_short (by rw [HL.out]; exact h3)))
    clear h3
    go_enter Try.func25, Try.ntmps25
    go_wp2_with fail
    refine scope_fwd 0 rfl ?_
    go_wp2_with fail
    simp only [Exit.jump]
    refine bodyPost_ret_by (results_nd rfl _ _ w.heap.size _ _ _ _ _ rfl (heap_alloc_new _ _)) rfl ?_
    exact readP_no HR.out (Nat.zero_le _) (Nat.zero_le _) (HB0.out _)
  have h3i : ¬ (s.size : Int) < 3 := by omega
  have h0 : 0 < s.size := by omega
  have h1 : 1 < s.size := by omega
  have h2 : 2 < s.size := by omega
  have HA0 := Lib.hid (b_at s h0)
  have HA1 := Lib.hid (b_at s h1)
  have HA2 := Lib.hid (b_at s h2)
  have HY := Lib.hid (fun es he => parseR_yes (s := s.data.toList) (by rw [HL.out]; exact h3) (es := es) he)
  have HNo := Lib.hid (fun hk he => parseR_none (Nd.parse_no (lt := less) (nm := Nm.right) (l := s.data.toList) (by rw [HL.out]; exact h3) hk he))
  have HRst := Lib.hid (rest_is s h3)
  have hrs : (s.extract 3 s.size).size ≤ 100000 := by rw [HRst.out, lstr_size, List.length_drop, HL.out]; omega
  have HRs := Lib.hid hrs
  have hz0 := s[0].toNat_lt
  have hz1 := s[1].toNat_lt
  have hz2 := s[2].toNat_lt
  have hz1i : (s[1].toNat : Int) < 256 := by omega
  have hor := or_two s[1] s[2]
  have i0 : (0 : Int) < (s.size : Int) := by omega
  have i1 : (1 : Int) < (s.size : Int) := by omega
  have i2 : (2 : Int) < (s.size : Int) := by omega
  clear hrs
  by_cases k1 : s[0].toNat = 1
  · have HV := Lib.hid (show parseR s.data.toList = if Nd.right less Nm.right ⟨1, ((s[1].toNat : Int) * 256 + (s[2].toNat : Int)), s.extract 3 s.size, ⟨#[]⟩, []⟩ = true then (⟨1, ((s[1].toNat : Int) * 256 + (s[2].toNat : Int)), s.extract 3 s.size, ⟨#[]⟩, []⟩, 0) else (Nd.none0, 2) by
      have hnd : ndOf s.data.toList [] = ⟨1, ((s[1].toNat : Int) * 256 + (s[2].toNat : Int)), s.extract 3 s.size, ⟨#[]⟩, []⟩ := by
        rw [HRst.out]; unfold ndOf Nd.nodeOf; rw [← HA0.out, ← HA1.out, ← HA2.out, k1, if_pos rfl, if_neg (by omega)]; rfl
      rw [← hnd]; exact HY.out [] (by rw [if_neg (by rw [← HA0.out]; omega)]))
    clear HNo HY HA0 HA1 HA2 HRst
    go_enter Try.func25, Try.ntmps25
    go_wp2_with fail
    refine scope_fwd 0 rfl ?_
    go_wp2_with fail
    go_region
    go_wp2_with fail
    refine wp_goto ?_
    refine ⟨rfl, ?_⟩
    go_wp2_with fail
    simp only [Exit.jump]
    refine bodyPost_ret_by (results_nd rfl _ _ w.heap.size _ _ _ _ _ rfl (heap_alloc_new _ _)) rfl ?_
    exact readP_one HV.out HRs.out (Nat.zero_le _) ((HB0.out _).drew)
  by_cases k3 : s[0].toNat = 3
  · have HV := Lib.hid (show parseR s.data.toList = if Nd.right less Nm.right ⟨3, ((s[1].toNat : Int) * 256 + (s[2].toNat : Int)), ⟨#[]⟩, s.extract 3 s.size, []⟩ = true then (⟨3, ((s[1].toNat : Int) * 256 + (s[2].toNat : Int)), ⟨#[]⟩, s.extract 3 s.size, []⟩, 0) else (Nd.none0, 2) by
      have hnd : ndOf s.data.toList [] = ⟨3, ((s[1].toNat : Int) * 256 + (s[2].toNat : Int)), ⟨#[]⟩, s.extract 3 s.size, []⟩ := by
        rw [HRst.out]; unfold ndOf Nd.nodeOf; rw [← HA0.out, ← HA1.out, ← HA2.out, k3, if_neg (by omega), if_pos rfl]; rfl
      rw [← hnd]; exact HY.out [] (by rw [if_neg (by rw [← HA0.out]; omega)]))
    clear HNo HY HA0 HA1 HA2 HRst
    go_enter Try.func25, Try.ntmps25
    go_wp2_with fail
    refine scope_fwd 2 rfl ?_
    go_wp2_with fail
    go_region
    go_wp2_with fail
    refine wp_goto ?_
    refine ⟨rfl, ?_⟩
    go_wp2_with fail
    simp only [Exit.jump]
    refine bodyPost_ret_by (results_nd rfl _ _ w.heap.size _ _ _ _ _ rfl (heap_alloc_new _ _)) rfl ?_
    exact readP_one HV.out (Nat.zero_le _) HRs.out ((HB0.out _).drew)
  by_cases k2 : s[0].toNat = 2
  · have HVA := Lib.hid (show ∀ es, Nd.ents (s.data.toList.drop 3) = some es → parseR s.data.toList = if Nd.right less Nm.right ⟨2, ((s[1].toNat : Int) * 256 + (s[2].toNat : Int)), ⟨#[]⟩, ⟨#[]⟩, es⟩ = true then (⟨2, ((s[1].toNat : Int) * 256 + (s[2].toNat : Int)), ⟨#[]⟩, ⟨#[]⟩, es⟩, 0) else (Nd.none0, 2) from fun es he => by
      have hnd : ndOf s.data.toList es = ⟨2, ((s[1].toNat : Int) * 256 + (s[2].toNat : Int)), ⟨#[]⟩, ⟨#[]⟩, es⟩ := by
        unfold ndOf Nd.nodeOf; rw [← HA0.out, ← HA1.out, ← HA2.out, k2, if_neg (by omega), if_neg (by omega)]; rfl
      rw [← hnd]; exact HY.out es (by rw [if_pos (by rw [← HA0.out]; exact k2), he]))
    have HVN := Lib.hid (show (∀ es, Nd.ents (s.data.toList.drop 3) = some es → 64 < es.length) → parseR s.data.toList = (Nd.none0, 2) from fun hl => by
      cases he : Nd.ents (s.data.toList.drop 3) with
      | none => exact HNo.out (by rw [← HA0.out]; exact k2) he
      | some es =>
        rw [HVA.out es he, if_neg]
        intro h
        have := ((Nd.right_iff _).1 h).len
        have := hl es he
        dsimp only at *
        omega)
    have HRe := Lib.hid (fun W => readEntries_any (s.extract 3 s.size) W HRs.out)
    have hsd : (s.extract 3 s.size).data.toList = s.data.toList.drop 3 := by rw [HRst.out]; rfl
    rw [hsd] at HRe
    clear HNo HY HA0 HA1 HA2 HRst hsd
    go_enter Try.func25, Try.ntmps25
    go_wp2_with fail
    refine scope_fwd 1 rfl ?_
    go_wp2_with fail
    go_region
    go_wp2_with fail
    refine wp_goto ?_
    refine ⟨rfl, ?_⟩
    go_wp2_with fail
    refine (HRe.out _).mono ?_
    rintro e w2 ⟨hb2, hcase⟩
    have HX2 := Lib.hid ((hb2.block w.heap.size (by simp)).trans (show _ = some (.cells #[.int .i64 2, .int .i64 ((s[1].toNat : Int) * 256 + (s[2].toNat : Int)), .string ⟨#[]⟩, .string ⟨#[]⟩, .slice none 0 0] 24 (0, 0)) from heap_alloc_new w _))
    have HB2 := Lib.hid (((HB0.out _).drew).trans (hb2.mono (HB0.out _).size))
    have hx := HX2.out
    have x0 : w2.cell? ⟨w.heap.size, 0, none⟩ = some (.int .i64 2) := cell_obj hx 0
    have x1 : w2.cell? ⟨w.heap.size, 1, none⟩ = some (.int .i64 ((s[1].toNat : Int) * 256 + (s[2].toNat : Int))) := cell_obj hx 1
    have x2 : w2.cell? ⟨w.heap.size, 2, none⟩ = some (.string ⟨#[]⟩) := cell_obj hx 2
    have x3 : w2.cell? ⟨w.heap.size, 3, none⟩ = some (.string ⟨#[]⟩) := cell_obj hx 3
    have x4 : w2.cell? ⟨w.heap.size, 4, none⟩ = some (.slice none 0 0) := cell_obj hx 4
    have f0 := free_obj hx 0
    have f1 := free_obj hx 1
    have f2 := free_obj hx 2
    have f3 := free_obj hx 3
    have f4 := free_obj hx 4
    clear hx hb2
    rcases hcase with ⟨es, ao, cp, he, hl64, hes, rfl, hown⟩ | ⟨hno, rfl⟩
    · have HV := Lib.hid (HVA.out es he)
      have HO := Lib.hid hown
      have HES := Lib.hid hes
      have HL64 := Lib.hid hl64
      clear HVA HVN he hown hes hl64
      dsimp only
      go_wp2_with fail
      simp only [Exit.jump]
      have h4 : (w2.setCell ⟨w.heap.size, 4, none⟩ (.slice ao es.length cp)).heap[w.heap.size]? = some (.cells #[.int .i64 2, .int .i64 ((s[1].toNat : Int) * 256 + (s[2].toNat : Int)), .string ⟨#[]⟩, .string ⟨#[]⟩, .slice ao es.length cp] 24 (0, 0)) := by simpa using heap_setCell_same w2 w.heap.size 4 _ 24 (.slice ao es.length cp) HX2.out
      refine bodyPost_ret_by (results_nd rfl _ _ w.heap.size _ _ _ _ _ rfl (set5 _ _ _ _ _ h4)) rfl ?_
      exact ⟨2, ((s[1].toNat : Int) * 256 + (s[2].toNat : Int)), ⟨#[]⟩, ⟨#[]⟩, ao, es.length, cp, es, true, rfl, below5 (HB2.out.setCell (Nat.le_refl _) _) (Nat.le_refl _) _ _ _ _ _, own_ents (own_set5 (own_set HO.out (by simp) 4 _) (by simp) _ _ _ _ _), Nat.le_trans HL64.out (by decide), Nat.zero_le _, Nat.zero_le _, fun j hj => by rw [List.getD, List.getElem?_eq_getElem hj]; exact Nat.le_trans (HES.out _ (List.getElem_mem hj)) (by decide), fun _ => HV.out, fun e => (by cases e)⟩
    · have HV := Lib.hid (HVN.out hno)
      clear HVA HVN hno
      dsimp only
      go_wp2_with fail
      simp only [Exit.jump]
      have h4 : (w2.setCell ⟨w.heap.size, 4, none⟩ (.slice none 0 0)).heap[w.heap.size]? = some (.cells #[.int .i64 2, .int .i64 ((s[1].toNat : Int) * 256 + (s[2].toNat : Int)), .string ⟨#[]⟩, .string ⟨#[]⟩, .slice none 0 0] 24 (0, 0)) := by simpa using heap_setCell_same w2 w.heap.size 4 _ 24 (.slice none 0 0) HX2.out
      refine bodyPost_ret_by (results_nd rfl _ _ w.heap.size _ _ _ _ _ rfl (set5 _ _ _ _ _ h4)) rfl ?_
      exact readP_no HV.out (Nat.zero_le _) (Nat.zero_le _) (below5 (HB2.out.setCell (Nat.le_refl _) _) (Nat.le_refl _) _ _ _ _ _)
  · have HV := Lib.hid (show parseR s.data.toList = (Nd.none0, 2) by
      rw [HY.out [] (by rw [if_neg (by rw [← HA0.out]; omega)]), if_neg]
      intro h
      have hk := ((Nd.right_iff _).1 h).kinds
      have e : (ndOf s.data.toList []).kind = (s[0].toNat : Int) := by rw [HA0.out]; rfl
      rw [e] at hk
      omega)
    have k1i : ¬ (s[0].toNat : Int) = 1 := by omega
    have k2i : ¬ (s[0].toNat : Int) = 2 := by omega
    have k3i : ¬ (s[0].toNat : Int) = 3 := by omega
    clear HNo HY HA0 HA1 HA2 HRst
    go_enter Try.func25, Try.ntmps25
    go_wp2_with fail
    refine scope_fwd 0 rfl ?_
    go_wp2_with fail
    go_region
    go_wp2_with fail
    simp only [Exit.jump]
    refine bodyPost_ret_by (results_nd rfl _ _ w.heap.size _ _ _ _ _ rfl (heap_alloc_new _ _)) rfl ?_
    exact readP_no HV.out (Nat.zero_le _) (Nat.zero_le _) ((HB0.out _).drew)
end Go.Proofs.Yteieehjggiiljaa
