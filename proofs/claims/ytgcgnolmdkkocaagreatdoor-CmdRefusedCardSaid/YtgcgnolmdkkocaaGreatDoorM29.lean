/- A part of the proofs. -/
import Derived.Test.YtgcgnolmdkkocaaGreatDoorM28
set_option maxRecDepth 1000000
set_option maxHeartbeats 16000000
open Go.Lib (hid)
open Go.Proofs.Tryz
namespace Go.Proofs.YtgcgnolmdkkocaaGreatDoor
open Go.RowKit Go.Less
section
attribute [local go_sem 9000] sem_shlsv run_c32 run_c64
theorem readNum_any (s : ByteArray) (w : World) (h4 : s.size = 4) : Calls prog 176 #[.string s] w λe w' => e = .returned (.int .i64 (vl s.data.toList)) /\ w' = w := by
 have HL := hid (show s.data.toList.length = 4 from Array.length_toList.trans h4)
 have hsz : s.size = 4 := h4
 clear h4
 go_enter func176, ntmps176
 go_wp2_with fail
 go_loopw [3, 7] (λv i wr => (∃ z : Nat, z <= 4 /\ i = .int .i64 z /\ v = .int .u32 (sv s.data.toList z)) /\ wr = w) (λ_ i _ => 4 - (intOf i).toNat)
 case atStart => exact ⟨⟨0, Nat.zero_le _, rfl, rfl⟩, rfl⟩
 case round =>
  obtain ⟨⟨z, hz, rfl, rfl⟩, rfl⟩ := hrel
  have z0i : (0 : Int) <= (z : Int) := by omega
  by_cases hz4 : z < 4
  ·have hz4i : (z : Int) < 4 := by omega
   have hzs : z < s.size := by omega
   have hor := or_sv s.data.toList z hz4 s[z] (by rw [HL.out]; exact hz4) (b_at s hzs)
   go_wp2_with fail
   go_roundw
   case rel => exact ⟨⟨z + 1, by omega, by go_num, by first | rfl | rw [hor]⟩, by first | rfl | trivial⟩
   case measure => simp [intOf]; omega
  ·obtain rfl : z = 4 := by omega
   have h0 : 0 <= sv s.data.toList 4 := vl_lo _
   have h1 := sv_top HL.out
   have HV := hid (show sv s.data.toList 4 = vl s.data.toList by unfold sv; rw [List.take_of_length_le (by rw [HL.out]; exact Nat.le_refl _)])
   generalize sv s.data.toList 4 = V at *
   go_wp2_with fail
   go_ret
   rw [<- HV.out]
   exact ⟨rfl, rfl⟩
end
attribute [local go_sem 9000] sem_eql sem_neq
def num4 (s : ByteArray) (j : Nat) : Int := vl (s.extract (j * 4) (j * 4 + 4)).data.toList
def szC (s : ByteArray) : Nat := (s.data.toList.getD 20 0).toNat
def restC (s : ByteArray) : ByteArray := s.extract 21 s.size
theorem ext_size (s : ByteArray) {a b : Nat} (h : a <= b) (hb : b <= s.size) : (s.extract a b).size = b - a := by rw [ByteArray.size_extract]; omega
def cmdOf (kd : Int) (s : ByteArray) : Fs.Cmd := ⟨kd, num4 s 0, num4 s 1, num4 s 2, num4 s 3, num4 s 4, (restC s).extract 0 (szC s), (restC s).extract (szC s) (restC s).size⟩
def readC (kd : Int) (s : ByteArray) : Option Fs.Cmd := if s.size < 21 then none else if (restC s).size < szC s then none else some (cmdOf kd s)
def cz : Fs.Cmd := ⟨0, 0, 0, 0, 0, 0, ⟨#[]⟩, ⟨#[]⟩⟩
theorem readC_any (kd : Int) (s : ByteArray) (w : World) (hs : s.size <= 1000000) :
  Calls prog 107 #[.int .i64 kd, .string s] w λe w' => e = .returned (.tuple #[.agg (ccs ((readC kd s).getD cz)), .bool (readC kd s).isSome]) /\ Below w.heap.size w w' := by
 have HB := hid (show Bxs w [(w.heap.size, zcc, 80)] (w.alloc (.cells zcc 80)) from Bxs.one w _ _)
 unfold readC
 by_cases h21 : s.size < 21
 ·rw [if_pos h21]
  have h21i : (s.size : Int) < 21 := by omega
  go_enter func107, ntmps107
  go_wp2_with (first | (refine store_bx HB.out 0 rfl 80 _ _ rfl rfl zcc rfl rfl (by kernel_rfl) rfl rfl (by decide) (by decide) ?_; intro w9 hS hK9 hbS hsS; have HBS := hid hS; clear hS hK9 hbS hsS) | fail)
  refine bodyPost_ret_by (results_cmd2 rfl _ _ w.heap.size _ _ _ _ _ _ _ _ rfl (HBS.out.obj 0 rfl)) rfl ?_
  exact ⟨rfl, HBS.out.below⟩
 rw [if_neg h21]
 have h21i : ¬ (s.size : Int) < 21 := by omega
 have h21g : 21 <= s.size := by omega
 clear HB
 have HB := hid (show Bxs w [(w.heap.size, zcc, 80), (w.heap.size + 1, zns, 180)] ((w.alloc (.cells zcc 80)).alloc (.cells zns 180)) from Bxs.two w _ _ _ _)
 have HN0 := hid (λW => (show Calls prog 176 #[.string (s.extract 0 4)] W (λe w' => e = .returned (.int .i64 (num4 s 0)) /\ w' = W) from readNum_any (s.extract 0 4) W (by rw [ext_size s (by omega) (by omega)])))
 have HN1 := hid (λW => (show Calls prog 176 #[.string (s.extract 4 8)] W (λe w' => e = .returned (.int .i64 (num4 s 1)) /\ w' = W) from readNum_any (s.extract 4 8) W (by rw [ext_size s (by omega) (by omega)])))
 have HN2 := hid (λW => (show Calls prog 176 #[.string (s.extract 8 12)] W (λe w' => e = .returned (.int .i64 (num4 s 2)) /\ w' = W) from readNum_any (s.extract 8 12) W (by rw [ext_size s (by omega) (by omega)])))
 have HN3 := hid (λW => (show Calls prog 176 #[.string (s.extract 12 16)] W (λe w' => e = .returned (.int .i64 (num4 s 3)) /\ w' = W) from readNum_any (s.extract 12 16) W (by rw [ext_size s (by omega) (by omega)])))
 have HN4 := hid (λW => (show Calls prog 176 #[.string (s.extract 16 20)] W (λe w' => e = .returned (.int .i64 (num4 s 4)) /\ w' = W) from readNum_any (s.extract 16 20) W (by rw [ext_size s (by omega) (by omega)])))
 have HRz := hid (show (restC s).size = s.size - 21 from ext_size s (by omega) (Nat.le_refl _))
 have h20 : 20 < s.size := by omega
 have HSz := hid (show s[20].toNat = szC s from by unfold szC; rw [b_at s h20])
 unfold cmdOf
 generalize num4 s 0 = z0 at *
 generalize num4 s 1 = z1 at *
 generalize num4 s 2 = z2 at *
 generalize num4 s 3 = z3 at *
 generalize num4 s 4 = z4 at *
 obtain ⟨R, hR⟩ : ∃ R, (if (restC s).size < szC s then none else some (⟨kd, z0, z1, z2, z3, z4, (restC s).extract 0 (szC s), (restC s).extract (szC s) (restC s).size⟩ : Fs.Cmd)) = R := ⟨_, rfl⟩
 rw [hR]
 have HR := hid hR
 clear h21 hR
 go_enter func107, ntmps107
 go_wp2_with fail
 generalize (w.alloc (.cells #[.int .i64 0, .int .i64 0, .int .i64 0, .int .i64 0, .int .i64 0, .int .i64 0, .string ⟨#[]⟩, .string ⟨#[]⟩] 80)).alloc (.cells #[.int .i64 0, .int .i64 0, .int .i64 0, .int .i64 0, .int .i64 0] 180) = W0 at HB |-
 go_loopw [7, 15] (λ_ x15 wr => (x15 = .int .i64 0 /\ Bxs w [(w.heap.size, zcc, 80), (w.heap.size + 1, #[.int .i64 0, .int .i64 0, .int .i64 0, .int .i64 0, .int .i64 0], 180)] wr) \/ (x15 = .int .i64 1 /\ Bxs w [(w.heap.size, zcc, 80), (w.heap.size + 1, #[.int .i64 z0, .int .i64 0, .int .i64 0, .int .i64 0, .int .i64 0], 180)] wr) \/ (x15 = .int .i64 2 /\ Bxs w [(w.heap.size, zcc, 80), (w.heap.size + 1, #[.int .i64 z0, .int .i64 z1, .int .i64 0, .int .i64 0, .int .i64 0], 180)] wr) \/ (x15 = .int .i64 3 /\ Bxs w [(w.heap.size, zcc, 80), (w.heap.size + 1, #[.int .i64 z0, .int .i64 z1, .int .i64 z2, .int .i64 0, .int .i64 0], 180)] wr) \/ (x15 = .int .i64 4 /\ Bxs w [(w.heap.size, zcc, 80), (w.heap.size + 1, #[.int .i64 z0, .int .i64 z1, .int .i64 z2, .int .i64 z3, .int .i64 0], 180)] wr) \/ (x15 = .int .i64 5 /\ Bxs w [(w.heap.size, zcc, 80), (w.heap.size + 1, #[.int .i64 z0, .int .i64 z1, .int .i64 z2, .int .i64 z3, .int .i64 z4], 180)] wr)) (λ_ x15 _ => 5 - (intOf x15).toNat)
 case atStart => exact .inl ⟨rfl, HB.out⟩
 case round =>
  clear HB
  rcases hrel with ⟨rfl, hB⟩ | ⟨rfl, hB⟩ | ⟨rfl, hB⟩ | ⟨rfl, hB⟩ | ⟨rfl, hB⟩ | ⟨rfl, hB⟩
  ·have HB := hid hB
   clear hB
   have hx := HB.out.c5 1 rfl
   have fz : wr.frozen? ⟨w.heap.size + 1, 0, none⟩ = false := HB.out.free 1 rfl 0
   have HB2 := hid (show Bxs w [(w.heap.size, zcc, 80), (w.heap.size + 1, #[.int .i64 z0, .int .i64 0, .int .i64 0, .int .i64 0, .int .i64 0], 180)] (wr.setCell ⟨w.heap.size + 1, 0, none⟩ (.int .i64 z0)) from HB.out.put 1 rfl 0 (.int .i64 z0))
   have hle : 4 <= s.size := by omega
   have hlei : (4 : Int) <= (s.size : Int) := by omega
   go_wp2_with fail
   refine (HN0.out _).mono ?_
   rintro e w4 ⟨rfl, rfl⟩
   dsimp only
   go_wp2_with fail
   go_roundw
   case rel => exact .inr (.inl ⟨by go_num, HB2.out⟩)
   case measure => simp [intOf]
  ·have HB := hid hB
   clear hB
   have hx := HB.out.c5 1 rfl
   have fz : wr.frozen? ⟨w.heap.size + 1, 1, none⟩ = false := HB.out.free 1 rfl 1
   have HB2 := hid (show Bxs w [(w.heap.size, zcc, 80), (w.heap.size + 1, #[.int .i64 z0, .int .i64 z1, .int .i64 0, .int .i64 0, .int .i64 0], 180)] (wr.setCell ⟨w.heap.size + 1, 1, none⟩ (.int .i64 z1)) from HB.out.put 1 rfl 1 (.int .i64 z1))
   have hle : 8 <= s.size := by omega
   have hlei : (8 : Int) <= (s.size : Int) := by omega
   go_wp2_with fail
   refine (HN1.out _).mono ?_
   rintro e w4 ⟨rfl, rfl⟩
   dsimp only
   go_wp2_with fail
   go_roundw
   case rel => exact .inr (.inr (.inl ⟨by go_num, HB2.out⟩))
   case measure => simp [intOf]
  ·have HB := hid hB
   clear hB
   have hx := HB.out.c5 1 rfl
   have fz : wr.frozen? ⟨w.heap.size + 1, 2, none⟩ = false := HB.out.free 1 rfl 2
   have HB2 := hid (show Bxs w [(w.heap.size, zcc, 80), (w.heap.size + 1, #[.int .i64 z0, .int .i64 z1, .int .i64 z2, .int .i64 0, .int .i64 0], 180)] (wr.setCell ⟨w.heap.size + 1, 2, none⟩ (.int .i64 z2)) from HB.out.put 1 rfl 2 (.int .i64 z2))
   have hle : 12 <= s.size := by omega
   have hlei : (12 : Int) <= (s.size : Int) := by omega
   go_wp2_with fail
   refine (HN2.out _).mono ?_
   rintro e w4 ⟨rfl, rfl⟩
   dsimp only
   go_wp2_with fail
   go_roundw
   case rel => exact .inr (.inr (.inr (.inl ⟨by go_num, HB2.out⟩)))
   case measure => simp [intOf]
  ·have HB := hid hB
   clear hB
   have hx := HB.out.c5 1 rfl
   have fz : wr.frozen? ⟨w.heap.size + 1, 3, none⟩ = false := HB.out.free 1 rfl 3
   have HB2 := hid (show Bxs w [(w.heap.size, zcc, 80), (w.heap.size + 1, #[.int .i64 z0, .int .i64 z1, .int .i64 z2, .int .i64 z3, .int .i64 0], 180)] (wr.setCell ⟨w.heap.size + 1, 3, none⟩ (.int .i64 z3)) from HB.out.put 1 rfl 3 (.int .i64 z3))
   have hle : 16 <= s.size := by omega
   have hlei : (16 : Int) <= (s.size : Int) := by omega
   go_wp2_with fail
   refine (HN3.out _).mono ?_
   rintro e w4 ⟨rfl, rfl⟩
   dsimp only
   go_wp2_with fail
   go_roundw
   case rel => exact .inr (.inr (.inr (.inr (.inl ⟨by go_num, HB2.out⟩))))
   case measure => simp [intOf]
  ·have HB := hid hB
   clear hB
   have hx := HB.out.c5 1 rfl
   have fz : wr.frozen? ⟨w.heap.size + 1, 4, none⟩ = false := HB.out.free 1 rfl 4
   have HB2 := hid (show Bxs w [(w.heap.size, zcc, 80), (w.heap.size + 1, #[.int .i64 z0, .int .i64 z1, .int .i64 z2, .int .i64 z3, .int .i64 z4], 180)] (wr.setCell ⟨w.heap.size + 1, 4, none⟩ (.int .i64 z4)) from HB.out.put 1 rfl 4 (.int .i64 z4))
   have hle : 20 <= s.size := by omega
   have hlei : (20 : Int) <= (s.size : Int) := by omega
   go_wp2_with fail
   refine (HN4.out _).mono ?_
   rintro e w4 ⟨rfl, rfl⟩
   dsimp only
   go_wp2_with fail
   go_roundw
   case rel => exact .inr (.inr (.inr (.inr (.inr (⟨by go_num, HB2.out⟩)))))
   case measure => simp [intOf]
  ·have HB := hid hB
   clear hB
   have h20i : (20 : Int) < (s.size : Int) := by omega
   have h21gi : (21 : Int) <= (s.size : Int) := by omega
   go_wp2_with fail
   go_quiet (fail)
   have hw : wrap64 ((s[20].toNat : Nat) : Int) = ((szC s : Nat) : Int) := by
    have h1 := s[20].toNat_lt
    rw [IntWalk.wrap64_in _ (by omega), HSz.out]
   rw [hw, show s.extract 21 s.size = restC s from rfl]
   have HB := hid (HB.out.kept (bdn (Below.refl wr.heap.size wr) nq))
   generalize wr.drewN nq = W2 at HB |-
   clear hw HSz h21gi
   by_cases hlt : (restC s).size < szC s
   ·have HF := hid hlt
    have hlti : ((restC s).size : Int) < (szC s : Int) := by omega
    clear hlt HRz
    go_wp2_with (first | (refine store_bx HB.out 0 rfl 80 _ _ rfl rfl zcc rfl rfl (by kernel_rfl) rfl rfl (by decide) (by decide) ?_; intro w9 hS hK9 hbS hsS; have HBS := hid hS; clear hS hK9 hbS hsS) | fail)
    refine bodyPost_ret_by (results_cmd2 rfl _ _ w.heap.size _ _ _ _ _ _ _ _ rfl (HBS.out.obj 0 rfl)) rfl ?_
    exact ⟨by rw [<- HR.out, if_pos HF.out]; rfl, HBS.out.below⟩
   ·have HF := hid hlt
    have hlti : ¬ ((restC s).size : Int) < (szC s : Int) := by omega
    have hle : (szC s : Int) <= ((restC s).size : Int) := by omega
    have hle0 : (0 : Int) <= (szC s : Int) := by omega
    have hlen : szC s <= (restC s).size := by omega
    have hx := HB.out.c5 1 rfl
    have HOf := hid (λW => ofNumbers_any kd z0 z1 z2 z3 z4 W)
    clear hlt HRz
    go_wp2_with fail
    refine (HOf.out W2).mono ?_
    rintro e w3 ⟨rfl, hb⟩
    have HBk := hid (HB.out.kept hb)
    clear hb hx HB
    have HB := hid (HBk.out.more #[.int .i64 kd, .int .i64 z0, .int .i64 z1, .int .i64 z2, .int .i64 z3, .int .i64 z4, .string ⟨#[]⟩, .string ⟨#[]⟩] 80 rfl)
    dsimp only
    go_wp2_with fail
    go_region_law (fail)
    all_goals
     have HB := hid (HBk.out.more #[.int .i64 kd, .int .i64 z0, .int .i64 z1, .int .i64 z2, .int .i64 z3, .int .i64 z4, .string ((restC s).extract 0 (szC s)), .string ((restC s).extract (szC s) (restC s).size)] 80 rfl)
     have HB := hid (HB.out.kept (Below.refl _ _).drew)
     have hx := HB.out.c8 2 rfl
     go_wp2_with (first | (refine store_bx HB.out 0 rfl 80 _ _ rfl rfl #[.int .i64 kd, .int .i64 z0, .int .i64 z1, .int .i64 z2, .int .i64 z3, .int .i64 z4, .string ((restC s).extract 0 (szC s)), .string ((restC s).extract (szC s) (restC s).size)] rfl rfl (by kernel_rfl) rfl rfl (by decide) (by decide) ?_; intro w9 hS hK9 hbS hsS; have HBS := hid hS; clear hS hK9 hbS hsS) | fail)
     refine bodyPost_ret_by (results_cmd2 rfl _ _ w.heap.size _ _ _ _ _ _ _ _ rfl (HBS.out.obj 0 rfl)) rfl ?_
     exact ⟨by rw [<- HR.out, if_neg HF.out]; rfl, HBS.out.below⟩
end Go.Proofs.YtgcgnolmdkkocaaGreatDoor
namespace Go.Proofs.YtgcgnolmdkkocaaGreatDoor
open Go.RowKit Go.Less
attribute [local go_sem 9000] sem_eql sem_neq
def parseC (kd : Int) (s : ByteArray) : Fs.Cmd × Int := match readC kd s with
 | none => (cz, 2)
 | some c => if rightC c = true then (c, 0) else (cz, 2)
theorem readC_kind {kd : Int} {s : ByteArray} {c : Fs.Cmd} (h : readC kd s = some c) : c.kind = kd /\ c.name.size <= s.size /\ c.data.size <= s.size := by
 unfold readC at h
 split at h
 ·cases h
 ·split at h
  ·cases h
  ·injection h with h
   subst h
   refine ⟨rfl, ?_, ?_⟩
   ·show ((restC s).extract 0 (szC s)).size <= _
    unfold restC
    rw [ByteArray.size_extract, ByteArray.size_extract]; omega
   ·show ((restC s).extract (szC s) (restC s).size).size <= _
    unfold restC
    rw [ByteArray.size_extract, ByteArray.size_extract]; omega
theorem parseC_any (kd : Int) (s : ByteArray) (w : World) (hs : s.size <= 1000000) (hT : Tn w) :
  Calls prog 42 #[.int .i64 kd, .string s] w λe w' => e = .returned (.tuple #[.agg (ccs (parseC kd s).1), .int .i64 (parseC kd s).2]) /\ Below w.heap.size w w' := by
 have HB := hid (show Bxs w [(w.heap.size, zcc, 80)] (w.alloc (.cells zcc 80)) from Bxs.one w _ _)
 have HRd := hid (λW => readC_any kd s W hs)
 unfold parseC
 cases hr : readC kd s with
 | none =>
  rw [hr] at HRd
  dsimp only [Option.getD_none, Option.isSome_none] at HRd
  unfold cz at HRd
  clear hr hT
  go_enter func42, ntmps42
  go_wp2_with fail
  generalize w.alloc (.cells #[.int .i64 0, .int .i64 0, .int .i64 0, .int .i64 0, .int .i64 0, .int .i64 0, .string ⟨#[]⟩, .string ⟨#[]⟩] 80) = W0 at HB |-
  refine (HRd.out W0).mono ?_
  rintro e w1 ⟨rfl, hb⟩
  have HB := hid ((HB.out.kept hb).more #[.int .i64 0, .int .i64 0, .int .i64 0, .int .i64 0, .int .i64 0, .int .i64 0, .string ⟨#[]⟩, .string ⟨#[]⟩] 80 rfl)
  clear hb
  dsimp only
  go_wp2_with (first | (refine store_bx HB.out 0 rfl 80 _ _ rfl rfl zcc rfl rfl (by kernel_rfl) rfl rfl (by decide) (by decide) ?_; intro w9 hS hK9 hbS hsS; have HBS := hid hS; clear hS hK9 hbS hsS) | fail)
  refine bodyPost_ret_by (results_cmd2 rfl _ _ w.heap.size _ _ _ _ _ _ _ _ rfl (HBS.out.obj 0 rfl)) rfl ?_
  exact ⟨rfl, HBS.out.below⟩
 | some c =>
  obtain ⟨hkd, hn, hd⟩ := readC_kind hr
  rw [hr] at HRd
  dsimp only [Option.getD_some, Option.isSome_some] at HRd
  obtain ⟨kd2, z0, z1, z2, z3, z4, nm, da⟩ := c
  obtain rfl : kd2 = kd := hkd
  dsimp only at hn hd |-
  have HRi := hid (λW (hb : Below w.heap.size w W) => rightC_any kd2 z0 z1 z2 z3 z4 nm da W (hT.below hb))
  have HCn := hid (λW => clone_any nm W (by omega))
  have HCd := hid (λW => clone_any da W (by omega))
  clear hr hT hn hd
  cases hri : rightC ⟨kd2, z0, z1, z2, z3, z4, nm, da⟩ with
  | false =>
   rw [hri] at HRi
   rw [if_neg (by simp)]
   clear hri
   go_enter func42, ntmps42
   go_wp2_with fail
   generalize w.alloc (.cells #[.int .i64 0, .int .i64 0, .int .i64 0, .int .i64 0, .int .i64 0, .int .i64 0, .string ⟨#[]⟩, .string ⟨#[]⟩] 80) = W0 at HB |-
   refine (HRd.out W0).mono ?_
   rintro e w1 ⟨rfl, hb⟩
   have HB := hid ((HB.out.kept hb).more #[.int .i64 kd2, .int .i64 z0, .int .i64 z1, .int .i64 z2, .int .i64 z3, .int .i64 z4, .string nm, .string da] 80 rfl)
   clear hb
   dsimp only
   go_wp2_with fail
   refine (HRi.out _ HB.out.below).mono ?_
   rintro e w2 ⟨rfl, hb⟩
   have HB := hid (HB.out.kept hb)
   clear hb
   dsimp only
   go_wp2_with (first | (refine store_bx HB.out 0 rfl 80 _ _ rfl rfl zcc rfl rfl (by kernel_rfl) rfl rfl (by decide) (by decide) ?_; intro w9 hS hK9 hbS hsS; have HBS := hid hS; clear hS hK9 hbS hsS) | fail)
   refine bodyPost_ret_by (results_cmd2 rfl _ _ w.heap.size _ _ _ _ _ _ _ _ rfl (HBS.out.obj 0 rfl)) rfl ?_
   exact ⟨rfl, HBS.out.below⟩
  | true =>
   rw [hri] at HRi
   rw [if_pos rfl]
   clear hri
   go_enter func42, ntmps42
   go_wp2_with fail
   generalize w.alloc (.cells #[.int .i64 0, .int .i64 0, .int .i64 0, .int .i64 0, .int .i64 0, .int .i64 0, .string ⟨#[]⟩, .string ⟨#[]⟩] 80) = W0 at HB |-
   refine (HRd.out W0).mono ?_
   rintro e w1 ⟨rfl, hb⟩
   have HB := hid ((HB.out.kept hb).more #[.int .i64 kd2, .int .i64 z0, .int .i64 z1, .int .i64 z2, .int .i64 z3, .int .i64 z4, .string nm, .string da] 80 rfl)
   clear hb
   dsimp only
   go_wp2_with fail
   refine (HRi.out _ HB.out.below).mono ?_
   rintro e w2 ⟨rfl, hb⟩
   have HB := hid (HB.out.kept hb)
   clear hb
   dsimp only
   have HSx := hid (show ∀ W, Below w2.heap.size w2 W -> (W.cell? ⟨w1.heap.size, 6, none⟩ = some (.string nm) /\ W.cell? ⟨w1.heap.size, 7, none⟩ = some (.string da) /\ W.frozen? ⟨w1.heap.size, 6, none⟩ = false /\ W.frozen? ⟨w1.heap.size, 7, none⟩ = false) /\ Bxs w [(w.heap.size, zcc, 80), (w1.heap.size, #[.int .i64 kd2, .int .i64 z0, .int .i64 z1, .int .i64 z2, .int .i64 z3, .int .i64 z4, .string nm, .string da], 80)] W from λW hb => ⟨⟨(HB.out.kept hb).cell 1 rfl 6, (HB.out.kept hb).cell 1 rfl 7, (HB.out.kept hb).free 1 rfl 6, (HB.out.kept hb).free 1 rfl 7⟩, HB.out.kept hb⟩)
   have hBd := (Below.refl w2.heap.size w2).drew
   have hx0 := (HSx.out _ (Below.refl _ _)).1
   go_wp2_with fail
   go_region_law (first
    | (go_simp; (with_reducible refine (HCn.out _).mono ?_); rintro e w5 ⟨rfl, hb5⟩; have hB5 := T8.btrans hb5 (by assumption); have hx5 := (HSx.out _ hB5).1)
    | (go_simp; (with_reducible refine (HCd.out _).mono ?_); rintro e w6 ⟨rfl, hb6⟩; have hB6 := T8.btrans hb6 (by assumption); have hx6 := (HSx.out _ hB6).1))
   all_goals
    first
     | (show Exit.then _ _ Exit.normal _ ((w6.setCell ⟨w1.heap.size, 6, none⟩ (.string nm)).setCell ⟨w1.heap.size, 7, none⟩ (.string da)); have HB9 := hid (show Bxs w [(w.heap.size, zcc, 80), (w1.heap.size, #[.int .i64 kd2, .int .i64 z0, .int .i64 z1, .int .i64 z2, .int .i64 z3, .int .i64 z4, .string nm, .string da], 80)] ((w6.setCell ⟨w1.heap.size, 6, none⟩ (.string nm)).setCell ⟨w1.heap.size, 7, none⟩ (.string da)) from ((HSx.out _ hB6).2.put 1 rfl 6 (.string nm)).put 1 rfl 7 (.string da)); generalize (w6.setCell ⟨w1.heap.size, 6, none⟩ (.string nm)).setCell ⟨w1.heap.size, 7, none⟩ (.string da) = W9 at HB9 |-)
     | (show Exit.then _ _ Exit.normal _ ((w5.setCell ⟨w1.heap.size, 6, none⟩ (.string nm)).setCell ⟨w1.heap.size, 7, none⟩ (.string da)); have HB9 := hid (show Bxs w [(w.heap.size, zcc, 80), (w1.heap.size, #[.int .i64 kd2, .int .i64 z0, .int .i64 z1, .int .i64 z2, .int .i64 z3, .int .i64 z4, .string nm, .string da], 80)] ((w5.setCell ⟨w1.heap.size, 6, none⟩ (.string nm)).setCell ⟨w1.heap.size, 7, none⟩ (.string da)) from ((HSx.out _ hB5).2.put 1 rfl 6 (.string nm)).put 1 rfl 7 (.string da)); generalize (w5.setCell ⟨w1.heap.size, 6, none⟩ (.string nm)).setCell ⟨w1.heap.size, 7, none⟩ (.string da) = W9 at HB9 |-)
    clear hB5 hB6 hb5 hb6 hx5 hx6 hx0
    have hx := HB9.out.c8 1 rfl
    go_wp2_with (first | (refine store_bx HB9.out 0 rfl 80 _ _ rfl rfl #[.int .i64 kd2, .int .i64 z0, .int .i64 z1, .int .i64 z2, .int .i64 z3, .int .i64 z4, .string nm, .string da] rfl rfl (by kernel_rfl) rfl rfl (by decide) (by decide) ?_; intro w9 hS hK9 hbS hsS; have HBS := hid hS; clear hS hK9 hbS hsS) | fail)
    refine bodyPost_ret_by (results_cmd2 rfl _ _ w.heap.size _ _ _ _ _ _ _ _ rfl (HBS.out.obj 0 rfl)) rfl ?_
    exact ⟨rfl, HBS.out.below⟩
end Go.Proofs.YtgcgnolmdkkocaaGreatDoor
namespace Go.Proofs.YtgcgnolmdkkocaaGreatDoor
open Go.RowKit Go.Less Go.Maps
open T8 (pv Dg)
attribute [local go_sem 9000] sem_eql sem_neq
def IsMax (M : Int) (l : List Int) : Prop := M ∈ l /\ ∀ x ∈ l, x <= M
theorem max_more {M : Int} {l : List Int} {k : Nat} {z : Int} (h : IsMax M (l.take k)) (hz : l[k]? = some z) : IsMax (max M z) (l.take (k + 1)) := by
 have hk : k < l.length := by
  rcases Nat.lt_or_ge k l.length with h | h
  ·exact h
  ·rw [List.getElem?_eq_none h] at hz; cases hz
 have e : l.take (k + 1) = l.take k ++ [z] := by
  rw [List.take_succ_eq_append_getElem hk]
  rw [List.getElem?_eq_getElem hk] at hz
  injection hz with hz
  rw [hz]
 rw [e]
 refine ⟨?_, λx hx => ?_⟩
 ·rcases Int.le_total M z with h1 | h1
  ·rw [Int.max_eq_right h1]; exact List.mem_append_right _ (List.mem_singleton.2 rfl)
  ·rw [Int.max_eq_left h1]; exact List.mem_append_left _ h.1
 ·rcases List.mem_append.1 hx with hx | hx
  ·exact Int.le_trans (h.2 x hx) (Int.le_max_left _ _)
  ·rw [List.mem_singleton.1 hx]; exact Int.le_max_right _ _
theorem max_any (a : Option Addr) (n cap : Nat) (l : List Int) (w : World) (hI : Ints a n l w) (hn : n <= 1000000) (h1 : 1 <= n) : Calls prog 72 #[.slice a n cap] w λe w' => (∃ M, e = .returned (.int .i64 M) /\ IsMax M l) /\ w' = w := by
 have hni : (n : Int) <= 1000000 := by omega
 have h1i : ¬ (n : Int) < 1 := by omega
 have h0i : (0 : Int) < (n : Int) := by omega
 have HI := hid hI
 have hcount := hI.count
 obtain ⟨z, hz⟩ : ∃ z, l[0]? = some z := ⟨_, List.getElem?_eq_getElem (by omega)⟩
 obtain ⟨b, off, rfl, hc⟩ := hI.cell 0 h1
 rw [show l.getD 0 0 = z by rw [List.getD, hz]; rfl] at hc
 have HL := hid hcount
 have HZ := hid (show IsMax z (l.take 1) by
  have e : l.take 1 = [z] := by
   cases l with
   | nil => cases hz
   | cons y l => injection hz with hz; rw [hz]; rfl
  rw [e]; exact ⟨List.mem_singleton.2 rfl, λx hx => by rw [List.mem_singleton.1 hx]; exact Int.le_refl _⟩)
 rw [Nat.add_zero] at hc
 clear hI hcount hz
 go_enter func72, ntmps72
 go_wp2_with fail
 clear hc
 go_loopw [3, 4] (λx3 x4 wr => ∃ (k : Nat) (M : Int), 1 <= k /\ k <= n /\ x4 = .int .i64 k /\ x3 = .int .i64 M /\ Hid (IsMax M (l.take k)) /\ wr = w) (λ_ x4 _ => n - (intOf x4).toNat)
 case atStart => exact ⟨1, z, Nat.le_refl _, h1, rfl, rfl, HZ.out, rfl⟩
 case round =>
  clear HZ
  obtain ⟨k, M, hk1, hk, rfl, rfl, HM, rfl⟩ := hrel
  by_cases hlt : k < n
  ·have k0 : (k : Int) < (n : Int) := by omega
   have hk0 : (0 : Int) <= (k : Int) := by omega
   obtain ⟨b1, o1, e1, hc⟩ := HI.out.cell k hlt
   injection e1 with e1
   injection e1 with e1 e2 _
   subst e1 e2
   obtain ⟨z2, hz2⟩ : ∃ z, l[k]? = some z := ⟨_, List.getElem?_eq_getElem (by rw [<- HL.out]; exact hlt)⟩
   rw [show l.getD k 0 = z2 by rw [List.getD, hz2]; rfl] at hc
   have HM2 := hid (max_more HM.out hz2)
   clear hz2
   go_wp2_with fail
   go_roundw
   case rel => exact ⟨k + 1, _, by omega, by omega, by go_num, by first | rfl | trivial, HM2.out, by first | rfl | trivial⟩
   case measure => simp [intOf]; omega
  ·obtain rfl : k = n := by omega
   have hge : ¬ ((k : Int) < (k : Int)) := by omega
   go_wp2_with fail
   go_ret
   exact ⟨⟨M, rfl, by have := HM.out; rwa [HL.out, List.take_length] at this⟩, rfl⟩
def OfR (l : List Fs.Item) (next : Int) (w : World) (e : Ending) (w' : World) : Prop :=
 (soundL l = true /\ next <= 2147483647 /\ (∀ y ∈ l, y.1 < next) /\ ∃ g, e = .returned (.tuple #[ptg g, .int .i64 0]) /\ Fo w' g ⟨l, next⟩ /\ w.heap.size <= g /\ Below w.heap.size w w') \/
 (¬ (soundL l = true /\ next <= 2147483647 /\ ∀ y ∈ l, y.1 < next) /\ e = .returned (.tuple #[.pointer none, .int .i64 2]) /\ Below w.heap.size w w')
theorem of_bad (m : Option Nat) (next : Int) (w : World) (h : Calls prog 18 #[pv m] w (SoundR false w)) : Calls prog 17 #[pv m, .int .i64 next] w λe w' => e = .returned (.tuple #[.pointer none, .int .i64 2]) /\ Below w.heap.size w w' := by
 have HS := hid h
 clear h
 unfold SoundR at HS
 go_enter func17, ntmps17
 go_wp2_with fail
 refine HS.out.mono ?_
 rintro e w1 ⟨rfl, hb⟩
 dsimp only
 go_wp2_with fail
 go_ret2
 exact ⟨rfl, hb⟩
theorem sound_some {l : List Fs.Item} (h : soundL l = true) : 1 <= l.length := by
 cases l with
 | nil => exact absurd h (by decide)
 | cons y l => rw [List.length_cons]; omega
theorem of_any (m : Option Nat) (l : List Fs.Item) (next : Int) (w : World) (h : Sv w m l) : Calls prog 17 #[pv m, .int .i64 next] w (OfR l next w) := by
 have hS := pSound_any m l w h
 cases hs : soundL l with
 | false =>
  rw [hs] at hS
  exact (of_bad m next w hS).mono λe w' h => .inr ⟨λh2 => (by rw [hs] at h2; cases h2.1), h.1, h.2⟩
 | true =>
  rw [hs] at hS
  have HSo := hid hS
  have HSv := hid (λW (hb : Below w.heap.size w W) => h.below hb)
  have HIn := hid (λW (hb : Below w.heap.size w W) => inos_any m next l W (h.below hb))
  have hlen : 1 <= (inosL l).length := by unfold inosL; rw [List.length_map]; exact sound_some hs
  have hl : (inosL l).length <= 1000 := by unfold inosL; rw [List.length_map]; exact h.ok.few
  have HMem := hid (show (∀ M ∈ inosL l, ∃ y ∈ l, y.1 = M) /\ ∀ y ∈ l, y.1 ∈ inosL l from ⟨λM hM => List.mem_map.1 hM, λy hy => List.mem_map.2 ⟨y, hy, rfl⟩⟩)
  generalize inosL l = L at *
  have HSs := hid hs
  clear hS h hs
  unfold SoundR at HSo
  by_cases hn : 2147483647 < next
  ·have HF := hid (show ¬ (soundL l = true /\ next <= 2147483647 /\ ∀ y ∈ l, y.1 < next) from λh => by omega)
   go_enter func17, ntmps17
   go_wp2_with fail
   refine HSo.out.mono ?_
   rintro e w1 ⟨rfl, hb⟩
   have HB := hid hb
   clear hb
   dsimp only
   go_wp2_with fail
   go_ret2
   exact .inr ⟨HF.out, rfl, HB.out.trans ((below_one _ _).mono HB.out.size)⟩
  ·have hn2 : ¬ (next > 2147483647) := hn
   go_enter func17, ntmps17
   go_wp2_with fail
   refine HSo.out.mono ?_
   rintro e w1 ⟨rfl, hb⟩
   have hb1 := below_one w1 (.cells #[pv m, .int .i64 next] 139)
   have HB := hid (hb.trans (hb1.mono hb.size))
   have c0 : (w1.alloc (.cells #[pv m, .int .i64 next] 139)).cell? ⟨w1.heap.size, 0, none⟩ = some (pv m) := World.cell?_alloc_new _ _ _ _
   have c1 : (w1.alloc (.cells #[pv m, .int .i64 next] 139)).cell? ⟨w1.heap.size, 1, none⟩ = some (.int .i64 next) := World.cell?_alloc_new _ _ _ _
   have HC := hid (show (w1.alloc (.cells #[pv m, .int .i64 next] 139)).heap[w1.heap.size]? = some (.cells #[pv m, .int .i64 next] 139 (0, 0)) from heap_alloc_new _ _)
   clear hb hb1
   dsimp only
   go_wp2_with fail
   refine (HIn.out _ HB.out).mono ?_
   rintro e w2 ⟨ao, cap, rfl, hI, hb⟩
   have HB := hid (HB.out.trans (hb.mono HB.out.size))
   have HC := hid ((hb.block _ (lt_of_obj HC.out)).trans HC.out)
   have HMx := hid (max_any ao L.length cap L w2 (irow_ints hI rfl) (by omega) hlen)
   clear hb hI c0 c1
   dsimp only
   go_wp2_with fail
   refine HMx.out.mono ?_
   rintro e w3 ⟨⟨M, rfl, hM⟩, rfl⟩
   dsimp only
   by_cases hle : next <= M
   ·have HF := hid (show ¬ (soundL l = true /\ next <= 2147483647 /\ ∀ y ∈ l, y.1 < next) from λh => by
     obtain ⟨y, hy, e⟩ := HMem.out.1 M hM.1
     have := h.2.2 y hy
     omega)
    clear hM
    go_wp2_with fail
    go_ret2
    exact .inr ⟨HF.out, rfl, HB.out⟩
   ·have HF := hid (show ∀ y ∈ l, y.1 < next from λy hy => by
     have := hM.2 y.1 (HMem.out.2 y hy)
     omega)
    clear hM
    have c0 : w3.cell? ⟨w1.heap.size, 0, none⟩ = some (pv m) := cell_obj HC.out 0
    have c1 : w3.cell? ⟨w1.heap.size, 1, none⟩ = some (.int .i64 next) := cell_obj HC.out 1
    go_wp2_with fail
    go_ret2
    exact .inl ⟨HSs.out, by omega, HF.out, _, rfl, ⟨m, heap_alloc_new _ _, (HSv.out _ HB.out).below (below_one _ _)⟩, HB.out.size, HB.out.trans ((below_one _ _).mono HB.out.size)⟩
end Go.Proofs.YtgcgnolmdkkocaaGreatDoor
namespace Go.Proofs.YtgcgnolmdkkocaaGreatDoor
open Go.RowKit Go.Less Go.Maps
open T8 (pv Dg)
attribute [local go_sem 9000] sem_eql sem_neq eql_cmd80
theorem cEnd_any {g p : Nat} {f : Fs.FS} {l : List Fs.Item} {w : World} (h : Stg w g p f l) (next : Int) : Calls prog 56 #[ptg g, .int .i64 next] w (OfR l next w) := by
 obtain ⟨⟨m, hg, hS⟩, _⟩ := h
 have g1 : w.cell? ⟨g, 1, none⟩ = some (pv m) := cell_obj hg 1
 have HO := hid (of_any m l next w hS)
 clear hg hS
 go_enter func56, ntmps56
 go_wp2_with fail
 refine HO.out.mono ?_
 intro e w1 hx
 unfold OfR at hx |-
 rcases hx with ⟨h1, h2, h3, g2, rfl, h4, h5, h6⟩ | ⟨h1, rfl, h2⟩
 ·have HX := hid (And.intro h1 (And.intro h2 (And.intro h3 (And.intro h4 (And.intro h5 h6)))))
  clear h1 h2 h3 h4 h5 h6
  dsimp only
  go_wp2_with fail
  go_ret2
  exact .inl ⟨HX.out.1, HX.out.2.1, HX.out.2.2.1, g2, rfl, HX.out.2.2.2.1, HX.out.2.2.2.2.1, HX.out.2.2.2.2.2⟩
 ·have HX := hid (And.intro h1 h2)
  clear h1 h2
  dsimp only
  go_wp2_with fail
  go_ret2
  exact .inr ⟨HX.out.1, rfl, HX.out.2⟩
def awC1 : Fs.Cmd := ⟨1, 2, 0, 0, 0, 420, ⟨#[]⟩, ⟨#[]⟩⟩
def awC2 : Fs.Cmd := ⟨4, 2, 1, 0, 0, 0, nA, ⟨#[]⟩⟩
def awC3 : Fs.Cmd := ⟨8, 2, 0, 0, 0, 0, ⟨#[]⟩, ⟨#[104, 105]⟩⟩
def awC4 : Fs.Cmd := ⟨5, 0, 1, 0, 0, 0, nA, ⟨#[]⟩⟩
def awC5 : Fs.Cmd := ⟨0, 0, 0, 0, 0, 0, ⟨#[]⟩, ⟨#[]⟩⟩
def awL1 : List Fs.Item := [(1, awD []), (2, awN ⟨#[]⟩)]
def awL2 : List Fs.Item := [(1, awD [(nA, 2)]), (2, awN ⟨#[]⟩)]
def awL3 : List Fs.Item := [(1, awD [(nA, 2)]), (2, awN ⟨#[104, 105]⟩)]
theorem ic1 : Fs.doC env Fs.new.l Fs.new.l awC1 = (awL1, 0) := Prod.ext (by decide +kernel) (by decide +kernel)
theorem ic2 : Fs.doC env Fs.new.l awL1 awC2 = (awL2, 0) := Prod.ext (by decide +kernel) (by decide +kernel)
theorem ic3 : Fs.doC env Fs.new.l awL2 awC3 = (awL3, 0) := Prod.ext (by decide +kernel) (by decide +kernel)
theorem ic5 : Fs.doC env Fs.new.l awL3 awC5 = (awL3, 16) := Prod.ext (by decide +kernel) (by decide +kernel)
def awO8 : Fs.Op := ⟨8, tA, ⟨#[]⟩, 0, 0, 0, ⟨#[104, 105]⟩⟩
theorem ic8 : Fs.doE env aw1 awO8 = (⟨awL3, 3⟩, 0) := fs_eq (by decide +kernel) (by decide +kernel) (by decide +kernel)
theorem g8 : Fs.Good env ⟨awL3, 3⟩ := good_step g1 (by decide) ic8
theorem icR : readR awL3 tA 0 9 = ([104, 105], 0) := by decide +kernel
def tP : ByteArray := ⟨#[0, 0, 0, 0, 0, 0, 0, 1, 0, 0, 0, 0, 0, 0, 0, 0, 0, 0, 0, 0, 1, 97]⟩
theorem icP : printC awC4 = (tP, 0) := Prod.ext (by decide +kernel) (by decide +kernel)
theorem cmd_ext {x y : Fs.Cmd} (h : sameC x y = true) : x = y := sameC_iff.1 h
theorem icQ : parseC 5 tP = (awC4, 0) := Prod.ext (cmd_ext (by decide +kernel)) (by decide +kernel)
theorem okc_new : Okc Fs.new.l := Okc.of (Fs.new_good (E := env)).toHalf (by decide)
theorem cmdok_small {q : Fs.Cmd} (h1 : 0 <= q.ino /\ q.ino <= 100) (h2 : 0 <= q.src /\ q.src <= 100) (h3 : q.off <= 100) (h4 : q.from_ <= 100) (h5 : q.n <= 1000) (h6 : q.name.size <= 100) (h7 : q.data.size <= 100) : CmdOk q :=
 ⟨by omega, by omega, by omega, by omega, by omega, by omega, by omega, by omega, by omega⟩
theorem didC {g p : Nat} {f : Fs.FS} {l l2 : List Fs.Item} {c : Int} {w : World} (h : Stg w g p f l) {q : Fs.Cmd} (hq : CmdOk q) (he : Fs.doC env f.l l q = (l2, c)) : Calls prog 53 #[ptg g, .agg (ccs q)] w λe w' => e = .returned (.int .i64 c) /\ Stg w' g p f l2 /\ Turn g w w' := by
 have := cDo_any h q hq
 rw [he] at this
 exact this
theorem awake13_any (w : World) (hD : Dg w) (hT : Tn w) : Calls prog 39 #[] w λe w' => e = .returned (.bool true) /\ Below w.heap.size w w' := by
 have HNew := hid (qNew_any w hD)
 have HNs := hid (λq W (h : Fo W q Fs.new) => cNew_any h okc_new)
 have D1 := hid (λg p W (h : Stg W g p Fs.new Fs.new.l) => didC h (q := awC1) (cmdok_small (by decide) (by decide) (by decide) (by decide) (by decide) (by decide) (by decide)) ic1)
 have D2 := hid (λg p W (h : Stg W g p Fs.new awL1) => didC h (q := awC2) (cmdok_small (by decide) (by decide) (by decide) (by decide) (by decide) (by decide) (by decide)) ic2)
 have D3 := hid (λg p W (h : Stg W g p Fs.new awL2) => didC h (q := awC3) (cmdok_small (by decide) (by decide) (by decide) (by decide) (by decide) (by decide) (by decide)) ic3)
 have D5 := hid (λg p W (h : Stg W g p Fs.new awL3) => didC h (q := awC5) (cmdok_small (by decide) (by decide) (by decide) (by decide) (by decide) (by decide) (by decide)) ic5)
 have FE := hid (λg p W (h : Stg W g p Fs.new awL3) => (show Calls prog 56 #[ptg g, .int .i64 3] W (λe w' => ∃ g2, e = .returned (.tuple #[ptg g2, .int .i64 0]) /\ Fo w' g2 ⟨awL3, 3⟩ /\ Below W.heap.size W w') from (cEnd_any h 3).mono λe w' hx => by
  unfold OfR at hx
  rcases hx with ⟨_, _, _, g2, e1, h4, _, h6⟩ | ⟨h1, _, _⟩
  ·exact ⟨g2, e1, h4, h6⟩
  ·exact absurd ⟨sound_good g8, by decide, by decide⟩ h1))
 have FR := hid (λg W (h : Fo W g ⟨awL3, 3⟩) => (show Calls prog 62 #[ptg g, .string tA, .int .i64 0, .int .i64 9] W (λe w' => e = .returned (.tuple #[.string ⟨#[104, 105]⟩, .int .i64 0]) /\ Below W.heap.size W w') from (show Calls prog 62 #[ptg g, .string tA, .int .i64 0, .int .i64 9] W (T6.Both ([104, 105], 0) W) from icR ▸ qRead_any h g8.toHalf tA 0 9 (by decide) (by decide) (by decide))))
 have FP := hid (λW (h : Tn W) => (show Calls prog 40 #[.agg #[.int .i64 5, .int .i64 0, .int .i64 1, .int .i64 0, .int .i64 0, .int .i64 0, .string nA, .string ⟨#[]⟩]] W (λe w' => e = .returned (.tuple #[.string tP, .int .i64 0]) /\ Below W.heap.size W w') from by
  have := printC_any 5 0 1 0 0 0 nA ⟨#[]⟩ W h
  rw [show (⟨5, 0, 1, 0, 0, 0, nA, ⟨#[]⟩⟩ : Fs.Cmd) = awC4 from rfl, icP] at this
  exact this))
 have FQ := hid (λW (h : Tn W) => (show Calls prog 42 #[.int .i64 5, .string tP] W (λe w' => e = .returned (.tuple #[.agg (ccs awC4), .int .i64 0]) /\ Below W.heap.size W w') from by
  have := parseC_any 5 tP W (by decide) h
  rw [icQ] at this
  exact this))
 have FI := hid (λg W (h : Fo W g Fs.new) => (show Calls prog 63 #[ptg g] W (λe w' => ∃ ao cap, e = .returned (.slice ao 1 cap) /\ Below W.heap.size W w') from (qInos_any h).mono λe w' hx => by
  obtain ⟨ao, cap, e1, _, hb⟩ := hx
  exact ⟨ao, cap, e1, hb⟩))
 have HTn := hid (λW (hb : Below w.heap.size w W) => hT.below hb)
 have HSame := hid (show sameC awC4 awC4 = true from sameC_iff.2 rfl)
 clear hD hT
 unfold awC1 at D1
 unfold awC2 at D2
 unfold awC3 at D3
 unfold awC5 at D5
 unfold awC4 at FQ HSame
 go_enter func39, ntmps39
 go_wp2_with fail
 refine HNew.out.mono ?_
 rintro e w1 ⟨gf, rfl, hF, hg, hb⟩
 have HGf := hid hg
 have HF := hid hF
 have HB := hid hb
 clear hF hg hb HNew
 dsimp only
 go_wp2_with fail
 refine (HNs.out gf w1 HF.out).mono ?_
 rintro e w2 ⟨gs, p, rfl, hS, hg, -, hb⟩
 have HGs := hid (Nat.le_trans HB.out.size hg)
 have HS := hid hS
 have HB := hid (HB.out.trans (hb.mono HB.out.size))
 have HF := hid (HF.out.below hb)
 clear hS hg hb HNs
 dsimp only
 go_wp2_with fail
 refine (D1.out gs p _ HS.out).mono ?_
 rintro e w3 ⟨rfl, hS, hT⟩
 have HB := hid (turn_below HB.out hT HGs.out)
 have HF := hid (HS.out.fo hT HF.out)
 have HS := hid hS
 clear hS hT D1
 dsimp only
 go_wp2_with fail
 refine (D2.out gs p _ HS.out).mono ?_
 rintro e w4 ⟨rfl, hS, hT⟩
 have HB := hid (turn_below HB.out hT HGs.out)
 have HF := hid (HS.out.fo hT HF.out)
 have HS := hid hS
 clear hS hT D2
 dsimp only
 go_wp2_with fail
 refine (D3.out gs p _ HS.out).mono ?_
 rintro e w5 ⟨rfl, hS, hT⟩
 have HB := hid (turn_below HB.out hT HGs.out)
 have HF := hid (HS.out.fo hT HF.out)
 have HS := hid hS
 clear hS hT D3
 dsimp only
 go_wp2_with fail
 refine (FE.out gs p _ HS.out).mono ?_
 rintro e w6 ⟨g2, rfl, hF2, hb⟩
 have HF2 := hid hF2
 have HB := hid (HB.out.trans (hb.mono HB.out.size))
 have HF := hid (HF.out.below hb)
 have HS := hid (HS.out.below hb)
 clear hF2 hb FE
 dsimp only
 go_wp2_with fail
 refine (FR.out g2 _ HF2.out).mono ?_
 rintro e w7 ⟨rfl, hb⟩
 have HB := hid (HB.out.trans (hb.mono HB.out.size))
 have HF := hid (HF.out.below hb)
 have HS := hid (HS.out.below hb)
 clear hb FR HF2
 dsimp only
 go_wp2_with fail
 refine (FP.out _ (HTn.out _ HB.out)).mono ?_
 rintro e w8 ⟨rfl, hb⟩
 have HB := hid (HB.out.trans (hb.mono HB.out.size))
 have HF := hid (HF.out.below hb)
 have HS := hid (HS.out.below hb)
 clear hb FP
 dsimp only
 go_wp2_with fail
 refine (FQ.out _ (HTn.out _ HB.out)).mono ?_
 rintro e w9 ⟨rfl, hb⟩
 have hbx := below_one w9 (.cells #[.int .i64 5, .int .i64 0, .int .i64 1, .int .i64 0, .int .i64 0, .int .i64 0, .string nA, .string ⟨#[]⟩] 80)
 have hb2 := hb.trans (hbx.mono hb.size)
 have HB := hid (HB.out.trans (hb2.mono HB.out.size))
 have HF := hid (HF.out.below hb2)
 have HS := hid (HS.out.below hb2)
 clear hb hbx hb2 FQ
 have hsame := HSame.out
 have htp : tP.size = 22 := rfl
 dsimp only
 go_wp2_with fail
 refine (FI.out gf _ HF.out).mono ?_
 rintro e w10 ⟨ao, cap, rfl, hb⟩
 have HB := hid (HB.out.trans (hb.mono HB.out.size))
 have HS := hid (HS.out.below hb)
 clear hb FI
 dsimp only
 go_wp2_with fail
 refine (D5.out gs p _ HS.out).mono ?_
 rintro e w11 ⟨rfl, hS, hT⟩
 have HB := hid (turn_below HB.out hT HGs.out)
 clear hS hT D5
 dsimp only
 go_wp2_with fail
 go_ret
 exact ⟨rfl, HB.out⟩
end Go.Proofs.YtgcgnolmdkkocaaGreatDoor
namespace Go.Proofs.YtgcgnolmdkkocaaGreatDoor
open Go.RowKit Go.Less Go.Maps
attribute [local go_sem 9000] sem_eql sem_neq
def cmd0 : Fs.Cmd := ⟨0, 0, 0, 0, 0, 0, ⟨#[]⟩, ⟨#[]⟩⟩
structure Cpr (a : Option Addr) (n : Nat) (l : List Fs.Cmd) (w : World) : Prop where
 count : n = l.length
 cell : ∀ i, i < n -> ∃ b off, a = some ⟨b, off, none⟩ /\ ∀ j v, (ccs (l.getD i cmd0))[j]? = some v -> w.cell? ⟨b, off + i * 8 + j, none⟩ = some v
 ok : ∀ o ∈ l, CmdOk o
theorem Cpr.below {a : Option Addr} {n : Nat} {l : List Fs.Cmd} {w w' : World} (h : Cpr a n l w) (hb : Below w.heap.size w w') : Cpr a n l w' :=
 ⟨h.count, λi hi => by
  obtain ⟨b, off, ha, hc⟩ := h.cell i hi
  exact ⟨b, off, ha, λj v hv => (hb.cell (p := ⟨b, off + i * 8 + j, none⟩) (block_lt_of_cell (hc j v hv))).trans (hc j v hv)⟩, h.ok⟩
theorem cmd_cells {q : Fs.Cmd} {w : World} {b p : Nat} (h : ∀ j v, (ccs q)[j]? = some v -> w.cell? ⟨b, p + j, none⟩ = some v) : w.cell? ⟨b, p, none⟩ = some (.int .i64 q.kind) /\ w.cell? ⟨b, p + 1, none⟩ = some (.int .i64 q.ino) /\ w.cell? ⟨b, p + 2, none⟩ = some (.int .i64 q.src) /\ w.cell? ⟨b, p + 3, none⟩ = some (.int .i64 q.off) /\ w.cell? ⟨b, p + 4, none⟩ = some (.int .i64 q.from_) /\ w.cell? ⟨b, p + 5, none⟩ = some (.int .i64 q.n) /\ w.cell? ⟨b, p + 6, none⟩ = some (.string q.name) /\ w.cell? ⟨b, p + 7, none⟩ = some (.string q.data) :=
 ⟨h 0 _ rfl, h 1 _ rfl, h 2 _ rfl, h 3 _ rfl, h 4 _ rfl, h 5 _ rfl, h 6 _ rfl, h 7 _ rfl⟩
theorem cmds_at {q : Fs.Cmd} {w W : World} {b p : Nat} (h : ∀ j v, (ccs q)[j]? = some v -> w.cell? ⟨b, p + j, none⟩ = some v) (hb : Below w.heap.size w W) (j : Nat) (v : Value) (hv : (ccs q)[j]? = some v) : W.cell? ⟨b, p + j, none⟩ = some v := (hb.cell (p := ⟨b, p + j, none⟩) (block_lt_of_cell (h j v hv))).trans (h j v hv)
def cwt (q : Fs.Cmd) : Nat := 1 + (min q.name.size 10000 + min q.data.size 10000) / 100
def csum (l : List Fs.Cmd) : Nat := (l.map cwt).sum
def few13 (l : List Fs.Cmd) : Bool := decide (csum l <= 150)
theorem csum_more {l : List Fs.Cmd} {k : Nat} (h : k < l.length) : csum (l.take (k + 1)) = csum (l.take k) + cwt (l.getD k cmd0) := by
 unfold csum
 rw [List.take_succ_eq_append_getElem h, List.map_append, List.sum_append, List.getD, List.getElem?_eq_getElem h]
 simp
theorem csum_le (l : List Fs.Cmd) (k : Nat) : csum (l.take k) <= csum l := by
 conv => rhs; rw [<- List.take_append_drop k l]
 unfold csum
 rw [List.map_append, List.sum_append]
 omega
theorem csum_len (l : List Fs.Cmd) : l.length <= csum l := by
 unfold csum
 induction l with
 | nil => exact Nat.zero_le _
 | cons o l ih => rw [List.map_cons, List.sum_cons, List.length_cons]; have h1 : 1 <= cwt o := Nat.le_add_right _ _; omega
theorem few13_len {l : List Fs.Cmd} (h : few13 l = true) : l.length <= 150 := by
 unfold few13 at h
 have := csum_len l
 have h : csum l <= 150 := by simpa using h
 omega
theorem few13_any (a : Option Addr) (n cap : Nat) (l : List Fs.Cmd) (w : World) (hS : Cpr a n l w) (hn : n <= 140737488355328) :
  Calls prog 47 #[.slice a n cap] w λe w' => e = .returned (.bool (few13 l)) /\ Below w.heap.size w w' := by
 have hni : (n : Int) <= 140737488355328 := by omega
 have HS := hid (λW (hb : Below w.heap.size w W) => hS.below hb)
 have HN := hid hS.count
 clear hS
 go_enter func47, ntmps47
 go_wp2_with fail
 go_loopw [3, 4] (λx3 x4 wr => ∃ k : Nat, k <= n /\ x4 = .int .i64 k /\ x3 = .int .i64 (csum (l.take k)) /\ csum (l.take k) <= 150 /\ Below w.heap.size w wr) (λ_ x4 _ => n - (intOf x4).toNat)
 case atStart => exact ⟨0, Nat.zero_le _, rfl, rfl, Nat.zero_le _, Below.refl _ _⟩
 case round =>
  obtain ⟨k, hk, rfl, rfl, hf, hB⟩ := hrel
  by_cases hlt : k < n
  ·have k0 : (k : Int) < (n : Int) := by omega
   have hk0 : (0 : Int) <= (k : Int) := by omega
   have hkl : k < l.length := by rw [<- HN.out]; exact hlt
   obtain ⟨b, off, rfl, hc⟩ := (HS.out wr hB).cell k hlt
   have HM := hid (csum_more hkl)
   have HBg := hid (λ(h : ¬ csum (l.take (k + 1)) <= 150) => (show few13 l = false from by unfold few13; rw [decide_eq_false]; have := csum_le l (k + 1); omega))
   have c6 : wr.cell? ⟨b, off + k * 8 + 6, none⟩ = some (.string (l.getD k cmd0).name) := hc 6 _ rfl
   have c7 : wr.cell? ⟨b, off + k * 8 + 7, none⟩ = some (.string (l.getD k cmd0).data) := hc 7 _ rfl
   have HB := hid hB
   clear hc hB
   unfold cwt at HM
   generalize l.getD k cmd0 = o at *
   obtain ⟨okd, o1, o2, o3, o4, o5, ob, od⟩ := o
   dsimp only at c6 c7 HM
   generalize csum (l.take k) = N at *
   obtain ⟨T, hT⟩ : ∃ T, T = (min ob.size 10000 + min od.size 10000) / 100 := ⟨_, rfl⟩
   rw [<- hT] at HM
   have hT3 : T <= 300 := by omega
   have hq1 : IntKind.i64.wrap (min (ob.size : Int) 10000 + min (od.size : Int) 10000) = min (ob.size : Int) 10000 + min (od.size : Int) 10000 := IntWalk.i64_in _ (by omega)
   have hq3 : (min (ob.size : Int) 10000 + min (od.size : Int) 10000).tdiv 100 = (T : Int) := by
    rw [Int.tdiv_eq_ediv_of_nonneg (by omega)]
    omega
   have hq4 : IntKind.i64.wrap (T : Int) = (T : Int) := IntWalk.i64_in _ (by omega)
   have hq5 : IntKind.i64.wrap ((N : Int) + 1) = (N : Int) + 1 := IntWalk.i64_in _ (by omega)
   have hq6 : IntKind.i64.wrap ((N : Int) + 1 + (T : Int)) = (N : Int) + 1 + (T : Int) := IntWalk.i64_in _ (by omega)
   have HV := hid (show (Value.int .i64 ((N : Int) + 1 + (T : Int))) = .int .i64 (csum (l.take (k + 1)) : Nat) by rw [HM.out, show ((N + (1 + T) : Nat) : Int) = (N : Int) + 1 + (T : Int) by omega])
   clear hT
   go_wp2_with fail
   go_region_held3 (λW => W.cell? ⟨b, off + k * 8 + 6, none⟩ = some (.string ob) /\ W.cell? ⟨b, off + k * 8 + 7, none⟩ = some (.string od))
    (first | exact ⟨c6, c7⟩) (fail)
   all_goals
    by_cases h120 : N + (1 + T) <= 150
    ·have hi : ¬ (150 : Int) < (N : Int) + 1 + (T : Int) := by omega
     go_wp2_with fail
     go_roundw
     case rel => exact ⟨k + 1, by omega, by go_num, HV.out, by rw [HM.out]; exact h120, HB.out.drew⟩
     case measure => simp [intOf]; omega
    ·have hi : (150 : Int) < (N : Int) + 1 + (T : Int) := by omega
     have HR := hid (HBg.out (by rw [HM.out]; exact h120))
     go_wp2_with fail
     go_ret
     rw [HR.out]
     exact ⟨rfl, HB.out.drew⟩
  ·obtain rfl : k = n := by omega
   have HB := hid hB
   have HR := hid (show few13 l = true by unfold few13; have h := hf; rw [HN.out, List.take_length] at h; exact decide_eq_true h)
   clear hB
   go_wp2_with fail
   go_ret
   rw [HR.out]
   exact ⟨rfl, HB.out⟩
def doneC (par l : List Fs.Item) (qs : List Fs.Cmd) : List Fs.Item := qs.foldl (λl q => (Fs.doC env par l q).1) l
theorem doneC_more {par l : List Fs.Item} {qs : List Fs.Cmd} {k : Nat} (h : k < qs.length) : doneC par l (qs.take (k + 1)) = (Fs.doC env par (doneC par l (qs.take k)) (qs.getD k cmd0)).1 := by
 unfold doneC
 rw [List.take_succ_eq_append_getElem h, List.foldl_append, List.getD, List.getElem?_eq_getElem h]
 rfl
theorem cmds_ok {qs : List Fs.Cmd} (h : ∀ o ∈ qs, CmdOk o) {k : Nat} (hk : k < qs.length) : CmdOk (qs.getD k cmd0) := h _ (by rw [List.getD, List.getElem?_eq_getElem hk]; exact List.getElem_mem hk)
end Go.Proofs.YtgcgnolmdkkocaaGreatDoor
