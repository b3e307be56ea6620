/- A part of the proofs. -/
import Derived.Test.YthbajmlmjjfgpaaGreatDoorC27
set_option maxRecDepth 1000000
set_option maxHeartbeats 16000000
open Go.Lib (hid)
open Go.Proofs.Tryz
namespace Go.Proofs.YthbajmlmjjfgpaaGreatDoor
open Go.RowKit Go.Less
section
attribute [local go_sem 9000] sem_shlsv run_c32 run_c64
theorem readNum_any (s : ByteArray) (w : World) (h4 : s.size = 4) : Calls prog 93 #[.string s] w λe w' => e = .returned (.int .i64 (vl s.data.toList)) /\ w' = w := by
 have HL := hid (show s.data.toList.length = 4 from Array.length_toList.trans h4)
 have hsz : s.size = 4 := h4
 clear h4
 go_enter func93, ntmps93
 go_wp2_with fail
 go_loopw [3, 7] (λv i wr => (∃ z : Nat, z <= 4 /\ i = .int .i64 z /\ v = .int .u32 (sv s.data.toList z)) /\ wr = w) (λ_ i _ => 4 - (intOf i).toNat)
 case atStart => exact ⟨⟨0, Nat.zero_le _, rfl, rfl⟩, rfl⟩
 case round =>
  obtain ⟨⟨z, hz, rfl, rfl⟩, rfl⟩ := hrel
  have z0i : (0 : Int) <= (z : Int) := by omega
  by_cases hz4 : z < 4
  ·have hz4i : (z : Int) < 4 := by omega
   have hzs : z < s.size := by omega
   have hor := or_sv s.data.toList z hz4 s[z] (by rw [HL.out]; exact hz4) (b_at s hzs)
   go_wp2_with fail
   go_roundw
   case rel => exact ⟨⟨z + 1, by omega, by go_num, by first | rfl | rw [hor]⟩, by first | rfl | trivial⟩
   case measure => simp [intOf]; omega
  ·obtain rfl : z = 4 := by omega
   have h0 : 0 <= sv s.data.toList 4 := vl_lo _
   have h1 := sv_top HL.out
   have HV := hid (show sv s.data.toList 4 = vl s.data.toList by unfold sv; rw [List.take_of_length_le (by rw [HL.out]; exact Nat.le_refl _)])
   generalize sv s.data.toList 4 = V at *
   go_wp2_with fail
   go_ret
   rw [<- HV.out]
   exact ⟨rfl, rfl⟩
end
attribute [local go_sem 9000] sem_eql sem_neq
def num4 (s : ByteArray) (j : Nat) : Int := vl (s.extract (j * 4) (j * 4 + 4)).data.toList
def szC (s : ByteArray) : Nat := (s.data.toList.getD 20 0).toNat
def restC (s : ByteArray) : ByteArray := s.extract 21 s.size
theorem ext_size (s : ByteArray) {a b : Nat} (h : a <= b) (hb : b <= s.size) : (s.extract a b).size = b - a := by rw [ByteArray.size_extract]; omega
def cmdOf (kd : Int) (s : ByteArray) : Fs.Cmd := ⟨kd, num4 s 0, num4 s 1, num4 s 2, num4 s 3, num4 s 4, (restC s).extract 0 (szC s), (restC s).extract (szC s) (restC s).size⟩
def readC (kd : Int) (s : ByteArray) : Option Fs.Cmd := if s.size < 21 then none else if (restC s).size < szC s then none else some (cmdOf kd s)
def cz : Fs.Cmd := ⟨0, 0, 0, 0, 0, 0, ⟨#[]⟩, ⟨#[]⟩⟩
theorem readC_any (kd : Int) (s : ByteArray) (w : World) (hs : s.size <= 1000000) :
  Calls prog 46 #[.int .i64 kd, .string s] w λe w' => e = .returned (.tuple #[.agg (ccs ((readC kd s).getD cz)), .bool (readC kd s).isSome]) /\ Below w.heap.size w w' := by
 have HB := hid (show Bxs w [(w.heap.size, zcc, 23)] (w.alloc (.cells zcc 23)) from Bxs.one w _ _)
 unfold readC
 by_cases h21 : s.size < 21
 ·rw [if_pos h21]
  have h21i : (s.size : Int) < 21 := by omega
  go_enter func46, ntmps46
  go_wp2_with (first | (refine store_bx HB.out 0 rfl 23 _ _ rfl rfl zcc rfl rfl (by kernel_rfl) rfl rfl (by decide) (by decide) ?_; intro w9 hS hK9 hbS hsS; have HBS := hid hS; clear hS hK9 hbS hsS) | fail)
  refine bodyPost_ret_by (results_cmd2 rfl _ _ w.heap.size _ _ _ _ _ _ _ _ rfl (HBS.out.obj 0 rfl)) rfl ?_
  exact ⟨rfl, HBS.out.below⟩
 rw [if_neg h21]
 have h21i : ¬ (s.size : Int) < 21 := by omega
 have h21g : 21 <= s.size := by omega
 clear HB
 have HB := hid (show Bxs w [(w.heap.size, zcc, 23), (w.heap.size + 1, zns, 95)] ((w.alloc (.cells zcc 23)).alloc (.cells zns 95)) from Bxs.two w _ _ _ _)
 have HN0 := hid (λW => (show Calls prog 93 #[.string (s.extract 0 4)] W (λe w' => e = .returned (.int .i64 (num4 s 0)) /\ w' = W) from readNum_any (s.extract 0 4) W (by rw [ext_size s (by omega) (by omega)])))
 have HN1 := hid (λW => (show Calls prog 93 #[.string (s.extract 4 8)] W (λe w' => e = .returned (.int .i64 (num4 s 1)) /\ w' = W) from readNum_any (s.extract 4 8) W (by rw [ext_size s (by omega) (by omega)])))
 have HN2 := hid (λW => (show Calls prog 93 #[.string (s.extract 8 12)] W (λe w' => e = .returned (.int .i64 (num4 s 2)) /\ w' = W) from readNum_any (s.extract 8 12) W (by rw [ext_size s (by omega) (by omega)])))
 have HN3 := hid (λW => (show Calls prog 93 #[.string (s.extract 12 16)] W (λe w' => e = .returned (.int .i64 (num4 s 3)) /\ w' = W) from readNum_any (s.extract 12 16) W (by rw [ext_size s (by omega) (by omega)])))
 have HN4 := hid (λW => (show Calls prog 93 #[.string (s.extract 16 20)] W (λe w' => e = .returned (.int .i64 (num4 s 4)) /\ w' = W) from readNum_any (s.extract 16 20) W (by rw [ext_size s (by omega) (by omega)])))
 have HRz := hid (show (restC s).size = s.size - 21 from ext_size s (by omega) (Nat.le_refl _))
 have h20 : 20 < s.size := by omega
 have HSz := hid (show s[20].toNat = szC s from by unfold szC; rw [b_at s h20])
 unfold cmdOf
 generalize num4 s 0 = z0 at *
 generalize num4 s 1 = z1 at *
 generalize num4 s 2 = z2 at *
 generalize num4 s 3 = z3 at *
 generalize num4 s 4 = z4 at *
 obtain ⟨R, hR⟩ : ∃ R, (if (restC s).size < szC s then none else some (⟨kd, z0, z1, z2, z3, z4, (restC s).extract 0 (szC s), (restC s).extract (szC s) (restC s).size⟩ : Fs.Cmd)) = R := ⟨_, rfl⟩
 rw [hR]
 have HR := hid hR
 clear h21 hR
 go_enter func46, ntmps46
 go_wp2_with fail
 generalize (w.alloc (.cells #[.int .i64 0, .int .i64 0, .int .i64 0, .int .i64 0, .int .i64 0, .int .i64 0, .string ⟨#[]⟩, .string ⟨#[]⟩] 23)).alloc (.cells #[.int .i64 0, .int .i64 0, .int .i64 0, .int .i64 0, .int .i64 0] 95) = W0 at HB |-
 go_loopw [7, 15] (λ_ x15 wr => (x15 = .int .i64 0 /\ Bxs w [(w.heap.size, zcc, 23), (w.heap.size + 1, #[.int .i64 0, .int .i64 0, .int .i64 0, .int .i64 0, .int .i64 0], 95)] wr) \/ (x15 = .int .i64 1 /\ Bxs w [(w.heap.size, zcc, 23), (w.heap.size + 1, #[.int .i64 z0, .int .i64 0, .int .i64 0, .int .i64 0, .int .i64 0], 95)] wr) \/ (x15 = .int .i64 2 /\ Bxs w [(w.heap.size, zcc, 23), (w.heap.size + 1, #[.int .i64 z0, .int .i64 z1, .int .i64 0, .int .i64 0, .int .i64 0], 95)] wr) \/ (x15 = .int .i64 3 /\ Bxs w [(w.heap.size, zcc, 23), (w.heap.size + 1, #[.int .i64 z0, .int .i64 z1, .int .i64 z2, .int .i64 0, .int .i64 0], 95)] wr) \/ (x15 = .int .i64 4 /\ Bxs w [(w.heap.size, zcc, 23), (w.heap.size + 1, #[.int .i64 z0, .int .i64 z1, .int .i64 z2, .int .i64 z3, .int .i64 0], 95)] wr) \/ (x15 = .int .i64 5 /\ Bxs w [(w.heap.size, zcc, 23), (w.heap.size + 1, #[.int .i64 z0, .int .i64 z1, .int .i64 z2, .int .i64 z3, .int .i64 z4], 95)] wr)) (λ_ x15 _ => 5 - (intOf x15).toNat)
 case atStart => exact .inl ⟨rfl, HB.out⟩
 case round =>
  clear HB
  rcases hrel with ⟨rfl, hB⟩ | ⟨rfl, hB⟩ | ⟨rfl, hB⟩ | ⟨rfl, hB⟩ | ⟨rfl, hB⟩ | ⟨rfl, hB⟩
  ·have HB := hid hB
   clear hB
   have hx := HB.out.c5 1 rfl
   have fz : wr.frozen? ⟨w.heap.size + 1, 0, none⟩ = false := HB.out.free 1 rfl 0
   have HB2 := hid (show Bxs w [(w.heap.size, zcc, 23), (w.heap.size + 1, #[.int .i64 z0, .int .i64 0, .int .i64 0, .int .i64 0, .int .i64 0], 95)] (wr.setCell ⟨w.heap.size + 1, 0, none⟩ (.int .i64 z0)) from HB.out.put 1 rfl 0 (.int .i64 z0))
   have hle : 4 <= s.size := by omega
   have hlei : (4 : Int) <= (s.size : Int) := by omega
   go_wp2_with fail
   refine (HN0.out _).mono ?_
   rintro e w4 ⟨rfl, rfl⟩
   dsimp only
   go_wp2_with fail
   go_roundw
   case rel => exact .inr (.inl ⟨by go_num, HB2.out⟩)
   case measure => simp [intOf]
  ·have HB := hid hB
   clear hB
   have hx := HB.out.c5 1 rfl
   have fz : wr.frozen? ⟨w.heap.size + 1, 1, none⟩ = false := HB.out.free 1 rfl 1
   have HB2 := hid (show Bxs w [(w.heap.size, zcc, 23), (w.heap.size + 1, #[.int .i64 z0, .int .i64 z1, .int .i64 0, .int .i64 0, .int .i64 0], 95)] (wr.setCell ⟨w.heap.size + 1, 1, none⟩ (.int .i64 z1)) from HB.out.put 1 rfl 1 (.int .i64 z1))
   have hle : 8 <= s.size := by omega
   have hlei : (8 : Int) <= (s.size : Int) := by omega
   go_wp2_with fail
   refine (HN1.out _).mono ?_
   rintro e w4 ⟨rfl, rfl⟩
   dsimp only
   go_wp2_with fail
   go_roundw
   case rel => exact .inr (.inr (.inl ⟨by go_num, HB2.out⟩))
   case measure => simp [intOf]
  ·have HB := hid hB
   clear hB
   have hx := HB.out.c5 1 rfl
   have fz : wr.frozen? ⟨w.heap.size + 1, 2, none⟩ = false := HB.out.free 1 rfl 2
   have HB2 := hid (show Bxs w [(w.heap.size, zcc, 23), (w.heap.size + 1, #[.int .i64 z0, .int .i64 z1, .int .i64 z2, .int .i64 0, .int .i64 0], 95)] (wr.setCell ⟨w.heap.size + 1, 2, none⟩ (.int .i64 z2)) from HB.out.put 1 rfl 2 (.int .i64 z2))
   have hle : 12 <= s.size := by omega
   have hlei : (12 : Int) <= (s.size : Int) := by omega
   go_wp2_with fail
   refine (HN2.out _).mono ?_
   rintro e w4 ⟨rfl, rfl⟩
   dsimp only
   go_wp2_with fail
   go_roundw
   case rel => exact .inr (.inr (.inr (.inl ⟨by go_num, HB2.out⟩)))
   case measure => simp [intOf]
  ·have HB := hid hB
   clear hB
   have hx := HB.out.c5 1 rfl
   have fz : wr.frozen? ⟨w.heap.size + 1, 3, none⟩ = false := HB.out.free 1 rfl 3
   have HB2 := hid (show Bxs w [(w.heap.size, zcc, 23), (w.heap.size + 1, #[.int .i64 z0, .int .i64 z1, .int .i64 z2, .int .i64 z3, .int .i64 0], 95)] (wr.setCell ⟨w.heap.size + 1, 3, none⟩ (.int .i64 z3)) from HB.out.put 1 rfl 3 (.int .i64 z3))
   have hle : 16 <= s.size := by omega
   have hlei : (16 : Int) <= (s.size : Int) := by omega
   go_wp2_with fail
   refine (HN3.out _).mono ?_
   rintro e w4 ⟨rfl, rfl⟩
   dsimp only
   go_wp2_with fail
   go_roundw
   case rel => exact .inr (.inr (.inr (.inr (.inl ⟨by go_num, HB2.out⟩))))
   case measure => simp [intOf]
  ·have HB := hid hB
   clear hB
   have hx := HB.out.c5 1 rfl
   have fz : wr.frozen? ⟨w.heap.size + 1, 4, none⟩ = false := HB.out.free 1 rfl 4
   have HB2 := hid (show Bxs w [(w.heap.size, zcc, 23), (w.heap.size + 1, #[.int .i64 z0, .int .i64 z1, .int .i64 z2, .int .i64 z3, .int .i64 z4], 95)] (wr.setCell ⟨w.heap.size + 1, 4, none⟩ (.int .i64 z4)) from HB.out.put 1 rfl 4 (.int .i64 z4))
   have hle : 20 <= s.size := by omega
   have hlei : (20 : Int) <= (s.size : Int) := by omega
   go_wp2_with fail
   refine (HN4.out _).mono ?_
   rintro e w4 ⟨rfl, rfl⟩
   dsimp only
   go_wp2_with fail
   go_roundw
   case rel => exact .inr (.inr (.inr (.inr (.inr (⟨by go_num, HB2.out⟩)))))
   case measure => simp [intOf]
  ·have HB := hid hB
   clear hB
   have h20i : (20 : Int) < (s.size : Int) := by omega
   have h21gi : (21 : Int) <= (s.size : Int) := by omega
   go_wp2_with fail
   go_quiet (fail)
   have hw : wrap64 ((s[20].toNat : Nat) : Int) = ((szC s : Nat) : Int) := by
    have h1 := s[20].toNat_lt
    rw [IntWalk.wrap64_in _ (by omega), HSz.out]
   rw [hw, show s.extract 21 s.size = restC s from rfl]
   have HB := hid (HB.out.kept (bdn (Below.refl wr.heap.size wr) nq))
   generalize wr.drewN nq = W2 at HB |-
   clear hw HSz h21gi
   by_cases hlt : (restC s).size < szC s
   ·have HF := hid hlt
    have hlti : ((restC s).size : Int) < (szC s : Int) := by omega
    clear hlt HRz
    go_wp2_with (first | (refine store_bx HB.out 0 rfl 23 _ _ rfl rfl zcc rfl rfl (by kernel_rfl) rfl rfl (by decide) (by decide) ?_; intro w9 hS hK9 hbS hsS; have HBS := hid hS; clear hS hK9 hbS hsS) | fail)
    refine bodyPost_ret_by (results_cmd2 rfl _ _ w.heap.size _ _ _ _ _ _ _ _ rfl (HBS.out.obj 0 rfl)) rfl ?_
    exact ⟨by rw [<- HR.out, if_pos HF.out]; rfl, HBS.out.below⟩
   ·have HF := hid hlt
    have hlti : ¬ ((restC s).size : Int) < (szC s : Int) := by omega
    have hle : (szC s : Int) <= ((restC s).size : Int) := by omega
    have hle0 : (0 : Int) <= (szC s : Int) := by omega
    have hlen : szC s <= (restC s).size := by omega
    have hx := HB.out.c5 1 rfl
    have HOf := hid (λW => ofNumbers_any kd z0 z1 z2 z3 z4 W)
    clear hlt HRz
    go_wp2_with fail
    refine (HOf.out W2).mono ?_
    rintro e w3 ⟨rfl, hb⟩
    have HBk := hid (HB.out.kept hb)
    clear hb hx HB
    have HB := hid (HBk.out.more #[.int .i64 kd, .int .i64 z0, .int .i64 z1, .int .i64 z2, .int .i64 z3, .int .i64 z4, .string ⟨#[]⟩, .string ⟨#[]⟩] 23 rfl)
    dsimp only
    go_wp2_with fail
    go_region_law (fail)
    all_goals
     have HB := hid (HBk.out.more #[.int .i64 kd, .int .i64 z0, .int .i64 z1, .int .i64 z2, .int .i64 z3, .int .i64 z4, .string ((restC s).extract 0 (szC s)), .string ((restC s).extract (szC s) (restC s).size)] 23 rfl)
     have HB := hid (HB.out.kept (Below.refl _ _).drew)
     have hx := HB.out.c8 2 rfl
     go_wp2_with (first | (refine store_bx HB.out 0 rfl 23 _ _ rfl rfl #[.int .i64 kd, .int .i64 z0, .int .i64 z1, .int .i64 z2, .int .i64 z3, .int .i64 z4, .string ((restC s).extract 0 (szC s)), .string ((restC s).extract (szC s) (restC s).size)] rfl rfl (by kernel_rfl) rfl rfl (by decide) (by decide) ?_; intro w9 hS hK9 hbS hsS; have HBS := hid hS; clear hS hK9 hbS hsS) | fail)
     refine bodyPost_ret_by (results_cmd2 rfl _ _ w.heap.size _ _ _ _ _ _ _ _ rfl (HBS.out.obj 0 rfl)) rfl ?_
     exact ⟨by rw [<- HR.out, if_neg HF.out]; rfl, HBS.out.below⟩
end Go.Proofs.YthbajmlmjjfgpaaGreatDoor
namespace Go.Proofs.YthbajmlmjjfgpaaGreatDoor
open Go.RowKit Go.Less
attribute [local go_sem 9000] sem_eql sem_neq
def parseC (kd : Int) (s : ByteArray) : Fs.Cmd × Int := match readC kd s with
 | none => (cz, 2)
 | some c => if rightC c = true then (c, 0) else (cz, 2)
theorem readC_kind {kd : Int} {s : ByteArray} {c : Fs.Cmd} (h : readC kd s = some c) : c.kind = kd /\ c.name.size <= s.size /\ c.data.size <= s.size := by
 unfold readC at h
 split at h
 ·cases h
 ·split at h
  ·cases h
  ·injection h with h
   subst h
   refine ⟨rfl, ?_, ?_⟩
   ·show ((restC s).extract 0 (szC s)).size <= _
    unfold restC
    rw [ByteArray.size_extract, ByteArray.size_extract]; omega
   ·show ((restC s).extract (szC s) (restC s).size).size <= _
    unfold restC
    rw [ByteArray.size_extract, ByteArray.size_extract]; omega
theorem parseC_any (kd : Int) (s : ByteArray) (w : World) (hs : s.size <= 1000000) (hT : Tn w) :
  Calls prog 10 #[.int .i64 kd, .string s] w λe w' => e = .returned (.tuple #[.agg (ccs (parseC kd s).1), .int .i64 (parseC kd s).2]) /\ Below w.heap.size w w' := by
 have HB := hid (show Bxs w [(w.heap.size, zcc, 23)] (w.alloc (.cells zcc 23)) from Bxs.one w _ _)
 have HRd := hid (λW => readC_any kd s W hs)
 unfold parseC
 cases hr : readC kd s with
 | none =>
  rw [hr] at HRd
  dsimp only [Option.getD_none, Option.isSome_none] at HRd
  unfold cz at HRd
  clear hr hT
  go_enter func10, ntmps10
  go_wp2_with fail
  generalize w.alloc (.cells #[.int .i64 0, .int .i64 0, .int .i64 0, .int .i64 0, .int .i64 0, .int .i64 0, .string ⟨#[]⟩, .string ⟨#[]⟩] 23) = W0 at HB |-
  refine (HRd.out W0).mono ?_
  rintro e w1 ⟨rfl, hb⟩
  have HB := hid ((HB.out.kept hb).more #[.int .i64 0, .int .i64 0, .int .i64 0, .int .i64 0, .int .i64 0, .int .i64 0, .string ⟨#[]⟩, .string ⟨#[]⟩] 23 rfl)
  clear hb
  dsimp only
  go_wp2_with (first | (refine store_bx HB.out 0 rfl 23 _ _ rfl rfl zcc rfl rfl (by kernel_rfl) rfl rfl (by decide) (by decide) ?_; intro w9 hS hK9 hbS hsS; have HBS := hid hS; clear hS hK9 hbS hsS) | fail)
  refine bodyPost_ret_by (results_cmd2 rfl _ _ w.heap.size _ _ _ _ _ _ _ _ rfl (HBS.out.obj 0 rfl)) rfl ?_
  exact ⟨rfl, HBS.out.below⟩
 | some c =>
  obtain ⟨hkd, hn, hd⟩ := readC_kind hr
  rw [hr] at HRd
  dsimp only [Option.getD_some, Option.isSome_some] at HRd
  obtain ⟨kd2, z0, z1, z2, z3, z4, nm, da⟩ := c
  obtain rfl : kd2 = kd := hkd
  dsimp only at hn hd |-
  have HRi := hid (λW (hb : Below w.heap.size w W) => rightC_any kd2 z0 z1 z2 z3 z4 nm da W (hT.below hb))
  have HCn := hid (λW => clone_any nm W (by omega))
  have HCd := hid (λW => clone_any da W (by omega))
  clear hr hT hn hd
  cases hri : rightC ⟨kd2, z0, z1, z2, z3, z4, nm, da⟩ with
  | false =>
   rw [hri] at HRi
   rw [if_neg (by simp)]
   clear hri
   go_enter func10, ntmps10
   go_wp2_with fail
   generalize w.alloc (.cells #[.int .i64 0, .int .i64 0, .int .i64 0, .int .i64 0, .int .i64 0, .int .i64 0, .string ⟨#[]⟩, .string ⟨#[]⟩] 23) = W0 at HB |-
   refine (HRd.out W0).mono ?_
   rintro e w1 ⟨rfl, hb⟩
   have HB := hid ((HB.out.kept hb).more #[.int .i64 kd2, .int .i64 z0, .int .i64 z1, .int .i64 z2, .int .i64 z3, .int .i64 z4, .string nm, .string da] 23 rfl)
   clear hb
   dsimp only
   go_wp2_with fail
   refine (HRi.out _ HB.out.below).mono ?_
   rintro e w2 ⟨rfl, hb⟩
   have HB := hid (HB.out.kept hb)
   clear hb
   dsimp only
   go_wp2_with (first | (refine store_bx HB.out 0 rfl 23 _ _ rfl rfl zcc rfl rfl (by kernel_rfl) rfl rfl (by decide) (by decide) ?_; intro w9 hS hK9 hbS hsS; have HBS := hid hS; clear hS hK9 hbS hsS) | fail)
   refine bodyPost_ret_by (results_cmd2 rfl _ _ w.heap.size _ _ _ _ _ _ _ _ rfl (HBS.out.obj 0 rfl)) rfl ?_
   exact ⟨rfl, HBS.out.below⟩
  | true =>
   rw [hri] at HRi
   rw [if_pos rfl]
   clear hri
   go_enter func10, ntmps10
   go_wp2_with fail
   generalize w.alloc (.cells #[.int .i64 0, .int .i64 0, .int .i64 0, .int .i64 0, .int .i64 0, .int .i64 0, .string ⟨#[]⟩, .string ⟨#[]⟩] 23) = W0 at HB |-
   refine (HRd.out W0).mono ?_
   rintro e w1 ⟨rfl, hb⟩
   have HB := hid ((HB.out.kept hb).more #[.int .i64 kd2, .int .i64 z0, .int .i64 z1, .int .i64 z2, .int .i64 z3, .int .i64 z4, .string nm, .string da] 23 rfl)
   clear hb
   dsimp only
   go_wp2_with fail
   refine (HRi.out _ HB.out.below).mono ?_
   rintro e w2 ⟨rfl, hb⟩
   have HB := hid (HB.out.kept hb)
   clear hb
   dsimp only
   have HSx := hid (show ∀ W, Below w2.heap.size w2 W -> (W.cell? ⟨w1.heap.size, 6, none⟩ = some (.string nm) /\ W.cell? ⟨w1.heap.size, 7, none⟩ = some (.string da) /\ W.frozen? ⟨w1.heap.size, 6, none⟩ = false /\ W.frozen? ⟨w1.heap.size, 7, none⟩ = false) /\ Bxs w [(w.heap.size, zcc, 23), (w1.heap.size, #[.int .i64 kd2, .int .i64 z0, .int .i64 z1, .int .i64 z2, .int .i64 z3, .int .i64 z4, .string nm, .string da], 23)] W from λW hb => ⟨⟨(HB.out.kept hb).cell 1 rfl 6, (HB.out.kept hb).cell 1 rfl 7, (HB.out.kept hb).free 1 rfl 6, (HB.out.kept hb).free 1 rfl 7⟩, HB.out.kept hb⟩)
   have hBd := (Below.refl w2.heap.size w2).drew
   have hx0 := (HSx.out _ (Below.refl _ _)).1
   go_wp2_with fail
   go_region_law (first
    | (go_simp; (with_reducible refine (HCn.out _).mono ?_); rintro e w5 ⟨rfl, hb5⟩; have hB5 := T8.btrans hb5 (by assumption); have hx5 := (HSx.out _ hB5).1)
    | (go_simp; (with_reducible refine (HCd.out _).mono ?_); rintro e w6 ⟨rfl, hb6⟩; have hB6 := T8.btrans hb6 (by assumption); have hx6 := (HSx.out _ hB6).1))
   all_goals
    first
     | (show Exit.then _ _ Exit.normal _ ((w6.setCell ⟨w1.heap.size, 6, none⟩ (.string nm)).setCell ⟨w1.heap.size, 7, none⟩ (.string da)); have HB9 := hid (show Bxs w [(w.heap.size, zcc, 23), (w1.heap.size, #[.int .i64 kd2, .int .i64 z0, .int .i64 z1, .int .i64 z2, .int .i64 z3, .int .i64 z4, .string nm, .string da], 23)] ((w6.setCell ⟨w1.heap.size, 6, none⟩ (.string nm)).setCell ⟨w1.heap.size, 7, none⟩ (.string da)) from ((HSx.out _ hB6).2.put 1 rfl 6 (.string nm)).put 1 rfl 7 (.string da)); generalize (w6.setCell ⟨w1.heap.size, 6, none⟩ (.string nm)).setCell ⟨w1.heap.size, 7, none⟩ (.string da) = W9 at HB9 |-)
     | (show Exit.then _ _ Exit.normal _ ((w5.setCell ⟨w1.heap.size, 6, none⟩ (.string nm)).setCell ⟨w1.heap.size, 7, none⟩ (.string da)); have HB9 := hid (show Bxs w [(w.heap.size, zcc, 23), (w1.heap.size, #[.int .i64 kd2, .int .i64 z0, .int .i64 z1, .int .i64 z2, .int .i64 z3, .int .i64 z4, .string nm, .string da], 23)] ((w5.setCell ⟨w1.heap.size, 6, none⟩ (.string nm)).setCell ⟨w1.heap.size, 7, none⟩ (.string da)) from ((HSx.out _ hB5).2.put 1 rfl 6 (.string nm)).put 1 rfl 7 (.string da)); generalize (w5.setCell ⟨w1.heap.size, 6, none⟩ (.string nm)).setCell ⟨w1.heap.size, 7, none⟩ (.string da) = W9 at HB9 |-)
    clear hB5 hB6 hb5 hb6 hx5 hx6 hx0
    have hx := HB9.out.c8 1 rfl
    go_wp2_with (first | (refine store_bx HB9.out 0 rfl 23 _ _ rfl rfl #[.int .i64 kd2, .int .i64 z0, .int .i64 z1, .int .i64 z2, .int .i64 z3, .int .i64 z4, .string nm, .string da] rfl rfl (by kernel_rfl) rfl rfl (by decide) (by decide) ?_; intro w9 hS hK9 hbS hsS; have HBS := hid hS; clear hS hK9 hbS hsS) | fail)
    refine bodyPost_ret_by (results_cmd2 rfl _ _ w.heap.size _ _ _ _ _ _ _ _ rfl (HBS.out.obj 0 rfl)) rfl ?_
    exact ⟨rfl, HBS.out.below⟩
end Go.Proofs.YthbajmlmjjfgpaaGreatDoor
namespace Go.Proofs.YthbajmlmjjfgpaaGreatDoor
open T6
open Go.RowKit Go.Less
attribute [local go_sem 9000] sem_eql sem_neq
theorem run_bytes4 (w : World) (a b c d : UInt8) : (convert 91 9 (.slice (some ⟨w.heap.size, 0, none⟩) 4 4)).run prog (w.alloc (.cells #[.int .u8 (a.toNat : Int), .int .u8 (b.toNat : Int), .int .u8 (c.toNat : Int), .int .u8 (d.toNat : Int)] 5)) = .ok (.string ⟨#[a, b, c, d]⟩) (w.alloc (.cells #[.int .u8 (a.toNat : Int), .int .u8 (b.toNat : Int), .int .u8 (c.toNat : Int), .int .u8 (d.toNat : Int)] 5)) := by
 rw [run_convert_bytes_arg (P := prog) (w.alloc (.cells #[.int .u8 (a.toNat : Int), .int .u8 (b.toNat : Int), .int .u8 (c.toNat : Int), .int .u8 (d.toNat : Int)] 5)) 91 5 underlying91 underlying5 w.heap.size 0 4 4 [(a.toNat : Int), (b.toNat : Int), (c.toNat : Int), (d.toNat : Int)] rfl ?_ 9 underlying9]
 ·simp [strOfNums]
 ·intro i hi
  rw [Nat.zero_add, World.cell?_alloc_new]
  match i, hi with
  | 0, _ => rfl
  | 1, _ => rfl
  | 2, _ => rfl
  | 3, _ => rfl
attribute [local go_sem 9000] run_bytes4
def keyR (n : Nat) : ByteArray := ⟨(num n 4).toArray⟩
theorem rKey_any (n : Nat) (w : World) (_h1 : n <= 1000000000000) :
  Calls prog 33 #[.int .i64 (n : Int)] w (λe w' => e = .returned (.string (keyR n)) /\ Below w.heap.size w w') := by
 have HK := hid (show keyR n = ⟨#[byteOf (n / 16777216), byteOf (n / 65536), byteOf (n / 256), byteOf n]⟩ by unfold keyR; congr 1; simp [num, byteOf])
 have e0 : (n : Int) / 16777216 % 256 = ((byteOf (n / 16777216)).toNat : Int) := by rw [<- byteOf_eq]; omega
 have e1 : (n : Int) / 65536 % 256 = ((byteOf (n / 65536)).toNat : Int) := by rw [<- byteOf_eq]; omega
 have e2 : (n : Int) / 256 % 256 = ((byteOf (n / 256)).toNat : Int) := by rw [<- byteOf_eq]; omega
 have e3 : (n : Int) % 256 = ((byteOf n).toNat : Int) := by rw [<- byteOf_eq]
 generalize hA : byteOf (n / 16777216) = A at e0 HK
 generalize hB : byteOf (n / 65536) = B at e1 HK
 generalize hC : byteOf (n / 256) = C at e2 HK
 generalize hD : byteOf n = D at e3 HK
 clear hA hB hC hD _h1
 generalize (n : Int) = k at *
 go_enter func33, ntmps33
 go_wp2_with fail
 go_ret
 exact ⟨by rw [HK.out]; rfl, (Below.refl w.heap.size w).alloc (Nat.le_refl _) _⟩
end Go.Proofs.YthbajmlmjjfgpaaGreatDoor
namespace Go.Proofs.YthbajmlmjjfgpaaGreatDoor
open T6
open Go.RowKit Go.Less
open T8 (pv Rp Dg Mapped mput_any mdel_any mlen_any mname_any mget_there cn)
attribute [local go_sem 9000] sem_eql sem_neq
def StD (R : List Fs.Item × Int) (g p : Nat) (w : World) (e : Ending) (w' : World) : Prop := e = .returned (.int .i64 R.2) /\ Put1 R.1 g p w w'
theorem put1_same {g p : Nat} {m : Option Nat} {l : List Fs.Item} {w w' : World} (hg : w.heap[g]? = some (.cells #[ptg p, pv m] 117 (0, 0))) (h : Sv w m l) (hb : Below w.heap.size w w') : Put1 l g p w w' := ⟨m, (hb.block _ (lt_of_obj hg)).trans hg, h.below hb, Turn.of_below hb⟩
theorem Put1.from {g p : Nat} {l : List Fs.Item} {w w1 w' : World} (hb : Below w.heap.size w w1) (h : Put1 l g p w1 w') : Put1 l g p w w' := by
 obtain ⟨m, h1, h2, h3⟩ := h
 exact ⟨m, h1, h2, (Turn.of_below hb).trans h3⟩
theorem Put1.below {g p : Nat} {l : List Fs.Item} {w w1 w' : World} (h : Put1 l g p w w1) (hb : Below w1.heap.size w1 w') : Put1 l g p w w' := by
 obtain ⟨m, h1, h2, h3⟩ := h
 exact ⟨m, (hb.block _ (lt_of_obj h1)).trans h1, h2.below hb, h3.below hb⟩
theorem abytes_any (gk : Nat) (lb : Array Value) (eg : ∀ args w, (callFunc gk args).run prog w = .ok (.enter gk args) w) (Gf : ByteArray -> ByteArray × Int) (bb : Nat) (k m : Int) (d t : ByteArray) (l : List En) (hR : Nd.Right less Nm.right ⟨k, m, d, t, l⟩) (a : Option Addr) (cp : Nat) (w : World)
  (hb : w.heap[bb]? = some (.cells #[.func (.func gk) #[] lb] 134 (0, 0))) (hE : Ents a l.length l w)
  (HC0 : ∀ s, s.size <= 4096 -> ∀ W, Below w.heap.size w W -> Calls prog gk (#[.string s] ++ lb) W λe w' => e = .returned (.tuple #[.string (Gf s).1, .int .i64 (Gf s).2]) /\ Below W.heap.size W w') :
  Calls prog 109 #[nv k m d t a l.length cp, .pointer (some ⟨bb, 0, none⟩)] w (Noded (Fs.bytesR Gf ⟨k, m, d, t, l⟩) w) := by
 have HFe := hid (λW => fileError_any k m d t a l.length cp l W)
 have HBc := hid (λW (hw : Below w.heap.size w W) => cell_obj ((hw.block _ (lt_of_obj hb)).trans hb) 0)
 have HB := hid (show Bxs w [(w.heap.size, #[.int .i64 k, .int .i64 m, .string d, .string t, .slice a l.length cp], 67), (w.heap.size + 1, zcs, 67)] ((w.alloc (.cells #[.int .i64 k, .int .i64 m, .string d, .string t, .slice a l.length cp] 67)).alloc (.cells zcs 67)) from Bxs.two w _ _ _ _)
 have HE := hid (λW (hw : Below w.heap.size w W) => hE.below hw)
 have HC := hid (HC0 d (data_size hR))
 clear hb hE hR HC0
 unfold Fs.bytesR
 by_cases hf : Fs.fileE ⟨k, m, d, t, l⟩ ≠ 0
 ·rw [if_pos hf]
  generalize Fs.fileE ⟨k, m, d, t, l⟩ = fe at *
  go_enter func109, ntmps109
  go_wp2_with fail
  generalize (w.alloc (.cells #[.int .i64 k, .int .i64 m, .string d, .string t, .slice a l.length cp] 67)).alloc (.cells #[.int .i64 0, .int .i64 0, .string ⟨#[]⟩, .string ⟨#[]⟩, .slice none 0 0] 67) = W0 at HB |-
  refine (HFe.out W0).mono ?_
  rintro e w1 ⟨rfl, hb1⟩
  have HB := hid (HB.out.kept hb1)
  clear hb1
  dsimp only
  go_wp2_with (first | (refine store_bx HB.out 1 rfl 67 _ _ rfl rfl #[.int .i64 0, .int .i64 0, .string ⟨#[]⟩, .string ⟨#[]⟩, .slice none 0 0] rfl rfl (by kernel_rfl) rfl rfl (by decide) (by decide) ?_; intro w9 hS hK9 hbS hsS; have HBS := hid hS; clear hS hK9 hbS hsS) | fail)
  refine bodyPost_ret_by (results_nd rfl _ _ (w.heap.size + 1) _ _ _ _ _ rfl (HBS.out.obj 1 rfl)) rfl ?_
  exact ⟨none, 0, rfl, ents_nil _, HBS.out.below⟩
 ·rw [if_neg hf]
  have hf0 := Decidable.of_not_not hf
  rw [hf0] at HFe
  clear hf hf0
  obtain ⟨⟨s2, c2⟩, hg⟩ : ∃ r, Gf d = r := ⟨_, rfl⟩
  rw [hg] at HC
  dsimp only at HC |-
  rw [hg]
  clear hg
  go_enter func109, ntmps109
  go_wp2_with fail
  generalize (w.alloc (.cells #[.int .i64 k, .int .i64 m, .string d, .string t, .slice a l.length cp] 67)).alloc (.cells #[.int .i64 0, .int .i64 0, .string ⟨#[]⟩, .string ⟨#[]⟩, .slice none 0 0] 67) = W0 at HB |-
  refine (HFe.out W0).mono ?_
  rintro e w1 ⟨rfl, hb1⟩
  have HB := hid (HB.out.kept hb1)
  clear hb1
  have hc := HBc.out _ HB.out.below
  have hx := HB.out.c5 0 rfl
  dsimp only
  go_wp2_with fail
  clear hc hx
  refine (HC.out w1 HB.out.below).mono ?_
  rintro e w2 ⟨rfl, hb2⟩
  have HB := hid (HB.out.kept hb2)
  clear hb2
  have HBq := HB
  have fz := HB.out.free 0 rfl 2
  have hx := HB.out.c5 0 rfl
  have HB := hid (show Bxs w [(w.heap.size, #[.int .i64 k, .int .i64 m, .string s2, .string t, .slice a l.length cp], 67), (w.heap.size + 1, zcs, 67)] (w2.setCell ⟨w.heap.size, 2, none⟩ (.string s2)) from HBq.out.put 0 rfl 2 (.string s2))
  have HEn := hid ((Kept.cell (HBq.out.obj 0 rfl) (by decide) (by decide) 2 (.string s2)).ents (HBq.out.obj 0 rfl) (noEnt43 _ _ _ _ _ _ _) (HE.out _ HBq.out.below))
  have hy := HB.out.c5 0 rfl
  dsimp only
  go_wp2_with (first | (refine store_bx HB.out 1 rfl 67 _ _ rfl rfl #[.int .i64 k, .int .i64 m, .string s2, .string t, .slice a l.length cp] rfl rfl (by kernel_rfl) rfl rfl (by decide) (by decide) ?_; intro w9 hS hK9 hbS hsS; have HBS := hid hS; have HEn := hid (hK9.ents (HB.out.obj 1 rfl) (noEnt43 _ _ _ _ _ _ _) HEn.out); clear hS hK9 hbS hsS) | fail)
  refine bodyPost_ret_by (results_nd rfl _ _ (w.heap.size + 1) _ _ _ _ _ rfl (HBS.out.obj 1 rfl)) rfl ?_
  exact ⟨a, cp, rfl, HEn.out, HBS.out.below⟩
theorem alter_any (gk : Nat) (lb : Array Value) (eg : ∀ args w, (callFunc gk args).run prog w = .ok (.enter gk args) w) (r : Nd.Node -> Nd.Node × Int) (g p : Nat) (m : Option Nat) (l : List Fs.Item) (i : Int) (w : World) (hg : w.heap[g]? = some (.cells #[ptg p, pv m] 117 (0, 0))) (h : Sv w m l) (hf : l.length <= 900) (hi0 : -9223372036854775808 <= i) (hi1 : i <= 9223372036854775807)
  (HC0 : ∀ x, Nd.Right less Nm.right x -> ∀ a c W, Below w.heap.size w W -> Ents a x.ents.length x.ents W -> Calls prog gk (#[nv x.kind x.mode x.data x.target a x.ents.length c] ++ lb) W (Noded (r x) W))
  (hr : ∀ x, Nd.Right less Nm.right x -> (r x).2 = 0 -> Nd.Right less Nm.right (r x).1) : Calls prog 64 #[ptg g, .int .i64 i, .func (.func gk) #[] lb] w (StD (Fs.alter l i r) g p w) := by
 have HN := hid (sNode_any g p m l i w hg h hi0 hi1)
 have HSame := hid (λW (hb : Below w.heap.size w W) => put1_same hg h hb)
 unfold Node11 Fs.nodeD at HN
 unfold Fs.alter
 cases hn : Fs.node l i with
 | none =>
  rw [hn] at HN
  clear hn HC0 hr h hg
  dsimp only at HN |-
  go_enter func64, ntmps64
  go_wp2_with fail
  refine HN.out.mono ?_
  rintro e w1 ⟨a, c, rfl, -, hb⟩
  have HB := hid (hb.trans ((below_one w1 (.cells #[.int .i64 0, .int .i64 0, .string ⟨#[]⟩, .string ⟨#[]⟩, .slice a 0 c] 67)).mono hb.size))
  clear hb
  dsimp only
  go_wp2_with fail
  go_ret
  exact ⟨rfl, HSame.out _ HB.out⟩
 | some x =>
  rw [hn] at HN
  have hx := h.ok.node hn
  have HC := hid (HC0 x hx.1)
  have hrx := hr x hx.1
  obtain ⟨⟨y, code⟩, hy⟩ : ∃ ry, r x = ry := ⟨_, rfl⟩
  rw [hy] at HC hrx
  dsimp only
  rw [hy]
  clear HC0 hr hy
  by_cases hc : code = 0
  ·subst hc
   rw [if_neg (by simp)]
   have HP := hid (λa c W (hb : Below w.heap.size w W) (hE : Ents a y.ents.length y.ents W) => sPut_any g p m l i y a c W ((hb.block _ (lt_of_obj hg)).trans hg) (h.below hb) hE (hrx rfl) hx.2 hf)
   clear hn hx hrx h hg hf
   obtain ⟨k, mo, d, t, es⟩ := x
   obtain ⟨k2, mo2, d2, t2, es2⟩ := y
   dsimp only [Option.getD_some, Option.isSome_some] at HN HC HP
   go_enter func64, ntmps64
   go_wp2_with fail
   refine HN.out.mono ?_
   rintro e w1 ⟨a, c, rfl, hE, hb⟩
   have HE := hid (hE.below (below_one w1 (.cells #[.int .i64 k, .int .i64 mo, .string d, .string t, .slice a es.length c] 67)))
   have HB := hid (show Bxs w _ (w1.alloc (.cells #[.int .i64 k, .int .i64 mo, .string d, .string t, .slice a es.length c] 67)) from ((Bxs.nil w).kept hb).more _ _ rfl)
   clear hE hb
   dsimp only
   go_wp2_with fail
   refine (HC.out a c _ HB.out.below HE.out).mono ?_
   rintro e w2 ⟨a2, c2, rfl, hE2, hb2⟩
   have HB := hid (HB.out.kept hb2)
   have HE2 := hid hE2
   clear hE2 hb2 HE
   dsimp only
   go_wp2_with (first | (refine store_bx HB.out 0 rfl 67 _ _ rfl rfl #[.int .i64 k2, .int .i64 mo2, .string d2, .string t2, .slice a2 es2.length c2] rfl rfl (by kernel_rfl) rfl rfl (by decide) (by decide) ?_; intro w9 hS hK9 hbS hsS; have HBS := hid hS; have HEn := hid (hK9.ents (HB.out.obj 0 rfl) (noEnt43 _ _ _ _ _ _ _) HE2.out); have hz := HBS.out.c5 0 rfl; clear hS hK9 hbS hsS) | fail)
   refine (HP.out a2 c2 _ HBS.out.below HEn.out).mono ?_
   rintro e w3 ⟨rfl, hP⟩
   have HPx := hid (hP.from HBS.out.below)
   clear hP hz
   dsimp only
   go_wp2_with fail
   go_ret
   exact ⟨rfl, HPx.out⟩
  ·rw [if_pos hc]
   clear hn hx hrx h hg hf
   obtain ⟨k, mo, d, t, es⟩ := x
   obtain ⟨k2, mo2, d2, t2, es2⟩ := y
   dsimp only [Option.getD_some, Option.isSome_some] at HN HC
   go_enter func64, ntmps64
   go_wp2_with fail
   refine HN.out.mono ?_
   rintro e w1 ⟨a, c, rfl, hE, hb⟩
   have HE := hid (hE.below (below_one w1 (.cells #[.int .i64 k, .int .i64 mo, .string d, .string t, .slice a es.length c] 67)))
   have HB := hid (show Bxs w _ (w1.alloc (.cells #[.int .i64 k, .int .i64 mo, .string d, .string t, .slice a es.length c] 67)) from ((Bxs.nil w).kept hb).more _ _ rfl)
   clear hE hb
   dsimp only
   go_wp2_with fail
   refine (HC.out a c _ HB.out.below HE.out).mono ?_
   rintro e w2 ⟨a2, c2, rfl, hE2, hb2⟩
   have HB := hid (HB.out.kept hb2)
   clear hE2 hb2 HE
   dsimp only
   go_wp2_with (first | (refine store_bx HB.out 0 rfl 67 _ _ rfl rfl #[.int .i64 k2, .int .i64 mo2, .string d2, .string t2, .slice a2 es2.length c2] rfl rfl (by kernel_rfl) rfl rfl (by decide) (by decide) ?_; intro w9 hS hK9 hbS hsS; have HBS := hid hS; clear hS hK9 hbS hsS) | fail)
   go_ret
   exact ⟨rfl, HSame.out _ HBS.out.below⟩
theorem alterBytes_any (gk : Nat) (lb : Array Value) (eg : ∀ args w, (callFunc gk args).run prog w = .ok (.enter gk args) w) (Gf : ByteArray -> ByteArray × Int) (g p : Nat) (m : Option Nat) (l : List Fs.Item) (i : Int) (w : World) (hg : w.heap[g]? = some (.cells #[ptg p, pv m] 117 (0, 0))) (h : Sv w m l) (hf : l.length <= 900) (hi0 : -9223372036854775808 <= i) (hi1 : i <= 9223372036854775807)
  (HC0 : ∀ s, s.size <= 4096 -> ∀ W, Below w.heap.size w W -> Calls prog gk (#[.string s] ++ lb) W λe w' => e = .returned (.tuple #[.string (Gf s).1, .int .i64 (Gf s).2]) /\ Below W.heap.size W w')
  (hG : ∀ s, s.size <= 4096 -> (Gf s).2 = 0 -> (Gf s).1.size <= 4096) : Calls prog 69 #[ptg g, .int .i64 i, .func (.func gk) #[] lb] w (StD (Fs.alter l i (Fs.bytesR Gf)) g p w) := by
 have HB := hid (below_one w (.cells #[.func (.func gk) #[] lb] 134))
 have hbx := heap_alloc_new w (.cells #[.func (.func gk) #[] lb] 134)
 have HA := hid (alter_any 109 #[.pointer (some ⟨w.heap.size, 0, none⟩)] (λ_ _ => by kernel_rfl) (Fs.bytesR Gf) g p m l i (w.alloc (.cells #[.func (.func gk) #[] lb] 134)) ((HB.out.block _ (lt_of_obj hg)).trans hg) (h.below HB.out) hf hi0 hi1
  (λx hR a c W hb hE => abytes_any gk lb eg Gf w.heap.size x.kind x.mode x.data x.target x.ents hR a c W ((hb.block _ (lt_of_obj hbx)).trans hbx) hE (λs hs W2 hb2 => HC0 s hs W2 ((HB.out.trans (hb.mono HB.out.size)).trans (hb2.mono (HB.out.trans (hb.mono HB.out.size)).size))))
  (λx hR h0 => bytes_right hG hR h0))
 clear hbx hg h hf HC0 hG
 go_enter func69, ntmps69
 go_wp2_with fail
 refine HA.out.mono ?_
 rintro e w2 ⟨rfl, hP⟩
 have HPx := hid (hP.from HB.out)
 clear hP
 dsimp only
 go_wp2_with fail
 go_ret
 exact ⟨rfl, HPx.out⟩
theorem sCreate_any (g p : Nat) (m : Option Nat) (l : List Fs.Item) (i : Int) (k mo : Int) (t : ByteArray) (w : World) (hg : w.heap[g]? = some (.cells #[ptg p, pv m] 117 (0, 0))) (h : Sv w m l) (hf : l.length <= 900) :
  Calls prog 62 #[ptg g, .int .i64 i, nv k mo ⟨#[]⟩ t none 0 0] w (StD (Fs.createC env l i ⟨k, mo, ⟨#[]⟩, t, []⟩) g p w) := by
 have HSame := hid (λW (hb : Below w.heap.size w W) => put1_same hg h hb)
 have HB := hid (show Bxs w [(w.heap.size, #[.int .i64 k, .int .i64 mo, .string ⟨#[]⟩, .string t, .slice none 0 0], 67)] (w.alloc (.cells #[.int .i64 k, .int .i64 mo, .string ⟨#[]⟩, .string t, .slice none 0 0] 67)) from Bxs.one w _ _)
 have HNd := hid (λW => node_any k mo ⟨#[]⟩ t none 0 0 [] W (ents_nil _) (Nat.zero_le _) (λj hj => absurd hj (Nat.not_lt_zero _)))
 unfold Fs.createC
 by_cases h1 : i <= 1
 ·rw [if_pos (.inl (.inl h1))]
  clear h hg hf
  go_enter func62, ntmps62
  go_wp2_with fail
  go_ret
  exact ⟨rfl, HSame.out _ HB.out.below⟩
 by_cases h2 : 2147483647 < i
 ·rw [if_pos (.inl (.inr h2))]
  clear h hg hf
  go_enter func62, ntmps62
  go_wp2_with fail
  go_ret
  exact ⟨rfl, HSame.out _ HB.out.below⟩
 have hHN := sNode_any g p m l i
 cases hr : Nd.right env.lt env.nm ⟨k, mo, ⟨#[]⟩, t, []⟩ with
 | false =>
  rw [if_pos (.inr rfl)]
  have hq : ndr k mo ⟨#[]⟩ t [] = false := hr
  rw [hq] at HNd
  clear h hg hf hr hq hHN
  go_enter func62, ntmps62
  go_wp2_with fail
  refine (HNd.out _).mono ?_
  rintro e w1 ⟨rfl, hb⟩
  have HB := hid (HB.out.kept hb)
  clear hb
  dsimp only
  go_wp2_with fail
  go_ret
  exact ⟨rfl, HSame.out _ HB.out.below⟩
 | true =>
  have hq : ndr k mo ⟨#[]⟩ t [] = true := hr
  rw [hq] at HNd
  have hR := (ndr_right (l := []) (d := ⟨#[]⟩)).1 hq
  rw [if_neg (by simp; omega)]
  have HN := hid (λW (hb : Below w.heap.size w W) => sNode_any g p m l i W ((hb.block _ (lt_of_obj hg)).trans hg) (h.below hb) (by omega) (by omega))
  unfold Node11 Fs.nodeD at HN
  obtain ⟨x, hx⟩ : ∃ x, (Fs.node l i).getD Nd.none0 = x := ⟨_, rfl⟩
  rw [hx] at HN
  clear hx
  obtain ⟨xk, xm, xd, xt, xe⟩ := x
  cases hth : (Fs.node l i).isSome with
  | true =>
   rw [if_pos rfl]
   rw [hth] at HN
   clear h hg hf hr hq hHN hR hth
   go_enter func62, ntmps62
   go_wp2_with fail
   refine (HNd.out _).mono ?_
   rintro e w1 ⟨rfl, hb⟩
   have HB := hid (HB.out.kept hb)
   clear hb
   dsimp only
   go_wp2_with fail
   refine (HN.out _ HB.out.below).mono ?_
   rintro e w2 ⟨a, c, rfl, -, hb⟩
   have HB := hid ((HB.out.kept hb).more #[.int .i64 xk, .int .i64 xm, .string xd, .string xt, .slice a xe.length c] 67 rfl)
   clear hb
   dsimp only
   go_wp2_with fail
   go_ret
   exact ⟨rfl, HSame.out _ HB.out.below⟩
  | false =>
   rw [if_neg (by simp)]
   rw [hth] at HN
   have HL := hid (λW (hb : Below w.heap.size w W) => qLen_any (h.below hb))
   have HGc := hid (λW (hb : Below w.heap.size w W) => cell_obj ((hb.block _ (lt_of_obj hg)).trans hg) 1)
   have HP := hid (λW (hb : Below w.heap.size w W) => sPut_any g p m l i ⟨k, mo, ⟨#[]⟩, t, []⟩ none 0 W ((hb.block _ (lt_of_obj hg)).trans hg) (h.below hb) (ents_nil _) hR (by omega) hf)
   obtain ⟨n, hn⟩ : ∃ n, l.length = n := ⟨_, rfl⟩
   rw [hn] at HL |-
   by_cases h256 : 256 <= n
   ·rw [if_pos h256]
    have h256i : (256 : Int) <= (n : Int) := by omega
    clear h hg hf hr hq hHN hR hth HP hn h256
    go_enter func62, ntmps62
    go_wp2_with fail
    refine (HNd.out _).mono ?_
    rintro e w1 ⟨rfl, hb⟩
    have HB := hid (HB.out.kept hb)
    clear hb
    dsimp only
    go_wp2_with fail
    refine (HN.out _ HB.out.below).mono ?_
    rintro e w2 ⟨a, c, rfl, -, hb⟩
    have HB := hid ((HB.out.kept hb).more #[.int .i64 xk, .int .i64 xm, .string xd, .string xt, .slice a xe.length c] 67 rfl)
    clear hb
    have c1 := HGc.out _ HB.out.below
    dsimp only
    go_wp2_with fail
    refine (HL.out _ HB.out.below).mono ?_
    rintro e w3 ⟨rfl, hb⟩
    have HB := hid (HB.out.kept hb)
    clear hb c1
    dsimp only
    go_wp2_with fail
    go_ret
    exact ⟨rfl, HSame.out _ HB.out.below⟩
   ·rw [if_neg h256]
    have h256i : ¬ (256 : Int) <= (n : Int) := by omega
    clear h hg hf hr hq hHN hR hth hn h256
    go_enter func62, ntmps62
    go_wp2_with fail
    refine (HNd.out _).mono ?_
    rintro e w1 ⟨rfl, hb⟩
    have HB := hid (HB.out.kept hb)
    clear hb
    dsimp only
    go_wp2_with fail
    refine (HN.out _ HB.out.below).mono ?_
    rintro e w2 ⟨a, c, rfl, -, hb⟩
    have HB := hid ((HB.out.kept hb).more #[.int .i64 xk, .int .i64 xm, .string xd, .string xt, .slice a xe.length c] 67 rfl)
    clear hb
    have c1 := HGc.out _ HB.out.below
    dsimp only
    go_wp2_with fail
    refine (HL.out _ HB.out.below).mono ?_
    rintro e w3 ⟨rfl, hb⟩
    have HB := hid (HB.out.kept hb)
    clear hb c1
    have hx := HB.out.c5 0 rfl
    dsimp only
    go_wp2_with fail
    refine (HP.out _ HB.out.below).mono ?_
    rintro e w4 ⟨rfl, hP⟩
    have HPx := hid (hP.from HB.out.below)
    clear hP hx
    dsimp only
    go_wp2_with fail
    go_ret
    exact ⟨rfl, HPx.out⟩
theorem sRemove_any (g p : Nat) (m : Option Nat) (l : List Fs.Item) (i : Int) (w : World) (hg : w.heap[g]? = some (.cells #[ptg p, pv m] 117 (0, 0))) (h : Sv w m l) (hf : l.length <= 900) (hi0 : -9223372036854775808 <= i) (hi1 : i <= 9223372036854775807) :
  Calls prog 75 #[ptg g, .int .i64 i] w (StD (Fs.removeC l i) g p w) := by
 have HSame := hid (λW (hb : Below w.heap.size w W) => put1_same hg h hb)
 have HN := hid (sNode_any g p m l i w hg h hi0 hi1)
 unfold Node11 Fs.nodeD at HN
 unfold Fs.removeC
 obtain ⟨x, hx⟩ : ∃ x, (Fs.node l i).getD Nd.none0 = x := ⟨_, rfl⟩
 rw [hx] at HN
 clear hx
 obtain ⟨xk, xm, xd, xt, xe⟩ := x
 cases hth : (Fs.node l i).isSome with
 | false =>
  rw [if_pos rfl]
  rw [hth] at HN
  clear h hg hf hth
  go_enter func75, ntmps75
  go_wp2_with fail
  refine HN.out.mono ?_
  rintro e w2 ⟨a, c, rfl, -, hb⟩
  have HB := hid (((Bxs.nil w).kept hb).more #[.int .i64 xk, .int .i64 xm, .string xd, .string xt, .slice a xe.length c] 67 rfl)
  clear hb
  dsimp only
  go_wp2_with fail
  go_ret
  exact ⟨rfl, HSame.out _ HB.out.below⟩
 | true =>
  rw [if_neg (by simp)]
  rw [hth] at HN
  obtain ⟨y, hy⟩ := Option.isSome_iff_exists.1 hth
  have hri := (h.ok.node hy).2
  clear hy
  by_cases h1 : i = 1
  ·subst h1
   rw [if_pos rfl]
   clear h hg hf hth
   go_enter func75, ntmps75
   go_wp2_with fail
   refine HN.out.mono ?_
   rintro e w2 ⟨a, c, rfl, -, hb⟩
   have HB := hid (((Bxs.nil w).kept hb).more #[.int .i64 xk, .int .i64 xm, .string xd, .string xt, .slice a xe.length c] 67 rfl)
   clear hb
   dsimp only
   go_wp2_with fail
   go_ret
   exact ⟨rfl, HSame.out _ HB.out.below⟩
  ·rw [if_neg h1]
   have HK := hid (λW => numText_any i W (by omega) (by omega))
   have HPu := hid (show ∀ W, Below w.heap.size w W -> Calls prog 112 #[pv m, .string (Fs.key i)] W (Mapped (Fs.kv (Fs.dropL l i)) W) from λW hb => by
    rw [<- Fs.del_kv h.ok.ub (by omega)]
    exact mdel_any (h.rp.below hb) (h.dg.below hb) (by rw [Fs.kv_len]; omega) _)
   have HOk := hid (h.ok.drop i)
   have HD := hid h.dg
   have HG := hid hg
   have HGc := hid (λW (hb : Below w.heap.size w W) => cell_obj ((hb.block _ (lt_of_obj hg)).trans hg) 1)
   have HGf := hid (λW (hb : Below w.heap.size w W) => free_obj ((hb.block _ (lt_of_obj hg)).trans hg) 1)
   clear h hg hf hth
   go_enter func75, ntmps75
   go_wp2_with fail
   refine HN.out.mono ?_
   rintro e w2 ⟨a, c, rfl, -, hb⟩
   have HB := hid (((Bxs.nil w).kept hb).more #[.int .i64 xk, .int .i64 xm, .string xd, .string xt, .slice a xe.length c] 67 rfl)
   clear hb
   dsimp only
   go_wp2_with fail
   generalize w2.alloc (.cells #[.int .i64 xk, .int .i64 xm, .string xd, .string xt, .slice a xe.length c] 67) = w1 at HB |-
   have HW1 := hid HB.out.below
   have HSx := hid (show ∀ W, Below w1.heap.size w1 W -> W.cell? ⟨g, 1, none⟩ = some (pv m) /\ W.frozen? ⟨g, 1, none⟩ = false /\ Below w.heap.size w W from λW hb => have hB := HW1.out.trans (hb.mono HW1.out.size); ⟨HGc.out W hB, HGf.out W hB, hB⟩)
   have hBd := (Below.refl w1.heap.size w1).drew
   have b0_0 := (HSx.out _ (Below.refl _ _)).1
   go_wp2_with fail
   go_region_law (first
    | (go_simp; (with_reducible refine (HPu.out _ (HSx.out _ (by assumption)).2.2).mono ?_); rintro e w5 ⟨m5, rfl, hrp, hb5⟩; have hB5 := T8.btrans hb5 (by assumption); have b0_0 := (HSx.out _ hB5).1; have q5 := (HSx.out _ hB5).2.1)
    | (go_simp; (with_reducible refine (HK.out _).mono ?_); rintro e w4 ⟨rfl, hb4⟩; have hB4 := T8.btrans hb4 (by assumption); have b0_0 := (HSx.out _ hB4).1))
   all_goals
    have HP := hid (put1_of (HSx.out _ hB5).2.2 HG.out (⟨hrp, HOk.out, HD.out.below (HSx.out _ hB5).2.2⟩ : Sv w5 m5 (Fs.dropL l i)))
    clear q5 hrp hb5 hB5
    go_wp2_with fail
    go_ret
    exact ⟨rfl, HP.out⟩
theorem sEnter_any (g p : Nat) (m : Option Nat) (l : List Fs.Item) (q : Fs.Cmd) (hq : CmdOk q) (w : World) (hg : w.heap[g]? = some (.cells #[ptg p, pv m] 117 (0, 0))) (h : Sv w m l) (hf : l.length <= 900) :
  Calls prog 63 #[ptg g, .agg (ccs q)] w (StD (Fs.enterC env l q) g p w) := by
 have HSame := hid (λW (hb : Below w.heap.size w W) => put1_same hg h hb)
 have HB := hid (below_one w (.cells (ccs q) 23))
 have hbx := heap_alloc_new w (.cells (ccs q) 23)
 unfold Fs.enterC
 by_cases h1 : q.ino < 1
 ·rw [if_pos (.inl h1)]
  clear h hg hf hbx
  go_enter func63, ntmps63
  go_wp2_with fail
  go_ret
  exact ⟨rfl, HSame.out _ HB.out⟩
 by_cases h2 : 2147483647 < q.ino
 ·rw [if_pos (.inr h2)]
  clear h hg hf hbx
  go_enter func63, ntmps63
  go_wp2_with fail
  go_ret
  exact ⟨rfl, HSame.out _ HB.out⟩
 rw [if_neg (by omega)]
 have HA := hid (alter_any 103 #[.pointer (some ⟨w.heap.size, 0, none⟩)] (λ_ _ => by kernel_rfl) (λx => Nd.withE less Nm.right x q.name q.ino) g p m l q.src (w.alloc (.cells (ccs q) 23)) ((HB.out.block _ (lt_of_obj hg)).trans hg) (h.below HB.out) hf hq.src0 hq.src1
  (λx hR a c W hb hE => cEnter_any w.heap.size q hq x.kind x.mode x.data x.target x.ents hR a c W ((hb.block _ (lt_of_obj hbx)).trans hbx) hE)
  (λx hR h0 => with_right hR (by omega) (by omega) h0))
 clear h hg hf hbx
 show Calls prog 63 _ w (StD (Fs.alter l q.src λx => Nd.withE less Nm.right x q.name q.ino) g p w)
 generalize Fs.alter l q.src (λx => Nd.withE less Nm.right x q.name q.ino) = R at HA |-
 go_enter func63, ntmps63
 go_wp2_with fail
 refine HA.out.mono ?_
 rintro e w2 ⟨rfl, hP⟩
 have HPx := hid (hP.from HB.out)
 clear hP
 dsimp only
 go_wp2_with fail
 go_ret
 exact ⟨rfl, HPx.out⟩
end Go.Proofs.YthbajmlmjjfgpaaGreatDoor
