/- A part of the proofs. -/
import Derived.Deep.RegionHeld
import Derived.Test.YthbajmlmjjfgpaaGreatDoorC28
set_option maxRecDepth 1000000
set_option maxHeartbeats 16000000
open Go.Lib (hid)
open Go.Proofs.Tryz
namespace Go.Proofs.YthbajmlmjjfgpaaGreatDoor
open Go.RowKit Go.Less
theorem vl_n4z {a : Int} (h : inN a = true) : vl (n4z a) = a := by
 have h := inN_iff.1 h
 unfold vl n4z
 rw [<- Nd.v4_val (l := Nd.n4 a.toNat) rfl, Nd.v4_n4 (by omega)]
 omega
theorem printL_parts (q : Fs.Cmd) : printL q = n4z q.ino ++ (n4z q.src ++ (n4z q.off ++ (n4z q.from_ ++ (n4z q.n ++ (UInt8.ofNat q.name.size :: (q.name.data.toList ++ q.data.data.toList)))))) := by
 unfold printL
 simp only [List.nil_append, List.append_assoc, List.cons_append]
theorem toL_len (s : ByteArray) : s.data.toList.length = s.size := Array.length_toList
theorem printL_len (q : Fs.Cmd) : (printL q).length = 21 + (q.name.size + q.data.size) := by
 rw [printL_parts]
 simp only [List.length_append, List.length_cons, n4z_len, toL_len]
 omega
theorem num4_is (L : List UInt8) (j : Nat) (h : j * 4 + 4 <= L.length) : num4 (lstr L) j = vl ((L.drop (j * 4)).take 4) := by
 unfold num4
 rw [cut_text (lstr L) (j * 4) 4 (by rw [lstr_size]; exact h), lstr_data, lstr_data]
theorem parse_print {q : Fs.Cmd} (h : rightC q = true) : parseC q.kind (printC q).1 = (q, 0) := by
 obtain ⟨-, hn, hd, r0, r1, r2, r3, r4, -⟩ := rightC_parts h
 have hp : (printC q).1 = lstr (printL q) := by unfold printC; rw [if_pos h]
 have hl := printL_len q
 have hs : (lstr (printL q)).size = 21 + (q.name.size + q.data.size) := by rw [lstr_size, hl]
 have hz : szC (lstr (printL q)) = q.name.size := by
  unfold szC
  rw [lstr_data, printL_parts]
  show (UInt8.ofNat q.name.size).toNat = _
  rw [UInt8.toNat_ofNat']; omega
 have hr : restC (lstr (printL q)) = lstr (q.name.data.toList ++ q.data.data.toList) := by
  unfold restC
  have e := cut_text (lstr (printL q)) 21 ((lstr (printL q)).size - 21) (by omega)
  rw [show 21 + ((lstr (printL q)).size - 21) = (lstr (printL q)).size by omega] at e
  rw [e, lstr_data]
  have hd : (printL q).drop 21 = q.name.data.toList ++ q.data.data.toList := by rw [printL_parts]; rfl
  rw [hd, List.take_of_length_le]
  rw [List.length_append, toL_len, toL_len]; omega
 have hrs : (restC (lstr (printL q))).size = q.name.size + q.data.size := by rw [hr, lstr_size, List.length_append, toL_len, toL_len]
 have hc : cmdOf q.kind (lstr (printL q)) = q := by
  unfold cmdOf
  rw [num4_is _ 0 (by omega), num4_is _ 1 (by omega), num4_is _ 2 (by omega), num4_is _ 3 (by omega), num4_is _ 4 (by omega), hz, hr]
  have e0 : (printL q |>.drop (0 * 4)).take 4 = n4z q.ino := by rw [printL_parts]; rfl
  have e1 : (printL q |>.drop (1 * 4)).take 4 = n4z q.src := by rw [printL_parts]; rfl
  have e2 : (printL q |>.drop (2 * 4)).take 4 = n4z q.off := by rw [printL_parts]; rfl
  have e3 : (printL q |>.drop (3 * 4)).take 4 = n4z q.from_ := by rw [printL_parts]; rfl
  have e4 : (printL q |>.drop (4 * 4)).take 4 = n4z q.n := by rw [printL_parts]; rfl
  rw [e0, e1, e2, e3, e4, vl_n4z r0, vl_n4z r1, vl_n4z r2, vl_n4z r3, vl_n4z r4]
  have a1 : (lstr (q.name.data.toList ++ q.data.data.toList)).extract 0 q.name.size = q.name := by
   have e := cut_text (lstr (q.name.data.toList ++ q.data.data.toList)) 0 q.name.size (by rw [lstr_size, List.length_append, toL_len]; omega)
   rw [Nat.zero_add] at e
   rw [e, lstr_data, List.drop_zero, List.take_left' (toL_len _), lstr_own]
  have a2 : (lstr (q.name.data.toList ++ q.data.data.toList)).extract q.name.size (lstr (q.name.data.toList ++ q.data.data.toList)).size = q.data := by
   have hz2 : (lstr (q.name.data.toList ++ q.data.data.toList)).size = q.name.size + q.data.size := by rw [lstr_size, List.length_append, toL_len, toL_len]
   have e := cut_text (lstr (q.name.data.toList ++ q.data.data.toList)) q.name.size q.data.size (by omega)
   rw [hz2, e, lstr_data, List.drop_left' (toL_len _), List.take_of_length_le (Nat.le_of_eq (toL_len _)), lstr_own]
  rw [a1, a2]
 rw [hp]
 unfold parseC readC
 rw [if_neg (by omega), if_neg (by rw [hrs, hz]; omega), hc]
 simp only [h, if_true]
end Go.Proofs.YthbajmlmjjfgpaaGreatDoor
namespace Go.Proofs.YthbajmlmjjfgpaaGreatDoor
open Go.RowKit Go.Less
attribute [local go_sem 9000] sem_eql sem_neq eql_cmd84
theorem rightC_is (q : Fs.Cmd) : rightC q = (inN q.ino && (inN q.src && (inN q.off && (inN q.from_ && (inN q.n && (decide (q.name.size <= 16 /\ q.data.size <= 4096) && (decide (1 <= q.kind /\ q.kind <= 10) && sameC q (onlyC q)))))))) := by
 unfold rightC
 generalize decide (1 <= q.kind /\ q.kind <= 10) = a
 generalize decide (q.name.size <= 16 /\ q.data.size <= 4096) = b
 generalize sameC q (onlyC q) = c
 cases a <;> cases b <;> cases inN q.ino <;> cases inN q.src <;> cases inN q.off <;> cases inN q.from_ <;> cases inN q.n <;> rfl
theorem dRight_any (kd i0 i1 i2 i3 i4 : Int) (nm da : ByteArray) (w : World) :
  Calls prog 13 #[.agg #[.int .i64 kd, .int .i64 i0, .int .i64 i1, .int .i64 i2, .int .i64 i3, .int .i64 i4, .string nm, .string da]] w λe w' => e = .returned (.bool (rightC ⟨kd, i0, i1, i2, i3, i4, nm, da⟩)) /\ Below w.heap.size w w' := by
 have HB := hid (show Bxs w [(w.heap.size, #[.int .i64 kd, .int .i64 i0, .int .i64 i1, .int .i64 i2, .int .i64 i3, .int .i64 i4, .string nm, .string da], 30), (w.heap.size + 1, #[.int .i64 i0, .int .i64 i1, .int .i64 i2, .int .i64 i3, .int .i64 i4], 94)] ((w.alloc (.cells #[.int .i64 kd, .int .i64 i0, .int .i64 i1, .int .i64 i2, .int .i64 i3, .int .i64 i4, .string nm, .string da] 30)).alloc (.cells #[.int .i64 i0, .int .i64 i1, .int .i64 i2, .int .i64 i3, .int .i64 i4] 94)) from Bxs.two w _ _ _ _)
 have HR := hid (rightC_is ⟨kd, i0, i1, i2, i3, i4, nm, da⟩)
 dsimp only at HR
 have hx := HB.out.c8 0 rfl
 have HB0 := hid (show Bxs w [(w.heap.size, #[.int .i64 kd, .int .i64 i0, .int .i64 i1, .int .i64 i2, .int .i64 i3, .int .i64 i4, .string nm, .string da], 30)] (w.alloc (.cells #[.int .i64 kd, .int .i64 i0, .int .i64 i1, .int .i64 i2, .int .i64 i3, .int .i64 i4, .string nm, .string da] 30)) from Bxs.one w _ _)
 have hx0 := HB0.out.c8 0 rfl
 go_enter func13, ntmps13
 go_wp2_with fail
 clear hx hx0 HB0
 generalize (w.alloc (.cells #[.int .i64 kd, .int .i64 i0, .int .i64 i1, .int .i64 i2, .int .i64 i3, .int .i64 i4, .string nm, .string da] 30)).alloc (.cells #[.int .i64 i0, .int .i64 i1, .int .i64 i2, .int .i64 i3, .int .i64 i4] 94) = W0 at HB |-
 go_loopw [4] (λx4 wr => (x4 = .int .i64 0 /\ Bxs w [(w.heap.size, #[.int .i64 kd, .int .i64 i0, .int .i64 i1, .int .i64 i2, .int .i64 i3, .int .i64 i4, .string nm, .string da], 30), (w.heap.size + 1, #[.int .i64 i0, .int .i64 i1, .int .i64 i2, .int .i64 i3, .int .i64 i4], 94)] wr) \/ (x4 = .int .i64 1 /\ inN i0 = true /\ Bxs w [(w.heap.size, #[.int .i64 kd, .int .i64 i0, .int .i64 i1, .int .i64 i2, .int .i64 i3, .int .i64 i4, .string nm, .string da], 30), (w.heap.size + 1, #[.int .i64 i0, .int .i64 i1, .int .i64 i2, .int .i64 i3, .int .i64 i4], 94)] wr) \/ (x4 = .int .i64 2 /\ inN i0 = true /\ inN i1 = true /\ Bxs w [(w.heap.size, #[.int .i64 kd, .int .i64 i0, .int .i64 i1, .int .i64 i2, .int .i64 i3, .int .i64 i4, .string nm, .string da], 30), (w.heap.size + 1, #[.int .i64 i0, .int .i64 i1, .int .i64 i2, .int .i64 i3, .int .i64 i4], 94)] wr) \/ (x4 = .int .i64 3 /\ inN i0 = true /\ inN i1 = true /\ inN i2 = true /\ Bxs w [(w.heap.size, #[.int .i64 kd, .int .i64 i0, .int .i64 i1, .int .i64 i2, .int .i64 i3, .int .i64 i4, .string nm, .string da], 30), (w.heap.size + 1, #[.int .i64 i0, .int .i64 i1, .int .i64 i2, .int .i64 i3, .int .i64 i4], 94)] wr) \/ (x4 = .int .i64 4 /\ inN i0 = true /\ inN i1 = true /\ inN i2 = true /\ inN i3 = true /\ Bxs w [(w.heap.size, #[.int .i64 kd, .int .i64 i0, .int .i64 i1, .int .i64 i2, .int .i64 i3, .int .i64 i4, .string nm, .string da], 30), (w.heap.size + 1, #[.int .i64 i0, .int .i64 i1, .int .i64 i2, .int .i64 i3, .int .i64 i4], 94)] wr) \/ (x4 = .int .i64 5 /\ inN i0 = true /\ inN i1 = true /\ inN i2 = true /\ inN i3 = true /\ inN i4 = true /\ Bxs w [(w.heap.size, #[.int .i64 kd, .int .i64 i0, .int .i64 i1, .int .i64 i2, .int .i64 i3, .int .i64 i4, .string nm, .string da], 30), (w.heap.size + 1, #[.int .i64 i0, .int .i64 i1, .int .i64 i2, .int .i64 i3, .int .i64 i4], 94)] wr)) (λx4 _ => 6 - (intOf x4).toNat)
 case atStart => exact .inl ⟨rfl, HB.out⟩
 case round =>
  clear HB
  rcases hrel with ⟨rfl, hB⟩ | ⟨rfl, r0, hB⟩ | ⟨rfl, r0, r1, hB⟩ | ⟨rfl, r0, r1, r2, hB⟩ | ⟨rfl, r0, r1, r2, r3, hB⟩ | ⟨rfl, r0, r1, r2, r3, r4, hB⟩
  ·have HB := hid hB
   have hx := HB.out.c5 1 rfl
   clear hB
   by_cases l : i0 < 0
   ·have HI := hid (inN_low l)
    go_wp2_with fail
    go_ret
    exact ⟨by rw [HR.out, HI.out]; rfl, HB.out.below⟩
   by_cases u : 2147483647 < i0
   ·have HI := hid (inN_high u)
    go_wp2_with fail
    go_ret
    exact ⟨by rw [HR.out, HI.out]; rfl, HB.out.below⟩
   have HI := hid (inN_in l u)
   go_wp2_with fail
   go_roundw
   case rel => exact .inr (.inl (⟨by go_num, HI.out, HB.out⟩))
   case measure => simp [intOf]
  ·have HB := hid hB
   have hx := HB.out.c5 1 rfl
   clear hB
   by_cases l : i1 < 0
   ·have HI := hid (inN_low l)
    go_wp2_with fail
    go_ret
    exact ⟨by rw [HR.out, r0, HI.out]; rfl, HB.out.below⟩
   by_cases u : 2147483647 < i1
   ·have HI := hid (inN_high u)
    go_wp2_with fail
    go_ret
    exact ⟨by rw [HR.out, r0, HI.out]; rfl, HB.out.below⟩
   have HI := hid (inN_in l u)
   go_wp2_with fail
   go_roundw
   case rel => exact .inr (.inr (.inl (⟨by go_num, r0, HI.out, HB.out⟩)))
   case measure => simp [intOf]
  ·have HB := hid hB
   have hx := HB.out.c5 1 rfl
   clear hB
   by_cases l : i2 < 0
   ·have HI := hid (inN_low l)
    go_wp2_with fail
    go_ret
    exact ⟨by rw [HR.out, r0, r1, HI.out]; rfl, HB.out.below⟩
   by_cases u : 2147483647 < i2
   ·have HI := hid (inN_high u)
    go_wp2_with fail
    go_ret
    exact ⟨by rw [HR.out, r0, r1, HI.out]; rfl, HB.out.below⟩
   have HI := hid (inN_in l u)
   go_wp2_with fail
   go_roundw
   case rel => exact .inr (.inr (.inr (.inl (⟨by go_num, r0, r1, HI.out, HB.out⟩))))
   case measure => simp [intOf]
  ·have HB := hid hB
   have hx := HB.out.c5 1 rfl
   clear hB
   by_cases l : i3 < 0
   ·have HI := hid (inN_low l)
    go_wp2_with fail
    go_ret
    exact ⟨by rw [HR.out, r0, r1, r2, HI.out]; rfl, HB.out.below⟩
   by_cases u : 2147483647 < i3
   ·have HI := hid (inN_high u)
    go_wp2_with fail
    go_ret
    exact ⟨by rw [HR.out, r0, r1, r2, HI.out]; rfl, HB.out.below⟩
   have HI := hid (inN_in l u)
   go_wp2_with fail
   go_roundw
   case rel => exact .inr (.inr (.inr (.inr (.inl (⟨by go_num, r0, r1, r2, HI.out, HB.out⟩)))))
   case measure => simp [intOf]
  ·have HB := hid hB
   have hx := HB.out.c5 1 rfl
   clear hB
   by_cases l : i4 < 0
   ·have HI := hid (inN_low l)
    go_wp2_with fail
    go_ret
    exact ⟨by rw [HR.out, r0, r1, r2, r3, HI.out]; rfl, HB.out.below⟩
   by_cases u : 2147483647 < i4
   ·have HI := hid (inN_high u)
    go_wp2_with fail
    go_ret
    exact ⟨by rw [HR.out, r0, r1, r2, r3, HI.out]; rfl, HB.out.below⟩
   have HI := hid (inN_in l u)
   go_wp2_with fail
   go_roundw
   case rel => exact .inr (.inr (.inr (.inr (.inr (⟨by go_num, r0, r1, r2, r3, HI.out, HB.out⟩)))))
   case measure => simp [intOf]
  ·have HB := hid hB
   have hx := HB.out.c8 0 rfl
   have HR := hid (HR.out.trans (by rw [r0, r1, r2, r3, r4]; rfl : _ = (decide (nm.size <= 16 /\ da.size <= 4096) && (decide (1 <= kd /\ kd <= 10) && sameC ⟨kd, i0, i1, i2, i3, i4, nm, da⟩ (onlyC ⟨kd, i0, i1, i2, i3, i4, nm, da⟩)))))
   clear hB r0 r1 r2 r3 r4
   by_cases n1 : 16 < nm.size
   ·have n1i : (16 : Int) < (nm.size : Int) := by omega
    have HF := hid (show rightC ⟨kd, i0, i1, i2, i3, i4, nm, da⟩ = false by rw [HR.out, decide_eq_false (p := nm.size <= 16 /\ da.size <= 4096) (by omega)]; rfl)
    clear n1
    go_wp2_with fail
    go_ret
    exact ⟨by rw [HF.out]; rfl, HB.out.below⟩
   have n1i : ¬ (16 : Int) < (nm.size : Int) := by omega
   by_cases d1 : 4096 < da.size
   ·have d1i : (4096 : Int) < (da.size : Int) := by omega
    have HF := hid (show rightC ⟨kd, i0, i1, i2, i3, i4, nm, da⟩ = false by rw [HR.out, decide_eq_false (p := nm.size <= 16 /\ da.size <= 4096) (by omega)]; rfl)
    clear n1 d1
    go_wp2_with fail
    go_ret
    exact ⟨by rw [HF.out]; rfl, HB.out.below⟩
   have d1i : ¬ (4096 : Int) < (da.size : Int) := by omega
   have HR := hid (HR.out.trans (by rw [decide_eq_true (p := nm.size <= 16 /\ da.size <= 4096) (by omega)]; rfl : _ = (decide (1 <= kd /\ kd <= 10) && sameC ⟨kd, i0, i1, i2, i3, i4, nm, da⟩ (onlyC ⟨kd, i0, i1, i2, i3, i4, nm, da⟩))))
   clear n1 d1
   by_cases k1 : kd = 1
   ·subst k1
    have HF := hid (show rightC ⟨1, i0, i1, i2, i3, i4, nm, da⟩ = sameC ⟨1, i0, i1, i2, i3, i4, nm, da⟩ ⟨1, i0, 0, 0, 0, i4, ⟨#[]⟩, ⟨#[]⟩⟩ from HR.out.trans rfl)
    have s0 := (HB.out.more #[.int .i64 1, .int .i64 0, .int .i64 0, .int .i64 0, .int .i64 0, .int .i64 0, .string ⟨#[]⟩, .string ⟨#[]⟩] 30 rfl).c8 0 rfl
    have s1 := (HB.out.more #[.int .i64 1, .int .i64 i0, .int .i64 0, .int .i64 0, .int .i64 0, .int .i64 0, .string ⟨#[]⟩, .string ⟨#[]⟩] 30 rfl).c8 0 rfl
    have s2 := (HB.out.more #[.int .i64 1, .int .i64 i0, .int .i64 0, .int .i64 0, .int .i64 0, .int .i64 i4, .string ⟨#[]⟩, .string ⟨#[]⟩] 30 rfl).c8 0 rfl
    have HG := hid (HB.out.more #[.int .i64 1, .int .i64 i0, .int .i64 0, .int .i64 0, .int .i64 0, .int .i64 i4, .string ⟨#[]⟩, .string ⟨#[]⟩] 30 rfl)
    clear HR
    go_wp2_with fail
    go_ret
    exact ⟨by rw [HF.out]; rfl, HG.out.below⟩
   by_cases k2 : kd = 2
   ·subst k2
    have HF := hid (show rightC ⟨2, i0, i1, i2, i3, i4, nm, da⟩ = sameC ⟨2, i0, i1, i2, i3, i4, nm, da⟩ ⟨2, i0, 0, 0, 0, i4, ⟨#[]⟩, ⟨#[]⟩⟩ from HR.out.trans rfl)
    have s0 := (HB.out.more #[.int .i64 2, .int .i64 0, .int .i64 0, .int .i64 0, .int .i64 0, .int .i64 0, .string ⟨#[]⟩, .string ⟨#[]⟩] 30 rfl).c8 0 rfl
    have s1 := (HB.out.more #[.int .i64 2, .int .i64 i0, .int .i64 0, .int .i64 0, .int .i64 0, .int .i64 0, .string ⟨#[]⟩, .string ⟨#[]⟩] 30 rfl).c8 0 rfl
    have s2 := (HB.out.more #[.int .i64 2, .int .i64 i0, .int .i64 0, .int .i64 0, .int .i64 0, .int .i64 i4, .string ⟨#[]⟩, .string ⟨#[]⟩] 30 rfl).c8 0 rfl
    have HG := hid (HB.out.more #[.int .i64 2, .int .i64 i0, .int .i64 0, .int .i64 0, .int .i64 0, .int .i64 i4, .string ⟨#[]⟩, .string ⟨#[]⟩] 30 rfl)
    clear HR k1
    go_wp2_with fail
    go_ret
    exact ⟨by rw [HF.out]; rfl, HG.out.below⟩
   by_cases k3 : kd = 3
   ·subst k3
    have HF := hid (show rightC ⟨3, i0, i1, i2, i3, i4, nm, da⟩ = sameC ⟨3, i0, i1, i2, i3, i4, nm, da⟩ ⟨3, i0, 0, 0, 0, 0, ⟨#[]⟩, da⟩ from HR.out.trans rfl)
    have s0 := (HB.out.more #[.int .i64 3, .int .i64 0, .int .i64 0, .int .i64 0, .int .i64 0, .int .i64 0, .string ⟨#[]⟩, .string ⟨#[]⟩] 30 rfl).c8 0 rfl
    have s1 := (HB.out.more #[.int .i64 3, .int .i64 i0, .int .i64 0, .int .i64 0, .int .i64 0, .int .i64 0, .string ⟨#[]⟩, .string ⟨#[]⟩] 30 rfl).c8 0 rfl
    have s2 := (HB.out.more #[.int .i64 3, .int .i64 i0, .int .i64 0, .int .i64 0, .int .i64 0, .int .i64 0, .string ⟨#[]⟩, .string da] 30 rfl).c8 0 rfl
    have HG := hid (HB.out.more #[.int .i64 3, .int .i64 i0, .int .i64 0, .int .i64 0, .int .i64 0, .int .i64 0, .string ⟨#[]⟩, .string da] 30 rfl)
    clear HR k1 k2
    go_wp2_with fail
    go_ret
    exact ⟨by rw [HF.out]; rfl, HG.out.below⟩
   by_cases k4 : kd = 4
   ·subst k4
    have HF := hid (show rightC ⟨4, i0, i1, i2, i3, i4, nm, da⟩ = sameC ⟨4, i0, i1, i2, i3, i4, nm, da⟩ ⟨4, i0, i1, 0, 0, 0, nm, ⟨#[]⟩⟩ from HR.out.trans rfl)
    have s0 := (HB.out.more #[.int .i64 4, .int .i64 0, .int .i64 0, .int .i64 0, .int .i64 0, .int .i64 0, .string ⟨#[]⟩, .string ⟨#[]⟩] 30 rfl).c8 0 rfl
    have s1 := (HB.out.more #[.int .i64 4, .int .i64 i0, .int .i64 0, .int .i64 0, .int .i64 0, .int .i64 0, .string ⟨#[]⟩, .string ⟨#[]⟩] 30 rfl).c8 0 rfl
    have s2 := (HB.out.more #[.int .i64 4, .int .i64 i0, .int .i64 i1, .int .i64 0, .int .i64 0, .int .i64 0, .string ⟨#[]⟩, .string ⟨#[]⟩] 30 rfl).c8 0 rfl
    have s3 := (HB.out.more #[.int .i64 4, .int .i64 i0, .int .i64 i1, .int .i64 0, .int .i64 0, .int .i64 0, .string nm, .string ⟨#[]⟩] 30 rfl).c8 0 rfl
    have HG := hid (HB.out.more #[.int .i64 4, .int .i64 i0, .int .i64 i1, .int .i64 0, .int .i64 0, .int .i64 0, .string nm, .string ⟨#[]⟩] 30 rfl)
    clear HR k1 k2 k3
    go_wp2_with fail
    go_ret
    exact ⟨by rw [HF.out]; rfl, HG.out.below⟩
   by_cases k5 : kd = 5
   ·subst k5
    have HF := hid (show rightC ⟨5, i0, i1, i2, i3, i4, nm, da⟩ = sameC ⟨5, i0, i1, i2, i3, i4, nm, da⟩ ⟨5, 0, i1, 0, 0, 0, nm, ⟨#[]⟩⟩ from HR.out.trans rfl)
    have s0 := (HB.out.more #[.int .i64 5, .int .i64 0, .int .i64 0, .int .i64 0, .int .i64 0, .int .i64 0, .string ⟨#[]⟩, .string ⟨#[]⟩] 30 rfl).c8 0 rfl
    have s1 := (HB.out.more #[.int .i64 5, .int .i64 0, .int .i64 i1, .int .i64 0, .int .i64 0, .int .i64 0, .string ⟨#[]⟩, .string ⟨#[]⟩] 30 rfl).c8 0 rfl
    have s2 := (HB.out.more #[.int .i64 5, .int .i64 0, .int .i64 i1, .int .i64 0, .int .i64 0, .int .i64 0, .string nm, .string ⟨#[]⟩] 30 rfl).c8 0 rfl
    have HG := hid (HB.out.more #[.int .i64 5, .int .i64 0, .int .i64 i1, .int .i64 0, .int .i64 0, .int .i64 0, .string nm, .string ⟨#[]⟩] 30 rfl)
    clear HR k1 k2 k3 k4
    go_wp2_with fail
    go_ret
    exact ⟨by rw [HF.out]; rfl, HG.out.below⟩
   by_cases k6 : kd = 6
   ·subst k6
    have HF := hid (show rightC ⟨6, i0, i1, i2, i3, i4, nm, da⟩ = sameC ⟨6, i0, i1, i2, i3, i4, nm, da⟩ ⟨6, i0, 0, 0, 0, i4, ⟨#[]⟩, ⟨#[]⟩⟩ from HR.out.trans rfl)
    have s0 := (HB.out.more #[.int .i64 6, .int .i64 0, .int .i64 0, .int .i64 0, .int .i64 0, .int .i64 0, .string ⟨#[]⟩, .string ⟨#[]⟩] 30 rfl).c8 0 rfl
    have s1 := (HB.out.more #[.int .i64 6, .int .i64 i0, .int .i64 0, .int .i64 0, .int .i64 0, .int .i64 0, .string ⟨#[]⟩, .string ⟨#[]⟩] 30 rfl).c8 0 rfl
    have s2 := (HB.out.more #[.int .i64 6, .int .i64 i0, .int .i64 0, .int .i64 0, .int .i64 0, .int .i64 i4, .string ⟨#[]⟩, .string ⟨#[]⟩] 30 rfl).c8 0 rfl
    have HG := hid (HB.out.more #[.int .i64 6, .int .i64 i0, .int .i64 0, .int .i64 0, .int .i64 0, .int .i64 i4, .string ⟨#[]⟩, .string ⟨#[]⟩] 30 rfl)
    clear HR k1 k2 k3 k4 k5
    go_wp2_with fail
    go_ret
    exact ⟨by rw [HF.out]; rfl, HG.out.below⟩
   by_cases k7 : kd = 7
   ·subst k7
    have HF := hid (show rightC ⟨7, i0, i1, i2, i3, i4, nm, da⟩ = sameC ⟨7, i0, i1, i2, i3, i4, nm, da⟩ ⟨7, i0, 0, 0, 0, i4, ⟨#[]⟩, ⟨#[]⟩⟩ from HR.out.trans rfl)
    have s0 := (HB.out.more #[.int .i64 7, .int .i64 0, .int .i64 0, .int .i64 0, .int .i64 0, .int .i64 0, .string ⟨#[]⟩, .string ⟨#[]⟩] 30 rfl).c8 0 rfl
    have s1 := (HB.out.more #[.int .i64 7, .int .i64 i0, .int .i64 0, .int .i64 0, .int .i64 0, .int .i64 0, .string ⟨#[]⟩, .string ⟨#[]⟩] 30 rfl).c8 0 rfl
    have s2 := (HB.out.more #[.int .i64 7, .int .i64 i0, .int .i64 0, .int .i64 0, .int .i64 0, .int .i64 i4, .string ⟨#[]⟩, .string ⟨#[]⟩] 30 rfl).c8 0 rfl
    have HG := hid (HB.out.more #[.int .i64 7, .int .i64 i0, .int .i64 0, .int .i64 0, .int .i64 0, .int .i64 i4, .string ⟨#[]⟩, .string ⟨#[]⟩] 30 rfl)
    clear HR k1 k2 k3 k4 k5 k6
    go_wp2_with fail
    go_ret
    exact ⟨by rw [HF.out]; rfl, HG.out.below⟩
   by_cases k8 : kd = 8
   ·subst k8
    have HF := hid (show rightC ⟨8, i0, i1, i2, i3, i4, nm, da⟩ = sameC ⟨8, i0, i1, i2, i3, i4, nm, da⟩ ⟨8, i0, 0, i2, 0, 0, ⟨#[]⟩, da⟩ from HR.out.trans rfl)
    have s0 := (HB.out.more #[.int .i64 8, .int .i64 0, .int .i64 0, .int .i64 0, .int .i64 0, .int .i64 0, .string ⟨#[]⟩, .string ⟨#[]⟩] 30 rfl).c8 0 rfl
    have s1 := (HB.out.more #[.int .i64 8, .int .i64 i0, .int .i64 0, .int .i64 0, .int .i64 0, .int .i64 0, .string ⟨#[]⟩, .string ⟨#[]⟩] 30 rfl).c8 0 rfl
    have s2 := (HB.out.more #[.int .i64 8, .int .i64 i0, .int .i64 0, .int .i64 i2, .int .i64 0, .int .i64 0, .string ⟨#[]⟩, .string ⟨#[]⟩] 30 rfl).c8 0 rfl
    have s3 := (HB.out.more #[.int .i64 8, .int .i64 i0, .int .i64 0, .int .i64 i2, .int .i64 0, .int .i64 0, .string ⟨#[]⟩, .string da] 30 rfl).c8 0 rfl
    have HG := hid (HB.out.more #[.int .i64 8, .int .i64 i0, .int .i64 0, .int .i64 i2, .int .i64 0, .int .i64 0, .string ⟨#[]⟩, .string da] 30 rfl)
    clear HR k1 k2 k3 k4 k5 k6 k7
    go_wp2_with fail
    go_ret
    exact ⟨by rw [HF.out]; rfl, HG.out.below⟩
   by_cases k9 : kd = 9
   ·subst k9
    have HF := hid (show rightC ⟨9, i0, i1, i2, i3, i4, nm, da⟩ = sameC ⟨9, i0, i1, i2, i3, i4, nm, da⟩ ⟨9, i0, i1, i2, i3, i4, ⟨#[]⟩, ⟨#[]⟩⟩ from HR.out.trans rfl)
    have s0 := (HB.out.more #[.int .i64 9, .int .i64 0, .int .i64 0, .int .i64 0, .int .i64 0, .int .i64 0, .string ⟨#[]⟩, .string ⟨#[]⟩] 30 rfl).c8 0 rfl
    have s1 := (HB.out.more #[.int .i64 9, .int .i64 i0, .int .i64 i1, .int .i64 i2, .int .i64 i3, .int .i64 i4, .string nm, .string da] 30 rfl).c8 0 rfl
    have s2 := (HB.out.more #[.int .i64 9, .int .i64 i0, .int .i64 i1, .int .i64 i2, .int .i64 i3, .int .i64 i4, .string ⟨#[]⟩, .string da] 30 rfl).c8 0 rfl
    have s3 := (HB.out.more #[.int .i64 9, .int .i64 i0, .int .i64 i1, .int .i64 i2, .int .i64 i3, .int .i64 i4, .string ⟨#[]⟩, .string ⟨#[]⟩] 30 rfl).c8 0 rfl
    have HG := hid (HB.out.more #[.int .i64 9, .int .i64 i0, .int .i64 i1, .int .i64 i2, .int .i64 i3, .int .i64 i4, .string ⟨#[]⟩, .string ⟨#[]⟩] 30 rfl)
    clear HR k1 k2 k3 k4 k5 k6 k7 k8
    go_wp2_with fail
    go_ret
    exact ⟨by rw [HF.out]; rfl, HG.out.below⟩
   by_cases k10 : kd = 10
   ·subst k10
    have HF := hid (show rightC ⟨10, i0, i1, i2, i3, i4, nm, da⟩ = sameC ⟨10, i0, i1, i2, i3, i4, nm, da⟩ ⟨10, i0, 0, 0, 0, 0, ⟨#[]⟩, ⟨#[]⟩⟩ from HR.out.trans rfl)
    have s0 := (HB.out.more #[.int .i64 10, .int .i64 0, .int .i64 0, .int .i64 0, .int .i64 0, .int .i64 0, .string ⟨#[]⟩, .string ⟨#[]⟩] 30 rfl).c8 0 rfl
    have s1 := (HB.out.more #[.int .i64 10, .int .i64 i0, .int .i64 0, .int .i64 0, .int .i64 0, .int .i64 0, .string ⟨#[]⟩, .string ⟨#[]⟩] 30 rfl).c8 0 rfl
    have HG := hid (HB.out.more #[.int .i64 10, .int .i64 i0, .int .i64 0, .int .i64 0, .int .i64 0, .int .i64 0, .string ⟨#[]⟩, .string ⟨#[]⟩] 30 rfl)
    clear HR k1 k2 k3 k4 k5 k6 k7 k8 k9
    go_wp2_with fail
    go_ret
    exact ⟨by rw [HF.out]; rfl, HG.out.below⟩
   have HF := hid (show rightC ⟨kd, i0, i1, i2, i3, i4, nm, da⟩ = false by rw [HR.out, decide_eq_false (p := 1 <= kd /\ kd <= 10) (by omega)]; rfl)
   have s0 := (HB.out.more #[.int .i64 kd, .int .i64 0, .int .i64 0, .int .i64 0, .int .i64 0, .int .i64 0, .string ⟨#[]⟩, .string ⟨#[]⟩] 30 rfl).c8 0 rfl
   have HG := hid (HB.out.more #[.int .i64 kd, .int .i64 0, .int .i64 0, .int .i64 0, .int .i64 0, .int .i64 0, .string ⟨#[]⟩, .string ⟨#[]⟩] 30 rfl)
   clear HR
   go_wp2_with fail
   go_ret
   exact ⟨by rw [HF.out]; rfl, HG.out.below⟩
end Go.Proofs.YthbajmlmjjfgpaaGreatDoor
namespace Go.Proofs.YthbajmlmjjfgpaaGreatDoor
open Go.RowKit Go.Less
theorem run_conv1 (W : World) (b : Nat) (a : UInt8) (h : W.cell? ⟨b, 0, none⟩ = some (.int .u8 (a.toNat : Int))) : (convert 91 9 (.slice (some ⟨b, 0, none⟩) 1 1)).run prog W = .ok (.string ⟨#[a]⟩) W := by
 rw [run_convert_bytes_arg (P := prog) W 91 5 underlying91 underlying5 b 0 1 1 [(a.toNat : Int)] rfl ?_ 9 underlying9]
 ·simp [strOfNums]
 ·intro i hi
  match i, hi with
  | 0, _ => exact h
theorem cell_made (W : World) (a : UInt8) : (W.alloc (.cells #[.int .u8 (a.toNat : Int)] 5)).cell? ⟨W.heap.size, 0, none⟩ = some (.int .u8 (a.toNat : Int)) := by
 rw [World.cell?_alloc_new]; rfl
theorem cell_made_d (W : World) (a : UInt8) : (W.drew.alloc (.cells #[.int .u8 (a.toNat : Int)] 5)).cell? ⟨W.heap.size, 0, none⟩ = some (.int .u8 (a.toNat : Int)) := cell_made W.drew a
theorem cell_stays {W W' : World} {b : Nat} {v : Value} (hb : Below W.heap.size W W') (h : W.cell? ⟨b, 0, none⟩ = some v) : W'.cell? ⟨b, 0, none⟩ = some v := (hb.cell (p := ⟨b, 0, none⟩) (block_lt_of_cell h)).trans h
section
attribute [local go_sem 9000] sem_eql sem_neq run_bytes4
theorem four_nat (n : Nat) (w : World) (h1 : n <= 4294967295) :
  Calls prog 45 #[.int .i64 (n : Int)] w (λe w' => e = .returned (.string (Fs.key (n : Int))) /\ Below w.heap.size w w') := by
 have HK := hid (show Fs.key (n : Int) = ⟨#[byteOf (n / 16777216), byteOf (n / 65536), byteOf (n / 256), byteOf n]⟩ by unfold Fs.key Nd.mk Nd.n4; simp [byteOf])
 have q0 : (n : Int).tdiv 16777216 = ((n / 16777216 : Nat) : Int) := by rw [Int.tdiv_eq_ediv_of_nonneg (by omega)]; omega
 have q1 : (n : Int).tdiv 65536 = ((n / 65536 : Nat) : Int) := by rw [Int.tdiv_eq_ediv_of_nonneg (by omega)]; omega
 have q2 : (n : Int).tdiv 256 = ((n / 256 : Nat) : Int) := by rw [Int.tdiv_eq_ediv_of_nonneg (by omega)]; omega
 have e0 := byteOf_eq (n / 16777216)
 have e1 := byteOf_eq (n / 65536)
 have e2 := byteOf_eq (n / 256)
 have e3 := byteOf_eq n
 have b0 : ((n / 16777216 : Nat) : Int) <= 4294967295 := by omega
 have b1 : ((n / 65536 : Nat) : Int) <= 4294967295 := by omega
 have b2 : ((n / 256 : Nat) : Int) <= 4294967295 := by omega
 have c0 : 0 <= ((n / 16777216 : Nat) : Int) := Int.natCast_nonneg _
 have c1 : 0 <= ((n / 65536 : Nat) : Int) := Int.natCast_nonneg _
 have c2 : 0 <= ((n / 256 : Nat) : Int) := Int.natCast_nonneg _
 generalize byteOf (n / 16777216) = A at e0 HK
 generalize byteOf (n / 65536) = B at e1 HK
 generalize byteOf (n / 256) = C at e2 HK
 generalize byteOf n = D at e3 HK
 generalize ((n / 16777216 : Nat) : Int) = k0 at *
 generalize ((n / 65536 : Nat) : Int) = k1 at *
 generalize ((n / 256 : Nat) : Int) = k2 at *
 clear h1
 generalize (n : Int) = k at *
 have w0 : IntKind.i64.wrap k0 = k0 := IntWalk.i64_in _ (by omega)
 have w1 : IntKind.i64.wrap k1 = k1 := IntWalk.i64_in _ (by omega)
 have w2 : IntKind.i64.wrap k2 = k2 := IntWalk.i64_in _ (by omega)
 clear b0 b1 b2 c0 c1 c2
 go_enter func45, ntmps45
 go_wp2_with fail
 go_ret
 exact ⟨by rw [HK.out]; rfl, (Below.refl w.heap.size w).alloc (Nat.le_refl _) _⟩
theorem four_any (W : World) {a : Int} (h : inN a = true) : Calls prog 45 #[.int .i64 a] W (λe w' => e = .returned (.string (Fs.key a)) /\ Below W.heap.size W w') := by
 have := inN_iff.1 h
 obtain ⟨n, rfl⟩ : ∃ n : Nat, a = n := ⟨a.toNat, by omega⟩
 exact four_nat n W (by omega)
end
theorem print_text (q : Fs.Cmd) : Fs.key q.ino ++ Fs.key q.src ++ Fs.key q.off ++ Fs.key q.from_ ++ Fs.key q.n ++ (⟨#[byteOf q.name.size]⟩ : ByteArray) ++ q.name ++ q.data = lstr (printL q) := by
 unfold printL
 simp only [<- lstr_append]
 rw [lstr_nil, show (⟨#[]⟩ : ByteArray) ++ lstr (n4z q.ino) = lstr (n4z q.ino) from by rw [<- lstr_nil, lstr_append]; rfl]
 rfl
theorem run_bytes1d (w : World) (a : UInt8) : (convert 91 9 (.slice (some ⟨w.heap.size, 0, none⟩) 1 1)).run prog ((w.alloc (.cells #[.int .u8 (a.toNat : Int)] 5)).drew) = .ok (.string ⟨#[a]⟩) ((w.alloc (.cells #[.int .u8 (a.toNat : Int)] 5)).drew) := run_conv1 _ _ _ (cell_made w a)
theorem bal7 {P0 P1 P2 P3 P4 P5 P6 Q : Prop} (h : P0 /\ P1 /\ P2 /\ P3 /\ P4 /\ P5 /\ P6 /\ Q) : Q := h.2.2.2.2.2.2.2
theorem bmk {w W : World} (h : Below w.heap.size w W) (o : Obj) : Below w.heap.size w (W.alloc o) := h.alloc h.size o
attribute [local go_sem 9000] sem_eql sem_neq run_conv1 run_bytes1 run_bytes1d
theorem dPrint_any (kd i0 i1 i2 i3 i4 : Int) (nm da : ByteArray) (w : World) :
  Calls prog 9 #[.agg #[.int .i64 kd, .int .i64 i0, .int .i64 i1, .int .i64 i2, .int .i64 i3, .int .i64 i4, .string nm, .string da]] w λe w' => e = .returned (.tuple #[.string (printC ⟨kd, i0, i1, i2, i3, i4, nm, da⟩).1, .int .i64 (printC ⟨kd, i0, i1, i2, i3, i4, nm, da⟩).2]) /\ Below w.heap.size w w' := by
 have HB := hid (show Bxs w [(w.heap.size, #[.int .i64 kd, .int .i64 i0, .int .i64 i1, .int .i64 i2, .int .i64 i3, .int .i64 i4, .string nm, .string da], 30)] (w.alloc (.cells #[.int .i64 kd, .int .i64 i0, .int .i64 i1, .int .i64 i2, .int .i64 i3, .int .i64 i4, .string nm, .string da] 30)) from Bxs.one w _ _)
 have HRi := hid (λW => dRight_any kd i0 i1 i2 i3 i4 nm da W)
 have hx := HB.out.c8 0 rfl
 unfold printC
 cases hr : rightC ⟨kd, i0, i1, i2, i3, i4, nm, da⟩ with
 | false =>
  rw [hr] at HRi
  rw [if_neg (by simp)]
  clear hr
  go_enter func9, ntmps9
  go_wp2_with fail
  generalize w.alloc (.cells #[.int .i64 kd, .int .i64 i0, .int .i64 i1, .int .i64 i2, .int .i64 i3, .int .i64 i4, .string nm, .string da] 30) = W0 at HB |-
  refine (HRi.out W0).mono ?_
  rintro e w1 ⟨rfl, hb⟩
  have HB := hid (HB.out.kept hb)
  clear hb
  dsimp only
  go_wp2_with fail
  go_ret2
  exact ⟨rfl, HB.out.below⟩
 | true =>
  rw [hr] at HRi
  rw [if_pos rfl]
  obtain ⟨-, hn, hd, r0, r1, r2, r3, r4, -⟩ := rightC_parts hr
  dsimp only at hn hd r0 r1 r2 r3 r4
  have HT := hid (print_text ⟨kd, i0, i1, i2, i3, i4, nm, da⟩)
  dsimp only at HT
  have HK0 := hid (λW => four_any W r0)
  have HK1 := hid (λW => four_any W r1)
  have HK2 := hid (λW => four_any W r2)
  have HK3 := hid (λW => four_any W r3)
  have HK4 := hid (λW => four_any W r4)
  have e3 : (nm.size : Int) % 256 = ((byteOf nm.size).toNat : Int) := byteOf_eq nm.size
  have e4 : IntKind.u8.wrap (nm.size : Int) = ((byteOf nm.size).toNat : Int) := by rw [<- e3]; rfl
  have z0 := Fs.key_size i0
  have z1 := Fs.key_size i1
  have z2 := Fs.key_size i2
  have z3 := Fs.key_size i3
  have z4 := Fs.key_size i4
  generalize byteOf nm.size = bz at *
  generalize Fs.key i0 = K0 at *
  generalize Fs.key i1 = K1 at *
  generalize Fs.key i2 = K2 at *
  generalize Fs.key i3 = K3 at *
  generalize Fs.key i4 = K4 at *
  have q1 : ¬ 9223372036854775807 < K0.size + K1.size := by omega
  have q2 : ¬ 9223372036854775807 < K0.size + K1.size + K2.size := by omega
  have q3 : ¬ 9223372036854775807 < K0.size + K1.size + K2.size + K3.size := by omega
  have q4 : ¬ 9223372036854775807 < K0.size + K1.size + K2.size + K3.size + K4.size := by omega
  have q5 : ¬ 9223372036854775807 < K0.size + K1.size + K2.size + K3.size + K4.size + 1 := by omega
  have q6 : ¬ 9223372036854775807 < K0.size + K1.size + K2.size + K3.size + K4.size + 1 + nm.size := by omega
  have q7 : ¬ 9223372036854775807 < K0.size + K1.size + K2.size + K3.size + K4.size + 1 + nm.size + da.size := by omega
  clear hr r0 r1 r2 r3 r4 hn hd z0 z1 z2 z3 z4
  go_enter func9, ntmps9
  go_wp2_with fail
  generalize w.alloc (.cells #[.int .i64 kd, .int .i64 i0, .int .i64 i1, .int .i64 i2, .int .i64 i3, .int .i64 i4, .string nm, .string da] 30) = W0 at HB |-
  refine (HRi.out W0).mono ?_
  rintro e w1 ⟨rfl, hb⟩
  have HB := hid (HB.out.kept hb)
  have hbd := HB.out.below.drew
  have HSx := hid (show ∀ W, Below w1.heap.size w1 W -> W.cell? ⟨w.heap.size, 1, none⟩ = some (.int .i64 i0) /\ W.cell? ⟨w.heap.size, 2, none⟩ = some (.int .i64 i1) /\ W.cell? ⟨w.heap.size, 3, none⟩ = some (.int .i64 i2) /\ W.cell? ⟨w.heap.size, 4, none⟩ = some (.int .i64 i3) /\ W.cell? ⟨w.heap.size, 5, none⟩ = some (.int .i64 i4) /\ W.cell? ⟨w.heap.size, 6, none⟩ = some (.string nm) /\ W.cell? ⟨w.heap.size, 7, none⟩ = some (.string da) /\ Below w1.heap.size w1 W from λW hw => by
   have c := (HB.out.kept hw).c8 0 rfl
   exact ⟨c.2.1, c.2.2.1, c.2.2.2.1, c.2.2.2.2.1, c.2.2.2.2.2.1, c.2.2.2.2.2.2.1, c.2.2.2.2.2.2.2, hw⟩)
  have hBd := (Below.refl w1.heap.size w1).drew
  clear hb hx HRi hbd
  dsimp only
  go_wp2_with fail
  go_region_held (λW => W.cell? ⟨w.heap.size, 1, none⟩ = some (.int .i64 i0) /\ W.cell? ⟨w.heap.size, 2, none⟩ = some (.int .i64 i1) /\ W.cell? ⟨w.heap.size, 3, none⟩ = some (.int .i64 i2) /\ W.cell? ⟨w.heap.size, 4, none⟩ = some (.int .i64 i3) /\ W.cell? ⟨w.heap.size, 5, none⟩ = some (.int .i64 i4) /\ W.cell? ⟨w.heap.size, 6, none⟩ = some (.string nm) /\ W.cell? ⟨w.heap.size, 7, none⟩ = some (.string da) /\ Below w1.heap.size w1 W)
   (first | exact HSx.out _ (by assumption) | assumption | exact HSx.out _ (bmk (bal7 (by assumption)) _))
   (first
    | (go_at_call 45; (with_reducible refine (HK0.out _).mono ?_); rintro e wk0 ⟨rfl, hw0⟩; have hb0 := T8.btrans hw0 (bal7 (by assumption)); (first | (have hz := cell_stays (b := w1.heap.size) (v := .int .u8 (bz.toNat : Int)) hw0 (cell_made_d w1 bz); have hvz := run_conv1 _ _ _ hz) | (with_reducible have hz := cell_stays hw0 (cell_made _ _); have hvz := run_conv1 _ _ _ hz) | (replace hz := cell_stays hw0 hz; replace hvz := run_conv1 _ _ _ hz) | skip))
    | (go_at_call 45; (with_reducible refine (HK1.out _).mono ?_); rintro e wk1 ⟨rfl, hw1⟩; have hb1 := T8.btrans hw1 (bal7 (by assumption)); (first | (have hz := cell_stays (b := w1.heap.size) (v := .int .u8 (bz.toNat : Int)) hw1 (cell_made_d w1 bz); have hvz := run_conv1 _ _ _ hz) | (with_reducible have hz := cell_stays hw1 (cell_made _ _); have hvz := run_conv1 _ _ _ hz) | (replace hz := cell_stays hw1 hz; replace hvz := run_conv1 _ _ _ hz) | skip))
    | (go_at_call 45; (with_reducible refine (HK2.out _).mono ?_); rintro e wk2 ⟨rfl, hw2⟩; have hb2 := T8.btrans hw2 (bal7 (by assumption)); (first | (have hz := cell_stays (b := w1.heap.size) (v := .int .u8 (bz.toNat : Int)) hw2 (cell_made_d w1 bz); have hvz := run_conv1 _ _ _ hz) | (with_reducible have hz := cell_stays hw2 (cell_made _ _); have hvz := run_conv1 _ _ _ hz) | (replace hz := cell_stays hw2 hz; replace hvz := run_conv1 _ _ _ hz) | skip))
    | (go_at_call 45; (with_reducible refine (HK3.out _).mono ?_); rintro e wk3 ⟨rfl, hw3⟩; have hb3 := T8.btrans hw3 (bal7 (by assumption)); (first | (have hz := cell_stays (b := w1.heap.size) (v := .int .u8 (bz.toNat : Int)) hw3 (cell_made_d w1 bz); have hvz := run_conv1 _ _ _ hz) | (with_reducible have hz := cell_stays hw3 (cell_made _ _); have hvz := run_conv1 _ _ _ hz) | (replace hz := cell_stays hw3 hz; replace hvz := run_conv1 _ _ _ hz) | skip))
    | (go_at_call 45; (with_reducible refine (HK4.out _).mono ?_); rintro e wk4 ⟨rfl, hw4⟩; have hb4 := T8.btrans hw4 (bal7 (by assumption)); (first | (have hz := cell_stays (b := w1.heap.size) (v := .int .u8 (bz.toNat : Int)) hw4 (cell_made_d w1 bz); have hvz := run_conv1 _ _ _ hz) | (with_reducible have hz := cell_stays hw4 (cell_made _ _); have hvz := run_conv1 _ _ _ hz) | (replace hz := cell_stays hw4 hz; replace hvz := run_conv1 _ _ _ hz) | skip)))
  all_goals
   go_wp2_with fail
   go_ret2
   exact ⟨by rw [<- HT.out]; rfl, HB.out.below.trans ((by first | exact hb4 | exact bmk hb4 _ : Below w1.heap.size w1 _).mono HB.out.below.size)⟩
end Go.Proofs.YthbajmlmjjfgpaaGreatDoor
