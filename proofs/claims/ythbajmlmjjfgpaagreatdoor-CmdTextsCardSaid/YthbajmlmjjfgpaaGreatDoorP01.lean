/- A part of the proofs. -/
import Derived.Test.YthbajmlmjjfgpaaGreatDoorC30
import Derived.Test.YthbajmlmjjfgpaaGreatDoorP00
set_option maxRecDepth 1000000
set_option maxHeartbeats 16000000
open Go.Lib (hid)
open Go.Proofs.Tryz
namespace Go.Proofs.YthbajmlmjjfgpaaGreatDoor
open Go.RowKit Go.Less
attribute [local go_sem 9000] sem_eql sem_neq
theorem by_at (s : ByteArray) {i : Nat} (h : i < s.size) : s[i] = s.data.toList[i]'(by rw [toL_len]; exact h) := rfl
theorem four_of (s : ByteArray) (k : Nat) (h : k + 4 <= s.size) : vl (s.extract k (k + 4)).data.toList = (s[k].toNat : Int) * 16777216 + (s[k + 1].toNat : Int) * 65536 + (s[k + 2].toNat : Int) * 256 + (s[k + 3].toNat : Int) := by
 have hl : s.data.toList.length = s.size := toL_len s
 rw [cut_text s k 4 h, lstr_data, List.drop_eq_getElem_cons (by omega), List.drop_eq_getElem_cons (by omega), List.drop_eq_getElem_cons (by omega), List.drop_eq_getElem_cons (by omega)]
 rw [by_at s (by omega), by_at s (by omega), by_at s (by omega), by_at s (by omega)]
 simp only [List.take_succ_cons, List.take_zero, vl, Nd.val, List.foldl_cons, List.foldl_nil, Nat.add_assoc, Nat.reduceAdd]
 omega
theorem dget0_any (s : ByteArray) (w : World) (h : 21 <= s.size) : Calls prog 48 #[.string s, .int .i64 0] w λe w' => e = .returned (.int .i64 (num4 s 0)) /\ Below w.heap.size w w' := by
 have HV := hid (show num4 s 0 = _ from four_of s 0 (by omega))
 have h0 : 0 < s.size := by omega
 have h1 : 0 + 1 < s.size := by omega
 have h2 : 0 + 2 < s.size := by omega
 have h3 : 0 + 3 < s.size := by omega
 have g0 : (0 : Int) < (s.size : Int) := by omega
 have g1 : (1 : Int) < (s.size : Int) := by omega
 have g2 : (2 : Int) < (s.size : Int) := by omega
 have g3 : (3 : Int) < (s.size : Int) := by omega
 have b0 := s[0].toNat_lt
 have b1 := s[1].toNat_lt
 have b2 := s[2].toNat_lt
 have b3 := s[3].toNat_lt
 go_enter func48, ntmps48
 go_wp2_with fail
 go_quiet (fail)
 go_wp2_with fail
 go_ret
 refine ⟨?_, bdn (Below.refl w.heap.size w) _⟩
 rw [HV.out]
 rfl
theorem dget1_any (s : ByteArray) (w : World) (h : 21 <= s.size) : Calls prog 48 #[.string s, .int .i64 4] w λe w' => e = .returned (.int .i64 (num4 s 1)) /\ Below w.heap.size w w' := by
 have HV := hid (show num4 s 1 = _ from four_of s 4 (by omega))
 have h0 : 4 < s.size := by omega
 have h1 : 4 + 1 < s.size := by omega
 have h2 : 4 + 2 < s.size := by omega
 have h3 : 4 + 3 < s.size := by omega
 have g0 : (4 : Int) < (s.size : Int) := by omega
 have g1 : (5 : Int) < (s.size : Int) := by omega
 have g2 : (6 : Int) < (s.size : Int) := by omega
 have g3 : (7 : Int) < (s.size : Int) := by omega
 have b0 := s[4].toNat_lt
 have b1 := s[5].toNat_lt
 have b2 := s[6].toNat_lt
 have b3 := s[7].toNat_lt
 go_enter func48, ntmps48
 go_wp2_with fail
 go_quiet (fail)
 go_wp2_with fail
 go_ret
 refine ⟨?_, bdn (Below.refl w.heap.size w) _⟩
 rw [HV.out]
 rfl
theorem dget2_any (s : ByteArray) (w : World) (h : 21 <= s.size) : Calls prog 48 #[.string s, .int .i64 8] w λe w' => e = .returned (.int .i64 (num4 s 2)) /\ Below w.heap.size w w' := by
 have HV := hid (show num4 s 2 = _ from four_of s 8 (by omega))
 have h0 : 8 < s.size := by omega
 have h1 : 8 + 1 < s.size := by omega
 have h2 : 8 + 2 < s.size := by omega
 have h3 : 8 + 3 < s.size := by omega
 have g0 : (8 : Int) < (s.size : Int) := by omega
 have g1 : (9 : Int) < (s.size : Int) := by omega
 have g2 : (10 : Int) < (s.size : Int) := by omega
 have g3 : (11 : Int) < (s.size : Int) := by omega
 have b0 := s[8].toNat_lt
 have b1 := s[9].toNat_lt
 have b2 := s[10].toNat_lt
 have b3 := s[11].toNat_lt
 go_enter func48, ntmps48
 go_wp2_with fail
 go_quiet (fail)
 go_wp2_with fail
 go_ret
 refine ⟨?_, bdn (Below.refl w.heap.size w) _⟩
 rw [HV.out]
 rfl
theorem dget3_any (s : ByteArray) (w : World) (h : 21 <= s.size) : Calls prog 48 #[.string s, .int .i64 12] w λe w' => e = .returned (.int .i64 (num4 s 3)) /\ Below w.heap.size w w' := by
 have HV := hid (show num4 s 3 = _ from four_of s 12 (by omega))
 have h0 : 12 < s.size := by omega
 have h1 : 12 + 1 < s.size := by omega
 have h2 : 12 + 2 < s.size := by omega
 have h3 : 12 + 3 < s.size := by omega
 have g0 : (12 : Int) < (s.size : Int) := by omega
 have g1 : (13 : Int) < (s.size : Int) := by omega
 have g2 : (14 : Int) < (s.size : Int) := by omega
 have g3 : (15 : Int) < (s.size : Int) := by omega
 have b0 := s[12].toNat_lt
 have b1 := s[13].toNat_lt
 have b2 := s[14].toNat_lt
 have b3 := s[15].toNat_lt
 go_enter func48, ntmps48
 go_wp2_with fail
 go_quiet (fail)
 go_wp2_with fail
 go_ret
 refine ⟨?_, bdn (Below.refl w.heap.size w) _⟩
 rw [HV.out]
 rfl
theorem dget4_any (s : ByteArray) (w : World) (h : 21 <= s.size) : Calls prog 48 #[.string s, .int .i64 16] w λe w' => e = .returned (.int .i64 (num4 s 4)) /\ Below w.heap.size w w' := by
 have HV := hid (show num4 s 4 = _ from four_of s 16 (by omega))
 have h0 : 16 < s.size := by omega
 have h1 : 16 + 1 < s.size := by omega
 have h2 : 16 + 2 < s.size := by omega
 have h3 : 16 + 3 < s.size := by omega
 have g0 : (16 : Int) < (s.size : Int) := by omega
 have g1 : (17 : Int) < (s.size : Int) := by omega
 have g2 : (18 : Int) < (s.size : Int) := by omega
 have g3 : (19 : Int) < (s.size : Int) := by omega
 have b0 := s[16].toNat_lt
 have b1 := s[17].toNat_lt
 have b2 := s[18].toNat_lt
 have b3 := s[19].toNat_lt
 go_enter func48, ntmps48
 go_wp2_with fail
 go_quiet (fail)
 go_wp2_with fail
 go_ret
 refine ⟨?_, bdn (Below.refl w.heap.size w) _⟩
 rw [HV.out]
 rfl
theorem results_cmdR {fn : Func} {p u : Tmp} (h : fn.results = #[.cell p 30, .tmp u]) (tmps : Array Value) (w : World) (g : Nat) (a b c d e f x y : Value)
  (hp : tmps.getD p undef = .pointer (some ⟨g, 0, none⟩)) (hg : w.heap[g]? = some (.cells #[a, b, c, d, e, f, x, y] 30 (0, 0))) :
  (results fn tmps).run prog w = .ok (.tuple #[.agg #[a, b, c, d, e, f, x, y], tmps.getD u undef]) w := by
 rw [results_cell_tmp h, hp]
 simp [asAddr, Result.andThen, run_loadVar_row (P := prog) w g 30 30 #[a, b, c, d, e, f, x, y] (0, 0) _ hg underlying30 rfl (show (prog.info? 30).map (·.size) = some 8 from by kernel_rfl)]
def ZB (p : Nat) (W : World) : Prop := W.heap[p]? = some (.cells zcc 30 (0, 0))
theorem zb_made (W : World) : ZB W.heap.size (W.alloc (.cells zcc 30)) := heap_alloc_new _ _
theorem zb_made_d (W : World) : ZB W.heap.size ((W.alloc (.cells zcc 30)).drew) := zb_made W
theorem bmq {w W : World} (h : Below w.heap.size w W) (o : Obj) : Below w.heap.size w (W.alloc o) := h.alloc h.size o
theorem zb_stays {W W' : World} {p : Nat} (hb : Below W.heap.size W W') (h : ZB p W) : ZB p W' := (hb.block _ (lt_of_obj h)).trans h
theorem zb_facts {W : World} {p : Nat} (h : ZB p W) : W.cell? ⟨p, 0, none⟩ = some (.int .i64 0) /\ W.cell? ⟨p, 1, none⟩ = some (.int .i64 0) /\ W.cell? ⟨p, 2, none⟩ = some (.int .i64 0) /\ W.cell? ⟨p, 3, none⟩ = some (.int .i64 0) /\ W.cell? ⟨p, 4, none⟩ = some (.int .i64 0) /\ W.cell? ⟨p, 5, none⟩ = some (.int .i64 0) /\ W.cell? ⟨p, 6, none⟩ = some (.string ⟨#[]⟩) /\ W.cell? ⟨p, 7, none⟩ = some (.string ⟨#[]⟩) /\ W.frozen? ⟨p, 0, none⟩ = false /\ W.frozen? ⟨p, 1, none⟩ = false /\ W.frozen? ⟨p, 2, none⟩ = false /\ W.frozen? ⟨p, 3, none⟩ = false /\ W.frozen? ⟨p, 4, none⟩ = false /\ W.frozen? ⟨p, 5, none⟩ = false /\ W.frozen? ⟨p, 6, none⟩ = false /\ W.frozen? ⟨p, 7, none⟩ = false := by
 unfold ZB at h
 refine ⟨cell_obj h 0, cell_obj h 1, cell_obj h 2, cell_obj h 3, cell_obj h 4, cell_obj h 5, cell_obj h 6, cell_obj h 7, ?_, ?_, ?_, ?_, ?_, ?_, ?_, ?_⟩ <;> simp [World.frozen?, h]
theorem set8_obj {W : World} {p : Nat} (h : ZB p W) (v0 v1 v2 v3 v4 v5 v6 v7 : Value) : ((((((((W.setCell ⟨p, 0, none⟩ v0).setCell ⟨p, 1, none⟩ v1).setCell ⟨p, 2, none⟩ v2).setCell ⟨p, 3, none⟩ v3).setCell ⟨p, 4, none⟩ v4).setCell ⟨p, 5, none⟩ v5).setCell ⟨p, 6, none⟩ v6).setCell ⟨p, 7, none⟩ v7).heap[p]? = some (.cells #[v0, v1, v2, v3, v4, v5, v6, v7] 30 (0, 0)) := by
 have h0 := heap_setCell_same W p 0 _ 30 v0 h
 have h1 := heap_setCell_same _ p 1 _ 30 v1 h0
 have h2 := heap_setCell_same _ p 2 _ 30 v2 h1
 have h3 := heap_setCell_same _ p 3 _ 30 v3 h2
 have h4 := heap_setCell_same _ p 4 _ 30 v4 h3
 have h5 := heap_setCell_same _ p 5 _ 30 v5 h4
 have h6 := heap_setCell_same _ p 6 _ 30 v6 h5
 have h7 := heap_setCell_same _ p 7 _ 30 v7 h6
 simpa using h7
theorem set8_below {n : Nat} {w W : World} {p : Nat} (hp : n <= p) (h : Below n w W) (v0 v1 v2 v3 v4 v5 v6 v7 : Value) : Below n w ((((((((W.setCell ⟨p, 0, none⟩ v0).setCell ⟨p, 1, none⟩ v1).setCell ⟨p, 2, none⟩ v2).setCell ⟨p, 3, none⟩ v3).setCell ⟨p, 4, none⟩ v4).setCell ⟨p, 5, none⟩ v5).setCell ⟨p, 6, none⟩ v6).setCell ⟨p, 7, none⟩ v7) :=
 (((((((h.setCell hp v0).setCell hp v1).setCell hp v2).setCell hp v3).setCell hp v4).setCell hp v5).setCell hp v6).setCell hp v7
theorem name_is (s : ByteArray) (z : Nat) (h : 21 + z <= s.size) : (restC s).extract 0 z = s.extract 21 (21 + z) := by
 unfold restC
 rw [ByteArray.extract_extract]
 congr 1 <;> omega
theorem data_is (s : ByteArray) (z : Nat) (h : 21 + z <= s.size) : (restC s).extract z (restC s).size = s.extract (21 + z) s.size := by
 have hs : (restC s).size = s.size - 21 := ext_size s (by omega) (Nat.le_refl _)
 rw [hs]
 unfold restC
 rw [ByteArray.extract_extract]
 congr 1 <;> omega
attribute [local go_sem 9000] eql_cmd84
theorem dParse_any (kd : Int) (s : ByteArray) (w : World) (hs : s.size <= 1000000) :
  Calls prog 11 #[.int .i64 kd, .string s] w λe w' => e = .returned (.tuple #[.agg (ccs (parseC kd s).1), .int .i64 (parseC kd s).2]) /\ Below w.heap.size w w' := by
 have HB := hid (show Bxs w [(w.heap.size, zcc, 30)] (w.alloc (.cells zcc 30)) from Bxs.one w _ _)
 unfold parseC readC
 by_cases h21 : s.size < 21
 ·rw [if_pos h21]
  have h21i : (s.size : Int) < 21 := by omega
  clear h21 hs
  go_enter func11, ntmps11
  go_wp2_with (first | (refine store_bx HB.out 0 rfl 30 _ _ rfl rfl zcc rfl rfl (by kernel_rfl) rfl rfl (by decide) (by decide) ?_; intro w9 hS hK9 hbS hsS; have HBS := hid hS; clear hS hK9 hbS hsS) | fail)
  refine bodyPost_ret_by (results_cmdR rfl _ _ w.heap.size _ _ _ _ _ _ _ _ rfl (HBS.out.obj 0 rfl)) rfl ?_
  exact ⟨rfl, HBS.out.below⟩
 rw [if_neg h21]
 have h21i : ¬ (s.size : Int) < 21 := by omega
 have h20 : 20 < s.size := by omega
 have h20i : (20 : Int) < (s.size : Int) := by omega
 have hrs : (restC s).size = s.size - 21 := ext_size s (by omega) (Nat.le_refl _)
 have hzs : s[20].toNat = szC s := by unfold szC; rw [b_at s h20]
 have hw : wrap64 ((s[20].toNat : Nat) : Int) = ((szC s : Nat) : Int) := by
  have h1 := s[20].toNat_lt
  rw [IntWalk.wrap64_in _ (by omega), hzs]
 have hz : szC s < 256 := by rw [<- hzs]; exact s[20].toNat_lt
 have hsi : (s.size : Int) <= 1000000 := by omega
 by_cases hlt : (restC s).size < szC s
 ·rw [if_pos hlt]
  have hl : (s.size : Int) < 21 + (szC s : Int) := by omega
  generalize szC s = z at *
  have hzi : (z : Int) < 256 := by omega
  clear hrs hzs hlt h21 hz
  go_enter func11, ntmps11
  go_wp2_with (first | (refine store_bx HB.out 0 rfl 30 _ _ rfl rfl zcc rfl rfl (by kernel_rfl) rfl rfl (by decide) (by decide) ?_; intro w9 hS hK9 hbS hsS; have HBS := hid hS; clear hS hK9 hbS hsS) | fail)
  refine bodyPost_ret_by (results_cmdR rfl _ _ w.heap.size _ _ _ _ _ _ _ _ rfl (HBS.out.obj 0 rfl)) rfl ?_
  exact ⟨rfl, HBS.out.below⟩
 rw [if_neg hlt]
 have hl : ¬ (s.size : Int) < 21 + (szC s : Int) := by omega
 have hle : 21 + szC s <= s.size := by omega
 have hlei : 21 + (szC s : Int) <= (s.size : Int) := by omega
 have hc : cmdOf kd s = ⟨kd, num4 s 0, num4 s 1, num4 s 2, num4 s 3, num4 s 4, s.extract 21 (21 + szC s), s.extract (21 + szC s) s.size⟩ := by
  unfold cmdOf; rw [name_is s _ hle, data_is s _ hle]
 rw [hc]
 have G0 := hid (λW => dget0_any s W (by omega))
 have G1 := hid (λW => dget1_any s W (by omega))
 have G2 := hid (λW => dget2_any s W (by omega))
 have G3 := hid (λW => dget3_any s W (by omega))
 have G4 := hid (λW => dget4_any s W (by omega))
 generalize num4 s 0 = z0 at *
 generalize num4 s 1 = z1 at *
 generalize num4 s 2 = z2 at *
 generalize num4 s 3 = z3 at *
 generalize num4 s 4 = z4 at *
 obtain ⟨m, hm⟩ : ∃ m, 21 + szC s = m := ⟨_, rfl⟩
 have hmz : (21 : Int) + (szC s : Int) = (m : Int) := by omega
 rw [hm]
 have HDr := hid (λW => dRight_any kd z0 z1 z2 z3 z4 (s.extract 21 m) (s.extract m s.size) W)
 generalize hyn : s.extract 21 m = yn at *
 generalize hyd : s.extract m s.size = yd at *
 have hwr : IntKind.i64.wrap (21 + (szC s : Int)) = (m : Int) := by rw [hmz]; exact IntWalk.i64_in _ (by omega)
 have hl2 : ¬ (s.size : Int) < (m : Int) := by omega
 have hle2 : (m : Int) <= (s.size : Int) := by omega
 have hle3 : (21 : Int) <= (m : Int) := by omega
 have hle0 : (0 : Int) <= (m : Int) := by omega
 generalize szC s = z at *
 show Calls prog 11 _ w λe w' => e = .returned (.tuple #[.agg (ccs (if rightC ⟨kd, z0, z1, z2, z3, z4, yn, yd⟩ = true then (⟨kd, z0, z1, z2, z3, z4, yn, yd⟩, (0 : Int)) else (cz, 2)).1), .int .i64 (if rightC ⟨kd, z0, z1, z2, z3, z4, yn, yd⟩ = true then ((⟨kd, z0, z1, z2, z3, z4, yn, yd⟩ : Fs.Cmd), (0 : Int)) else (cz, 2)).2]) /\ Below w.heap.size w w'
 generalize rightC ⟨kd, z0, z1, z2, z3, z4, yn, yd⟩ = b at *
 obtain ⟨R, hR⟩ : ∃ R, (if b = true then ((⟨kd, z0, z1, z2, z3, z4, yn, yd⟩ : Fs.Cmd), (0 : Int)) else (cz, 2)) = R := ⟨_, rfl⟩
 rw [hR]
 have HR := hid hR
 clear hR
 clear hc hrs hzs hlt h21 hz hl hle hlei hm hs
 go_enter func11, ntmps11
 go_wp2_with fail
 generalize w.alloc (.cells #[.int .i64 0, .int .i64 0, .int .i64 0, .int .i64 0, .int .i64 0, .int .i64 0, .string ⟨#[]⟩, .string ⟨#[]⟩] 30) = W0 at HB |-
 have hBd := (Below.refl W0.heap.size W0).drew
 go_region_held3 (λW => Below W0.heap.size W0 W)
  (first | (with_reducible assumption) | (with_reducible exact bmq (by assumption) _) | (with_reducible exact (bmq (Below.refl _ _) _).drew) | (with_reducible exact set8_below (by first | exact Nat.le_refl _ | exact Below.size (by assumption)) (by assumption) _ _ _ _ _ _ _ _))
  (first
    | (go_at_call 48; (with_reducible refine (G0.out _).mono ?_); rintro e wk0 ⟨rfl, hw0⟩; have hb0 := T8.btrans hw0 (by assumption); (first | (with_reducible have hz := zb_stays hw0 (zb_made_d _)) | (with_reducible have hz := zb_stays hw0 (zb_made _)) | (replace hz := zb_stays hw0 hz) | skip); (try have zf0 := zb_facts hz))
    | (go_at_call 48; (with_reducible refine (G1.out _).mono ?_); rintro e wk1 ⟨rfl, hw1⟩; have hb1 := T8.btrans hw1 (by assumption); (first | (with_reducible have hz := zb_stays hw1 (zb_made_d _)) | (with_reducible have hz := zb_stays hw1 (zb_made _)) | (replace hz := zb_stays hw1 hz) | skip); (try have zf1 := zb_facts hz))
    | (go_at_call 48; (with_reducible refine (G2.out _).mono ?_); rintro e wk2 ⟨rfl, hw2⟩; have hb2 := T8.btrans hw2 (by assumption); (first | (with_reducible have hz := zb_stays hw2 (zb_made_d _)) | (with_reducible have hz := zb_stays hw2 (zb_made _)) | (replace hz := zb_stays hw2 hz) | skip); (try have zf2 := zb_facts hz))
    | (go_at_call 48; (with_reducible refine (G3.out _).mono ?_); rintro e wk3 ⟨rfl, hw3⟩; have hb3 := T8.btrans hw3 (by assumption); (first | (with_reducible have hz := zb_stays hw3 (zb_made_d _)) | (with_reducible have hz := zb_stays hw3 (zb_made _)) | (replace hz := zb_stays hw3 hz) | skip); (try have zf3 := zb_facts hz))
    | (go_at_call 48; (with_reducible refine (G4.out _).mono ?_); rintro e wk4 ⟨rfl, hw4⟩; have hb4 := T8.btrans hw4 (by assumption); (first | (with_reducible have hz := zb_stays hw4 (zb_made_d _)) | (with_reducible have hz := zb_stays hw4 (zb_made _)) | (replace hz := zb_stays hw4 hz) | skip); (try have zf4 := zb_facts hz)))
 ·have hP := heap_alloc_new wk4 (.cells #[.int .i64 kd, .int .i64 z0, .int .i64 z1, .int .i64 z2, .int .i64 z3, .int .i64 z4, .string yn, .string yd] 30)
  have hB6 := bmq hb4 (.cells #[.int .i64 kd, .int .i64 z0, .int .i64 z1, .int .i64 z2, .int .i64 z3, .int .i64 z4, .string yn, .string yd] 30)
  clear hb0 hb1 hb2 hb3 hb4 hw0 hw1 hw2 hw3 hw4
  generalize wk4.alloc (.cells #[.int .i64 kd, .int .i64 z0, .int .i64 z1, .int .i64 z2, .int .i64 z3, .int .i64 z4, .string yn, .string yd] 30) = W6 at hP hB6 |-
  generalize wk4.heap.size = p6 at hP |-
  have HB6 := hid (HB.out.kept hB6)
  have hy := And.intro (cell_obj hP 0) (And.intro (cell_obj hP 1) (And.intro (cell_obj hP 2) (And.intro (cell_obj hP 3) (And.intro (cell_obj hP 4) (And.intro (cell_obj hP 5) (And.intro (cell_obj hP 6) (cell_obj hP 7)))))))
  go_wp2_with fail
  refine (HDr.out W6).mono ?_
  rintro e w7 ⟨rfl, hb7⟩
  have HB := hid (HB6.out.kept hb7)
  have hP7 := (hb7.block _ (lt_of_obj hP)).trans hP
  have hy := And.intro (cell_obj hP7 0) (And.intro (cell_obj hP7 1) (And.intro (cell_obj hP7 2) (And.intro (cell_obj hP7 3) (And.intro (cell_obj hP7 4) (And.intro (cell_obj hP7 5) (And.intro (cell_obj hP7 6) (cell_obj hP7 7)))))))
  clear hb7 HB6
  dsimp only
  cases b with
  | true =>
   go_wp2_with (first | (refine store_bx HB.out 0 rfl 30 _ _ rfl rfl #[.int .i64 kd, .int .i64 z0, .int .i64 z1, .int .i64 z2, .int .i64 z3, .int .i64 z4, .string yn, .string yd] rfl rfl (by kernel_rfl) rfl rfl (by decide) (by decide) ?_; intro w9 hS hK9 hbS hsS; have HBS := hid hS; clear hS hK9 hbS hsS) | fail)
   refine bodyPost_ret_by (results_cmdR rfl _ _ w.heap.size _ _ _ _ _ _ _ _ rfl (HBS.out.obj 0 rfl)) rfl ?_
   exact ⟨by rw [<- HR.out]; rfl, HBS.out.below⟩
  | false =>
   go_wp2_with (first | (refine store_bx HB.out 0 rfl 30 _ _ rfl rfl zcc rfl rfl (by kernel_rfl) rfl rfl (by decide) (by decide) ?_; intro w9 hS hK9 hbS hsS; have HBS := hid hS; clear hS hK9 hbS hsS) | fail)
   refine bodyPost_ret_by (results_cmdR rfl _ _ w.heap.size _ _ _ _ _ _ _ _ rfl (HBS.out.obj 0 rfl)) rfl ?_
   exact ⟨by rw [<- HR.out]; rfl, HBS.out.below⟩
 ·have hP := set8_obj hz (.int .i64 kd) (.int .i64 z0) (.int .i64 z1) (.int .i64 z2) (.int .i64 z3) (.int .i64 z4) (.string yn) (.string yd)
  have hB6 := set8_below (p := wk3.heap.size) hb3.size hb4 (.int .i64 kd) (.int .i64 z0) (.int .i64 z1) (.int .i64 z2) (.int .i64 z3) (.int .i64 z4) (.string yn) (.string yd)
  clear hz hb0 hb1 hb2 hb3 hb4 hw0 hw1 hw2 hw3 hw4
  (try clear zf0); (try clear zf1); (try clear zf2); (try clear zf3); (try clear zf4)
  generalize ((((((((wk4.setCell ⟨wk3.heap.size, 0, none⟩ (.int .i64 kd)).setCell ⟨wk3.heap.size, 1, none⟩ (.int .i64 z0)).setCell ⟨wk3.heap.size, 2, none⟩ (.int .i64 z1)).setCell ⟨wk3.heap.size, 3, none⟩ (.int .i64 z2)).setCell ⟨wk3.heap.size, 4, none⟩ (.int .i64 z3)).setCell ⟨wk3.heap.size, 5, none⟩ (.int .i64 z4)).setCell ⟨wk3.heap.size, 6, none⟩ (.string yn)).setCell ⟨wk3.heap.size, 7, none⟩ (.string yd)) = W6 at hP hB6 |-
  generalize hpp : wk3.heap.size = p6 at hP |-
  clear hpp
  have HB6 := hid (HB.out.kept hB6)
  have hy := And.intro (cell_obj hP 0) (And.intro (cell_obj hP 1) (And.intro (cell_obj hP 2) (And.intro (cell_obj hP 3) (And.intro (cell_obj hP 4) (And.intro (cell_obj hP 5) (And.intro (cell_obj hP 6) (cell_obj hP 7)))))))
  go_wp2_with fail
  refine (HDr.out W6).mono ?_
  rintro e w7 ⟨rfl, hb7⟩
  have HB := hid (HB6.out.kept hb7)
  have hP7 := (hb7.block _ (lt_of_obj hP)).trans hP
  have hy := And.intro (cell_obj hP7 0) (And.intro (cell_obj hP7 1) (And.intro (cell_obj hP7 2) (And.intro (cell_obj hP7 3) (And.intro (cell_obj hP7 4) (And.intro (cell_obj hP7 5) (And.intro (cell_obj hP7 6) (cell_obj hP7 7)))))))
  clear hb7 HB6
  dsimp only
  cases b with
  | true =>
   go_wp2_with (first | (refine store_bx HB.out 0 rfl 30 _ _ rfl rfl #[.int .i64 kd, .int .i64 z0, .int .i64 z1, .int .i64 z2, .int .i64 z3, .int .i64 z4, .string yn, .string yd] rfl rfl (by kernel_rfl) rfl rfl (by decide) (by decide) ?_; intro w9 hS hK9 hbS hsS; have HBS := hid hS; clear hS hK9 hbS hsS) | fail)
   refine bodyPost_ret_by (results_cmdR rfl _ _ w.heap.size _ _ _ _ _ _ _ _ rfl (HBS.out.obj 0 rfl)) rfl ?_
   exact ⟨by rw [<- HR.out]; rfl, HBS.out.below⟩
  | false =>
   go_wp2_with (first | (refine store_bx HB.out 0 rfl 30 _ _ rfl rfl zcc rfl rfl (by kernel_rfl) rfl rfl (by decide) (by decide) ?_; intro w9 hS hK9 hbS hsS; have HBS := hid hS; clear hS hK9 hbS hsS) | fail)
   refine bodyPost_ret_by (results_cmdR rfl _ _ w.heap.size _ _ _ _ _ _ _ _ rfl (HBS.out.obj 0 rfl)) rfl ?_
   exact ⟨by rw [<- HR.out]; rfl, HBS.out.below⟩
 ·have hP := set8_obj hz (.int .i64 kd) (.int .i64 z0) (.int .i64 z1) (.int .i64 z2) (.int .i64 z3) (.int .i64 z4) (.string yn) (.string yd)
  have hB6 := set8_below (p := wk2.heap.size) hb2.size hb4 (.int .i64 kd) (.int .i64 z0) (.int .i64 z1) (.int .i64 z2) (.int .i64 z3) (.int .i64 z4) (.string yn) (.string yd)
  clear hz hb0 hb1 hb2 hb3 hb4 hw0 hw1 hw2 hw3 hw4
  (try clear zf0); (try clear zf1); (try clear zf2); (try clear zf3); (try clear zf4)
  generalize ((((((((wk4.setCell ⟨wk2.heap.size, 0, none⟩ (.int .i64 kd)).setCell ⟨wk2.heap.size, 1, none⟩ (.int .i64 z0)).setCell ⟨wk2.heap.size, 2, none⟩ (.int .i64 z1)).setCell ⟨wk2.heap.size, 3, none⟩ (.int .i64 z2)).setCell ⟨wk2.heap.size, 4, none⟩ (.int .i64 z3)).setCell ⟨wk2.heap.size, 5, none⟩ (.int .i64 z4)).setCell ⟨wk2.heap.size, 6, none⟩ (.string yn)).setCell ⟨wk2.heap.size, 7, none⟩ (.string yd)) = W6 at hP hB6 |-
  generalize hpp : wk2.heap.size = p6 at hP |-
  clear hpp
  have HB6 := hid (HB.out.kept hB6)
  have hy := And.intro (cell_obj hP 0) (And.intro (cell_obj hP 1) (And.intro (cell_obj hP 2) (And.intro (cell_obj hP 3) (And.intro (cell_obj hP 4) (And.intro (cell_obj hP 5) (And.intro (cell_obj hP 6) (cell_obj hP 7)))))))
  go_wp2_with fail
  refine (HDr.out W6).mono ?_
  rintro e w7 ⟨rfl, hb7⟩
  have HB := hid (HB6.out.kept hb7)
  have hP7 := (hb7.block _ (lt_of_obj hP)).trans hP
  have hy := And.intro (cell_obj hP7 0) (And.intro (cell_obj hP7 1) (And.intro (cell_obj hP7 2) (And.intro (cell_obj hP7 3) (And.intro (cell_obj hP7 4) (And.intro (cell_obj hP7 5) (And.intro (cell_obj hP7 6) (cell_obj hP7 7)))))))
  clear hb7 HB6
  dsimp only
  cases b with
  | true =>
   go_wp2_with (first | (refine store_bx HB.out 0 rfl 30 _ _ rfl rfl #[.int .i64 kd, .int .i64 z0, .int .i64 z1, .int .i64 z2, .int .i64 z3, .int .i64 z4, .string yn, .string yd] rfl rfl (by kernel_rfl) rfl rfl (by decide) (by decide) ?_; intro w9 hS hK9 hbS hsS; have HBS := hid hS; clear hS hK9 hbS hsS) | fail)
   refine bodyPost_ret_by (results_cmdR rfl _ _ w.heap.size _ _ _ _ _ _ _ _ rfl (HBS.out.obj 0 rfl)) rfl ?_
   exact ⟨by rw [<- HR.out]; rfl, HBS.out.below⟩
  | false =>
   go_wp2_with (first | (refine store_bx HB.out 0 rfl 30 _ _ rfl rfl zcc rfl rfl (by kernel_rfl) rfl rfl (by decide) (by decide) ?_; intro w9 hS hK9 hbS hsS; have HBS := hid hS; clear hS hK9 hbS hsS) | fail)
   refine bodyPost_ret_by (results_cmdR rfl _ _ w.heap.size _ _ _ _ _ _ _ _ rfl (HBS.out.obj 0 rfl)) rfl ?_
   exact ⟨by rw [<- HR.out]; rfl, HBS.out.below⟩
 ·have hP := set8_obj hz (.int .i64 kd) (.int .i64 z0) (.int .i64 z1) (.int .i64 z2) (.int .i64 z3) (.int .i64 z4) (.string yn) (.string yd)
  have hB6 := set8_below (p := wk1.heap.size) hb1.size hb4 (.int .i64 kd) (.int .i64 z0) (.int .i64 z1) (.int .i64 z2) (.int .i64 z3) (.int .i64 z4) (.string yn) (.string yd)
  clear hz hb0 hb1 hb2 hb3 hb4 hw0 hw1 hw2 hw3 hw4
  (try clear zf0); (try clear zf1); (try clear zf2); (try clear zf3); (try clear zf4)
  generalize ((((((((wk4.setCell ⟨wk1.heap.size, 0, none⟩ (.int .i64 kd)).setCell ⟨wk1.heap.size, 1, none⟩ (.int .i64 z0)).setCell ⟨wk1.heap.size, 2, none⟩ (.int .i64 z1)).setCell ⟨wk1.heap.size, 3, none⟩ (.int .i64 z2)).setCell ⟨wk1.heap.size, 4, none⟩ (.int .i64 z3)).setCell ⟨wk1.heap.size, 5, none⟩ (.int .i64 z4)).setCell ⟨wk1.heap.size, 6, none⟩ (.string yn)).setCell ⟨wk1.heap.size, 7, none⟩ (.string yd)) = W6 at hP hB6 |-
  generalize hpp : wk1.heap.size = p6 at hP |-
  clear hpp
  have HB6 := hid (HB.out.kept hB6)
  have hy := And.intro (cell_obj hP 0) (And.intro (cell_obj hP 1) (And.intro (cell_obj hP 2) (And.intro (cell_obj hP 3) (And.intro (cell_obj hP 4) (And.intro (cell_obj hP 5) (And.intro (cell_obj hP 6) (cell_obj hP 7)))))))
  go_wp2_with fail
  refine (HDr.out W6).mono ?_
  rintro e w7 ⟨rfl, hb7⟩
  have HB := hid (HB6.out.kept hb7)
  have hP7 := (hb7.block _ (lt_of_obj hP)).trans hP
  have hy := And.intro (cell_obj hP7 0) (And.intro (cell_obj hP7 1) (And.intro (cell_obj hP7 2) (And.intro (cell_obj hP7 3) (And.intro (cell_obj hP7 4) (And.intro (cell_obj hP7 5) (And.intro (cell_obj hP7 6) (cell_obj hP7 7)))))))
  clear hb7 HB6
  dsimp only
  cases b with
  | true =>
   go_wp2_with (first | (refine store_bx HB.out 0 rfl 30 _ _ rfl rfl #[.int .i64 kd, .int .i64 z0, .int .i64 z1, .int .i64 z2, .int .i64 z3, .int .i64 z4, .string yn, .string yd] rfl rfl (by kernel_rfl) rfl rfl (by decide) (by decide) ?_; intro w9 hS hK9 hbS hsS; have HBS := hid hS; clear hS hK9 hbS hsS) | fail)
   refine bodyPost_ret_by (results_cmdR rfl _ _ w.heap.size _ _ _ _ _ _ _ _ rfl (HBS.out.obj 0 rfl)) rfl ?_
   exact ⟨by rw [<- HR.out]; rfl, HBS.out.below⟩
  | false =>
   go_wp2_with (first | (refine store_bx HB.out 0 rfl 30 _ _ rfl rfl zcc rfl rfl (by kernel_rfl) rfl rfl (by decide) (by decide) ?_; intro w9 hS hK9 hbS hsS; have HBS := hid hS; clear hS hK9 hbS hsS) | fail)
   refine bodyPost_ret_by (results_cmdR rfl _ _ w.heap.size _ _ _ _ _ _ _ _ rfl (HBS.out.obj 0 rfl)) rfl ?_
   exact ⟨by rw [<- HR.out]; rfl, HBS.out.below⟩
 ·have hP := set8_obj hz (.int .i64 kd) (.int .i64 z0) (.int .i64 z1) (.int .i64 z2) (.int .i64 z3) (.int .i64 z4) (.string yn) (.string yd)
  have hB6 := set8_below (p := wk0.heap.size) hb0.size hb4 (.int .i64 kd) (.int .i64 z0) (.int .i64 z1) (.int .i64 z2) (.int .i64 z3) (.int .i64 z4) (.string yn) (.string yd)
  clear hz hb0 hb1 hb2 hb3 hb4 hw0 hw1 hw2 hw3 hw4
  (try clear zf0); (try clear zf1); (try clear zf2); (try clear zf3); (try clear zf4)
  generalize ((((((((wk4.setCell ⟨wk0.heap.size, 0, none⟩ (.int .i64 kd)).setCell ⟨wk0.heap.size, 1, none⟩ (.int .i64 z0)).setCell ⟨wk0.heap.size, 2, none⟩ (.int .i64 z1)).setCell ⟨wk0.heap.size, 3, none⟩ (.int .i64 z2)).setCell ⟨wk0.heap.size, 4, none⟩ (.int .i64 z3)).setCell ⟨wk0.heap.size, 5, none⟩ (.int .i64 z4)).setCell ⟨wk0.heap.size, 6, none⟩ (.string yn)).setCell ⟨wk0.heap.size, 7, none⟩ (.string yd)) = W6 at hP hB6 |-
  generalize hpp : wk0.heap.size = p6 at hP |-
  clear hpp
  have HB6 := hid (HB.out.kept hB6)
  have hy := And.intro (cell_obj hP 0) (And.intro (cell_obj hP 1) (And.intro (cell_obj hP 2) (And.intro (cell_obj hP 3) (And.intro (cell_obj hP 4) (And.intro (cell_obj hP 5) (And.intro (cell_obj hP 6) (cell_obj hP 7)))))))
  go_wp2_with fail
  refine (HDr.out W6).mono ?_
  rintro e w7 ⟨rfl, hb7⟩
  have HB := hid (HB6.out.kept hb7)
  have hP7 := (hb7.block _ (lt_of_obj hP)).trans hP
  have hy := And.intro (cell_obj hP7 0) (And.intro (cell_obj hP7 1) (And.intro (cell_obj hP7 2) (And.intro (cell_obj hP7 3) (And.intro (cell_obj hP7 4) (And.intro (cell_obj hP7 5) (And.intro (cell_obj hP7 6) (cell_obj hP7 7)))))))
  clear hb7 HB6
  dsimp only
  cases b with
  | true =>
   go_wp2_with (first | (refine store_bx HB.out 0 rfl 30 _ _ rfl rfl #[.int .i64 kd, .int .i64 z0, .int .i64 z1, .int .i64 z2, .int .i64 z3, .int .i64 z4, .string yn, .string yd] rfl rfl (by kernel_rfl) rfl rfl (by decide) (by decide) ?_; intro w9 hS hK9 hbS hsS; have HBS := hid hS; clear hS hK9 hbS hsS) | fail)
   refine bodyPost_ret_by (results_cmdR rfl _ _ w.heap.size _ _ _ _ _ _ _ _ rfl (HBS.out.obj 0 rfl)) rfl ?_
   exact ⟨by rw [<- HR.out]; rfl, HBS.out.below⟩
  | false =>
   go_wp2_with (first | (refine store_bx HB.out 0 rfl 30 _ _ rfl rfl zcc rfl rfl (by kernel_rfl) rfl rfl (by decide) (by decide) ?_; intro w9 hS hK9 hbS hsS; have HBS := hid hS; clear hS hK9 hbS hsS) | fail)
   refine bodyPost_ret_by (results_cmdR rfl _ _ w.heap.size _ _ _ _ _ _ _ _ rfl (HBS.out.obj 0 rfl)) rfl ?_
   exact ⟨by rw [<- HR.out]; rfl, HBS.out.below⟩
 ·have hP := set8_obj hz (.int .i64 kd) (.int .i64 z0) (.int .i64 z1) (.int .i64 z2) (.int .i64 z3) (.int .i64 z4) (.string yn) (.string yd)
  have hB6 := set8_below (p := W0.heap.size) (Nat.le_refl _) hb4 (.int .i64 kd) (.int .i64 z0) (.int .i64 z1) (.int .i64 z2) (.int .i64 z3) (.int .i64 z4) (.string yn) (.string yd)
  clear hz hb0 hb1 hb2 hb3 hb4 hw0 hw1 hw2 hw3 hw4
  (try clear zf0); (try clear zf1); (try clear zf2); (try clear zf3); (try clear zf4)
  generalize ((((((((wk4.setCell ⟨W0.heap.size, 0, none⟩ (.int .i64 kd)).setCell ⟨W0.heap.size, 1, none⟩ (.int .i64 z0)).setCell ⟨W0.heap.size, 2, none⟩ (.int .i64 z1)).setCell ⟨W0.heap.size, 3, none⟩ (.int .i64 z2)).setCell ⟨W0.heap.size, 4, none⟩ (.int .i64 z3)).setCell ⟨W0.heap.size, 5, none⟩ (.int .i64 z4)).setCell ⟨W0.heap.size, 6, none⟩ (.string yn)).setCell ⟨W0.heap.size, 7, none⟩ (.string yd)) = W6 at hP hB6 |-
  generalize hpp : W0.heap.size = p6 at hP |-
  clear hpp
  have HB6 := hid (HB.out.kept hB6)
  have hy := And.intro (cell_obj hP 0) (And.intro (cell_obj hP 1) (And.intro (cell_obj hP 2) (And.intro (cell_obj hP 3) (And.intro (cell_obj hP 4) (And.intro (cell_obj hP 5) (And.intro (cell_obj hP 6) (cell_obj hP 7)))))))
  go_wp2_with fail
  refine (HDr.out W6).mono ?_
  rintro e w7 ⟨rfl, hb7⟩
  have HB := hid (HB6.out.kept hb7)
  have hP7 := (hb7.block _ (lt_of_obj hP)).trans hP
  have hy := And.intro (cell_obj hP7 0) (And.intro (cell_obj hP7 1) (And.intro (cell_obj hP7 2) (And.intro (cell_obj hP7 3) (And.intro (cell_obj hP7 4) (And.intro (cell_obj hP7 5) (And.intro (cell_obj hP7 6) (cell_obj hP7 7)))))))
  clear hb7 HB6
  dsimp only
  cases b with
  | true =>
   go_wp2_with (first | (refine store_bx HB.out 0 rfl 30 _ _ rfl rfl #[.int .i64 kd, .int .i64 z0, .int .i64 z1, .int .i64 z2, .int .i64 z3, .int .i64 z4, .string yn, .string yd] rfl rfl (by kernel_rfl) rfl rfl (by decide) (by decide) ?_; intro w9 hS hK9 hbS hsS; have HBS := hid hS; clear hS hK9 hbS hsS) | fail)
   refine bodyPost_ret_by (results_cmdR rfl _ _ w.heap.size _ _ _ _ _ _ _ _ rfl (HBS.out.obj 0 rfl)) rfl ?_
   exact ⟨by rw [<- HR.out]; rfl, HBS.out.below⟩
  | false =>
   go_wp2_with (first | (refine store_bx HB.out 0 rfl 30 _ _ rfl rfl zcc rfl rfl (by kernel_rfl) rfl rfl (by decide) (by decide) ?_; intro w9 hS hK9 hbS hsS; have HBS := hid hS; clear hS hK9 hbS hsS) | fail)
   refine bodyPost_ret_by (results_cmdR rfl _ _ w.heap.size _ _ _ _ _ _ _ _ rfl (HBS.out.obj 0 rfl)) rfl ?_
   exact ⟨by rw [<- HR.out]; rfl, HBS.out.below⟩
end Go.Proofs.YthbajmlmjjfgpaaGreatDoor
namespace Go.Proofs.YthbajmlmjjfgpaaGreatDoor
open Go.RowKit Go.Less
open T8 (pv Dg)
theorem sem_sameT (t : TypeId) (a : ByteArray) : binOp .neq t (.string a) (.string a) = pure (.bool false) := by rw [sem_neq, alike_self]; rfl
theorem sem_selfC (t : TypeId) (W : World) (a b c d e f : Int) (g h : ByteArray) (ht : t = 30) : (binOp .neq t (.agg #[.int .i64 a, .int .i64 b, .int .i64 c, .int .i64 d, .int .i64 e, .int .i64 f, .string g, .string h]) (.agg #[.int .i64 a, .int .i64 b, .int .i64 c, .int .i64 d, .int .i64 e, .int .i64 f, .string g, .string h])).run prog W = .ok (.bool false) W := by
 subst ht
 rw [neq_cmd84, sameC_iff.2 rfl]; rfl
theorem neq84_self (W : World) (a b c d e f : Int) (g h : ByteArray) : (binOp .neq 30 (.agg #[.int .i64 a, .int .i64 b, .int .i64 c, .int .i64 d, .int .i64 e, .int .i64 f, .string g, .string h]) (.agg #[.int .i64 a, .int .i64 b, .int .i64 c, .int .i64 d, .int .i64 e, .int .i64 f, .string g, .string h])).run prog W = .ok (.bool false) W := sem_selfC 30 W a b c d e f g h rfl
theorem eql80_self (W : World) (a b c d e f : Int) (g h : ByteArray) : (binOp .eql 23 (.agg #[.int .i64 a, .int .i64 b, .int .i64 c, .int .i64 d, .int .i64 e, .int .i64 f, .string g, .string h]) (.agg #[.int .i64 a, .int .i64 b, .int .i64 c, .int .i64 d, .int .i64 e, .int .i64 f, .string g, .string h])).run prog W = .ok (.bool true) W := by
 rw [eql_cmd80, sameC_iff.2 rfl]
theorem bnd2 {P Q : Prop} (h : P /\ Q) : Q := h.2
attribute [local go_sem 9000] sem_eql sem_neq
attribute [local go_sem 9500] sem_sameT neq84_self eql80_self
theorem cmdTexts_any (kd i0 i1 i2 i3 i4 : Int) (nm da : ByteArray) (s : ByteArray) (k : Int) (w : World) (_hs : s.size <= 140737488355328) (hD : Dg w) (hT : Tn w) :
  Calls prog 3 #[.agg #[.int .i64 kd, .int .i64 i0, .int .i64 i1, .int .i64 i2, .int .i64 i3, .int .i64 i4, .string nm, .string da], .int .i64 k, .string s] w λe w' => e = .returned (.bool true) /\ Below w.heap.size w w' := by
 have HB := hid (show Bxs w [(w.heap.size, #[.int .i64 kd, .int .i64 i0, .int .i64 i1, .int .i64 i2, .int .i64 i3, .int .i64 i4, .string nm, .string da], 23)] (w.alloc (.cells #[.int .i64 kd, .int .i64 i0, .int .i64 i1, .int .i64 i2, .int .i64 i3, .int .i64 i4, .string nm, .string da] 23)) from Bxs.one w _ _)
 have HAw := hid (λW (hb : Below w.heap.size w W) => awake13_any W (hD.below hb) (hT.below hb))
 have HTn := hid (λW (hb : Below w.heap.size w W) => hT.below hb)
 clear hD hT
 by_cases hz : nm.size <= 1000 /\ da.size <= 5000 /\ s.size <= 6000
 ·obtain ⟨z1, z2, z3⟩ := hz
  have HP := hid (λW (hb : Below w.heap.size w W) => printC_any kd i0 i1 i2 i3 i4 nm da W (HTn.out W hb))
  have HDp := hid (λW => dPrint_any kd i0 i1 i2 i3 i4 nm da W)
  have HQ := hid (λW (hb : Below w.heap.size w W) => parseC_any k s W (by omega) (HTn.out W hb))
  have HDq := hid (λW => dParse_any k s W (by omega))
  have HR := hid (λW (hb : Below w.heap.size w W) => rightC_any kd i0 i1 i2 i3 i4 nm da W (HTn.out W hb))
  have HDr := hid (λW => dRight_any kd i0 i1 i2 i3 i4 nm da W)
  have HRt := hid (λ(h : rightC ⟨kd, i0, i1, i2, i3, i4, nm, da⟩ = true) W (hb : Below w.heap.size w W) => (show Calls prog 10 #[.int .i64 kd, .string (printC ⟨kd, i0, i1, i2, i3, i4, nm, da⟩).1] W (λe w' => e = .returned (.tuple #[.agg #[.int .i64 kd, .int .i64 i0, .int .i64 i1, .int .i64 i2, .int .i64 i3, .int .i64 i4, .string nm, .string da], .int .i64 0]) /\ Below W.heap.size W w') from by
   have hp := rightC_parts h
   have hsz : (printC ⟨kd, i0, i1, i2, i3, i4, nm, da⟩).1.size <= 1000000 := by
    unfold printC
    rw [if_pos h, lstr_size, printL_len]
    have := hp.2.1; have := hp.2.2.1
    omega
   have := parseC_any kd (printC ⟨kd, i0, i1, i2, i3, i4, nm, da⟩).1 W hsz (HTn.out W hb)
   rw [show parseC kd (printC ⟨kd, i0, i1, i2, i3, i4, nm, da⟩).1 = (⟨kd, i0, i1, i2, i3, i4, nm, da⟩, 0) from parse_print h] at this
   exact this))
  have HE := hid (show (rightC ⟨kd, i0, i1, i2, i3, i4, nm, da⟩ = true /\ (printC ⟨kd, i0, i1, i2, i3, i4, nm, da⟩).2 = 0) \/ (printC ⟨kd, i0, i1, i2, i3, i4, nm, da⟩).2 = 2 from by
   unfold printC
   cases h : rightC ⟨kd, i0, i1, i2, i3, i4, nm, da⟩ with
   | true => exact .inl ⟨rfl, by rw [if_pos rfl]⟩
   | false => exact .inr (by rw [if_neg (by simp)]))
  have n1 : ¬ (1000 : Int) < (nm.size : Int) := by omega
  have n2 : ¬ (5000 : Int) < (da.size : Int) := by omega
  have n3 : ¬ (6000 : Int) < (s.size : Int) := by omega
  generalize rightC ⟨kd, i0, i1, i2, i3, i4, nm, da⟩ = R at *
  generalize (printC ⟨kd, i0, i1, i2, i3, i4, nm, da⟩).1 = T at *
  generalize (printC ⟨kd, i0, i1, i2, i3, i4, nm, da⟩).2 = E at *
  generalize (parseC k s).2 = F at *
  obtain ⟨⟨y0, y1, y2, y3, y4, y5, y6, y7⟩, hY⟩ : ∃ y, (parseC k s).1 = y := ⟨_, rfl⟩
  rw [hY] at HQ HDq
  clear z1 z2 z3 hY HTn
  go_enter func3, ntmps3
  go_wp2_with fail
  generalize w.alloc (.cells #[.int .i64 kd, .int .i64 i0, .int .i64 i1, .int .i64 i2, .int .i64 i3, .int .i64 i4, .string nm, .string da] 23) = W0 at HB |-
  refine (HAw.out W0 HB.out.below).mono ?_
  rintro e w1 ⟨rfl, hb⟩
  have HB := hid (HB.out.kept hb)
  clear hb HAw
  have hx := HB.out.c8 0 rfl
  dsimp only
  go_wp2_with fail
  refine (HP.out w1 HB.out.below).mono ?_
  rintro e w2 ⟨rfl, hb⟩
  have HB := hid (HB.out.kept hb)
  clear hb hx HP
  have hx := HB.out.c8 0 rfl
  dsimp only
  go_wp2_with fail
  refine (HDp.out w2).mono ?_
  rintro e w3 ⟨rfl, hb⟩
  have HB := hid (HB.out.kept hb)
  clear hb hx HDp
  dsimp only
  go_wp2_with fail
  refine (HQ.out w3 HB.out.below).mono ?_
  rintro e w4 ⟨rfl, hb⟩
  have HB := hid ((HB.out.kept hb).more #[.int .i64 y0, .int .i64 y1, .int .i64 y2, .int .i64 y3, .int .i64 y4, .int .i64 y5, .string y6, .string y7] 23 rfl)
  clear hb HQ
  dsimp only
  go_wp2_with fail
  generalize w4.alloc (.cells #[.int .i64 y0, .int .i64 y1, .int .i64 y2, .int .i64 y3, .int .i64 y4, .int .i64 y5, .string y6, .string y7] 23) = W4 at HB |-
  generalize w4.heap.size = p4 at HB |-
  refine (HDq.out W4).mono ?_
  rintro e w5 ⟨rfl, hb⟩
  have HB := hid ((HB.out.kept hb).more #[.int .i64 y0, .int .i64 y1, .int .i64 y2, .int .i64 y3, .int .i64 y4, .int .i64 y5, .string y6, .string y7] 30 rfl)
  clear hb HDq
  dsimp only
  go_wp2_with fail
  generalize w5.alloc (.cells #[.int .i64 y0, .int .i64 y1, .int .i64 y2, .int .i64 y3, .int .i64 y4, .int .i64 y5, .string y6, .string y7] 30) = W5 at HB |-
  generalize w5.heap.size = p5 at HB |-
  have HSx := hid (show ∀ W, Below W5.heap.size W5 W -> ((W.cell? ⟨w.heap.size, 0, none⟩ = some (.int .i64 kd) /\ W.cell? ⟨w.heap.size, 1, none⟩ = some (.int .i64 i0) /\ W.cell? ⟨w.heap.size, 2, none⟩ = some (.int .i64 i1) /\ W.cell? ⟨w.heap.size, 3, none⟩ = some (.int .i64 i2) /\ W.cell? ⟨w.heap.size, 4, none⟩ = some (.int .i64 i3) /\ W.cell? ⟨w.heap.size, 5, none⟩ = some (.int .i64 i4) /\ W.cell? ⟨w.heap.size, 6, none⟩ = some (.string nm) /\ W.cell? ⟨w.heap.size, 7, none⟩ = some (.string da)) /\ (W.cell? ⟨p4, 0, none⟩ = some (.int .i64 y0) /\ W.cell? ⟨p4, 1, none⟩ = some (.int .i64 y1) /\ W.cell? ⟨p4, 2, none⟩ = some (.int .i64 y2) /\ W.cell? ⟨p4, 3, none⟩ = some (.int .i64 y3) /\ W.cell? ⟨p4, 4, none⟩ = some (.int .i64 y4) /\ W.cell? ⟨p4, 5, none⟩ = some (.int .i64 y5) /\ W.cell? ⟨p4, 6, none⟩ = some (.string y6) /\ W.cell? ⟨p4, 7, none⟩ = some (.string y7)) /\ (W.cell? ⟨p5, 0, none⟩ = some (.int .i64 y0) /\ W.cell? ⟨p5, 1, none⟩ = some (.int .i64 y1) /\ W.cell? ⟨p5, 2, none⟩ = some (.int .i64 y2) /\ W.cell? ⟨p5, 3, none⟩ = some (.int .i64 y3) /\ W.cell? ⟨p5, 4, none⟩ = some (.int .i64 y4) /\ W.cell? ⟨p5, 5, none⟩ = some (.int .i64 y5) /\ W.cell? ⟨p5, 6, none⟩ = some (.string y6) /\ W.cell? ⟨p5, 7, none⟩ = some (.string y7))) /\ Below W5.heap.size W5 W from λW hw => by
   have h := HB.out.kept hw
   exact ⟨⟨h.c8 0 rfl, h.c8 1 rfl, h.c8 2 rfl⟩, hw⟩)
  have hBd := (Below.refl W5.heap.size W5).drew
  have HR5 := hid (λW (h : Below W5.heap.size W5 W) => HR.out W (HB.out.below.trans (h.mono HB.out.below.size)))
  go_region_held3 (λW => ((W.cell? ⟨w.heap.size, 0, none⟩ = some (.int .i64 kd) /\ W.cell? ⟨w.heap.size, 1, none⟩ = some (.int .i64 i0) /\ W.cell? ⟨w.heap.size, 2, none⟩ = some (.int .i64 i1) /\ W.cell? ⟨w.heap.size, 3, none⟩ = some (.int .i64 i2) /\ W.cell? ⟨w.heap.size, 4, none⟩ = some (.int .i64 i3) /\ W.cell? ⟨w.heap.size, 5, none⟩ = some (.int .i64 i4) /\ W.cell? ⟨w.heap.size, 6, none⟩ = some (.string nm) /\ W.cell? ⟨w.heap.size, 7, none⟩ = some (.string da)) /\ (W.cell? ⟨p4, 0, none⟩ = some (.int .i64 y0) /\ W.cell? ⟨p4, 1, none⟩ = some (.int .i64 y1) /\ W.cell? ⟨p4, 2, none⟩ = some (.int .i64 y2) /\ W.cell? ⟨p4, 3, none⟩ = some (.int .i64 y3) /\ W.cell? ⟨p4, 4, none⟩ = some (.int .i64 y4) /\ W.cell? ⟨p4, 5, none⟩ = some (.int .i64 y5) /\ W.cell? ⟨p4, 6, none⟩ = some (.string y6) /\ W.cell? ⟨p4, 7, none⟩ = some (.string y7)) /\ (W.cell? ⟨p5, 0, none⟩ = some (.int .i64 y0) /\ W.cell? ⟨p5, 1, none⟩ = some (.int .i64 y1) /\ W.cell? ⟨p5, 2, none⟩ = some (.int .i64 y2) /\ W.cell? ⟨p5, 3, none⟩ = some (.int .i64 y3) /\ W.cell? ⟨p5, 4, none⟩ = some (.int .i64 y4) /\ W.cell? ⟨p5, 5, none⟩ = some (.int .i64 y5) /\ W.cell? ⟨p5, 6, none⟩ = some (.string y6) /\ W.cell? ⟨p5, 7, none⟩ = some (.string y7))) /\ Below W5.heap.size W5 W)
   (first | exact HSx.out _ (by assumption))
   (first
    | (go_at_call 12; (with_reducible refine (HR5.out _ (bnd2 (by assumption))).mono ?_); rintro e w6 ⟨rfl, hw6⟩; have hb6 := T8.btrans hw6 (bnd2 (by assumption)))
    | (go_at_call 13; (with_reducible refine (HDr.out _).mono ?_); rintro e w7 ⟨rfl, hw7⟩; have hb7 := T8.btrans hw7 (bnd2 (by assumption))))
  have HB := hid (HB.out.kept hb7)
  clear hb7 hb6 hw6 hw7 hBd
  rcases HE.out with ⟨hr, rfl⟩ | rfl
  ·have hx := HB.out.c8 0 rfl
   subst hr
   go_wp2_with fail
   refine (HRt.out trivial w7 HB.out.below).mono ?_
   rintro e w8 ⟨rfl, hb⟩
   have HB := hid ((HB.out.kept hb).more #[.int .i64 kd, .int .i64 i0, .int .i64 i1, .int .i64 i2, .int .i64 i3, .int .i64 i4, .string nm, .string da] 23 rfl)
   clear hb hx HRt
   have hx := HB.out.c8 0 rfl
   have hy := HB.out.c8 3 rfl
   dsimp only
   go_wp2_with fail
   go_ret
   exact ⟨rfl, HB.out.below⟩
  ·go_wp2_with fail
   go_ret
   exact ⟨rfl, HB.out.below⟩
 ·have hc : (1000 < nm.size) \/ (nm.size <= 1000 /\ 5000 < da.size) \/ (nm.size <= 1000 /\ da.size <= 5000 /\ 6000 < s.size) := by omega
  clear hz HTn
  rcases hc with z1 | ⟨z1, z2⟩ | ⟨z1, z2, z3⟩
  ·have n1 : (1000 : Int) < (nm.size : Int) := by omega
   go_enter func3, ntmps3
   go_wp2_with fail
   generalize w.alloc (.cells #[.int .i64 kd, .int .i64 i0, .int .i64 i1, .int .i64 i2, .int .i64 i3, .int .i64 i4, .string nm, .string da] 23) = W0 at HB |-
   refine (HAw.out W0 HB.out.below).mono ?_
   rintro e w1 ⟨rfl, hb⟩
   have HB := hid (HB.out.kept hb)
   clear hb HAw
   have hx := HB.out.c8 0 rfl
   dsimp only
   go_wp2_with fail
   go_ret
   exact ⟨rfl, HB.out.below⟩
  ·have n1 : ¬ (1000 : Int) < (nm.size : Int) := by omega
   have n2 : (5000 : Int) < (da.size : Int) := by omega
   go_enter func3, ntmps3
   go_wp2_with fail
   generalize w.alloc (.cells #[.int .i64 kd, .int .i64 i0, .int .i64 i1, .int .i64 i2, .int .i64 i3, .int .i64 i4, .string nm, .string da] 23) = W0 at HB |-
   refine (HAw.out W0 HB.out.below).mono ?_
   rintro e w1 ⟨rfl, hb⟩
   have HB := hid (HB.out.kept hb)
   clear hb HAw
   have hx := HB.out.c8 0 rfl
   dsimp only
   go_wp2_with fail
   go_ret
   exact ⟨rfl, HB.out.below⟩
  ·have n1 : ¬ (1000 : Int) < (nm.size : Int) := by omega
   have n2 : ¬ (5000 : Int) < (da.size : Int) := by omega
   have n3 : (6000 : Int) < (s.size : Int) := by omega
   go_enter func3, ntmps3
   go_wp2_with fail
   generalize w.alloc (.cells #[.int .i64 kd, .int .i64 i0, .int .i64 i1, .int .i64 i2, .int .i64 i3, .int .i64 i4, .string nm, .string da] 23) = W0 at HB |-
   refine (HAw.out W0 HB.out.below).mono ?_
   rintro e w1 ⟨rfl, hb⟩
   have HB := hid (HB.out.kept hb)
   clear hb HAw
   have hx := HB.out.c8 0 rfl
   dsimp only
   go_wp2_with fail
   go_ret
   exact ⟨rfl, HB.out.below⟩
end Go.Proofs.YthbajmlmjjfgpaaGreatDoor
