/- Layer 11, a part of the proofs: no statement of its own. -/
import Derived.Test.YthehblmjloohiaaGreatDoorM32
namespace Go.Proofs.YthehblmjloohiaaGreatDoor
set_option maxRecDepth 100000
open Go.RowKit Go.Less
open T8 (pv Dg)
attribute [local go_sem 9000] sem_eql sem_neq
set_option maxHeartbeats 16000000 in
theorem pRenameD_any (m : Option Nat) (nx : Int) (l : List Fs.Item) (kd : Int) (oa ob : ByteArray) (oo og on : Int) (od : ByteArray) (w : World) (h : Sv w m l) (hf9 : l.length ≤ 900) (pa : oa.size ≤ 140737488355328) {na nb : List ByteArray} (ha : spl oa = some na) (pb : ob.size ≤ 140737488355328) (hb : spl ob = some nb) (i : Int) (hi1 : i ≠ 1) (hXi : 1 ≤ i ∧ i ≤ 2147483647) (mo : Int) (d t : ByteArray) (es : List En) (hN : Fs.nodeD l i = ⟨2, mo, d, t, es⟩) (hD9 : Dp l 9 i) (HWn : Nm.within oa.data.toList ob.data.toList = false)
  (hF : ∀ W, Below w.heap.size w W → Calls Tryz.prog 57 #[stv m nx, .string oa] W (Foundy (i, (⟨2, mo, d, t, es⟩ : Nd.Node), 0) W))
  (dn2 : Int) (y2 : ByteArray) (hpl : Fs.place l na = .ok (dn2, y2)) (l1 : List Fs.Item) (hlv : Fs.leaveP l na = .ok l1) {R : Except Int Fs.FS} (hR : R = match Fs.fresh l nb with
   | .error e => .error e
   | .ok (dn, _) => if 64 ≤ (Fs.nodeD l dn).ents.length ∧ dn2 ≠ dn then .error 3 else if 8 < nb.length + Fs.deep l 9 i then .error 3 else match Fs.enterP env l1 nb i with
    | .error e => .error e
    | .ok l2 => .ok ⟨l2, nx⟩) : Calls Tryz.prog 94 #[stv m nx, .agg #[.int .i64 kd, .string oa, .string ob, .int .i64 oo, .int .i64 og, .int .i64 on, .string od]] w (Stated R w) := by
 have HF := Lib.hid hF
 clear hF
 have HGp := Lib.hid (fun W (hbw : Below w.heap.size w W) => pGap_any m nx l ob nb W (h.below hbw) pb hb)
 have HPl := Lib.hid (fun W (hbw : Below w.heap.size w W) => (pPlace_any m nx l oa na W (h.below hbw) pa ha))
 have HLv := Lib.hid (fun W (hbw : Below w.heap.size w W) => pLeave_any m nx l oa na W (h.below hbw) pa ha hf9)
 have HLn := leaveP_len hlv hf9
 rw [show wl (Fs.leaveP l na) nx = .ok ⟨l1, nx⟩ by rw [hlv]; rfl] at HLv
 have HEnt := Lib.hid (fun m5 W (hS : Sv W m5 l1) => pEnter_any m5 nx l1 ob nb i W hS pb hb hXi HLn)
 have HD := Lib.hid h.dg
 have HSm := Lib.hid h.ok.small
 have HHt := Lib.hid (fun (a : Option Addr) (c : Nat) W (hbw : Below w.heap.size w W) (hE : Ents a (Fs.nodeD l i).ents.length (Fs.nodeD l i).ents W) => height_any m nx l w h 9 (by decide) i a c W hbw hE hD9)
 rw [hN] at HHt
 dsimp only at HHt
 have hDs := deep_small l 9 i
 have hn8 : nb.length ≤ 8 := by
  obtain ⟨us, hus, rfl⟩ := spl_some hb
  rw [List.length_map]; exact (split_shape hus).1
 rw [hpl] at HPl
 have HWi := Lib.hid (fun W => inside_any oa ob W pa pb)
 unfold WithinPost at HWi
 rw [HWn] at HWi
 have HRi := Lib.hid hR
 clear hR
 have HB := Lib.hid (show Bxs w [(w.heap.size, #[pv m, .int .i64 nx], 88), (w.heap.size + 1, #[.int .i64 kd, .string oa, .string ob, .int .i64 oo, .int .i64 og, .int .i64 on, .string od], 35), (w.heap.size + 1 + 1, #[.pointer none, .int .i64 0], 88)] (((w.alloc (.cells #[pv m, .int .i64 nx] 88)).alloc (.cells #[.int .i64 kd, .string oa, .string ob, .int .i64 oo, .int .i64 og, .int .i64 on, .string od] 35)).alloc (.cells #[.pointer none, .int .i64 0] 88)) from Bxs.three w _ _ _ _ _ _)
 go_enter Tryz.func94, Tryz.ntmps94
 go_wp2_with fail
 generalize ((w.alloc (.cells #[pv m, .int .i64 nx] 88)).alloc (.cells #[.int .i64 kd, .string oa, .string ob, .int .i64 oo, .int .i64 og, .int .i64 on, .string od] 35)).alloc (.cells #[.pointer none, .int .i64 0] 88) = W0 at HB ⊢
 have b0 := HB.out.c2 0 rfl
 have b1 := HB.out.c7 1 rfl
 have b2 := HB.out.c2 2 rfl
 go_wp2_with fail
 refine (HF.out W0 HB.out.below).mono ?_
 rintro e w1 ⟨a, c, rfl, hE, hb⟩
 have HEn := Lib.hid (hE.below (below_one w1 (.cells #[.int .i64 2, .int .i64 mo, .string d, .string t, .slice a es.length c] 43)))
 clear hE
 have HB := Lib.hid (HB.out.kept hb)
 clear b0 b1 b2 hb
 have HB := Lib.hid (HB.out.more #[.int .i64 2, .int .i64 mo, .string d, .string t, .slice a es.length c] 43 rfl)
 have b0 := HB.out.c2 0 rfl
 have b1 := HB.out.c7 1 rfl
 have b2 := HB.out.c2 2 rfl
 dsimp only
 go_wp2_with fail
 refine (HWi.out (w1.alloc (.cells #[.int .i64 2, .int .i64 mo, .string d, .string t, .slice a es.length c] 43))).mono ?_
 rintro e w2 ⟨rfl, hb⟩
 have HEn := Lib.hid (HEn.out.below hb)
 have HB := Lib.hid (HB.out.kept hb)
 clear b0 b1 b2 hb
 have b0 := HB.out.c2 0 rfl
 have b1 := HB.out.c7 1 rfl
 have b2 := HB.out.c2 2 rfl
 have b3 := HB.out.c5 3 rfl
 dsimp only
 go_wp2_with fail
 cases hfr : Fs.fresh l nb with
 | error ec =>
  have hR := HRi.out
  rw [hfr] at HGp hR
  have HR := Lib.hid hR
  have hne := fresh_nz hfr
  clear hR hfr hpl hlv HPl HLv HEnt HHt HSm HLn hN hD9 h hb ha hDs hn8
  refine (HGp.out w2 HB.out.below).mono ?_
  rintro e w3 ⟨hb, _, rfl⟩
  have HB := Lib.hid (HB.out.kept hb)
  clear b0 b1 b2 b3 hb
  have HB := Lib.hid (HB.out.more #[.int .i64 0, .int .i64 0, .int .i64 0, .string ⟨#[]⟩, .string ⟨#[]⟩, .slice none 0 0, .string ⟨#[]⟩] 178 rfl)
  have b0 := HB.out.c2 0 rfl
  have b1 := HB.out.c7 1 rfl
  have b2 := HB.out.c2 2 rfl
  have b3 := HB.out.c5 3 rfl
  dsimp only
  go_wp2_with (first | (refine store_bx HB.out 2 rfl 88 _ _ rfl rfl #[.pointer none, .int .i64 0] rfl rfl (by kernel_rfl) rfl rfl (by decide) (by decide) ?_; intro w4 hS hK hbS hsS; have HBS := Lib.hid hS; clear hS hK hbS hsS; have HB := HBS; clear HBS; clear b0 b1 b2 b3; have b0 := HB.out.c2 0 rfl; have b1 := HB.out.c7 1 rfl; have b2 := HB.out.c2 2 rfl; have b3 := HB.out.c5 3 rfl; have b4 := HB.out.c7 4 rfl) | fail)
  refine bodyPost_ret_by (results_st rfl _ _ (w.heap.size + 1 + 1) _ _ rfl (HB.out.obj 2 rfl)) rfl ?_
  exact stated_err HR.out hne HB.out.below
 | ok r =>
  obtain ⟨dn, y1⟩ := r
  have hR := HRi.out
  rw [hfr] at HGp hR
  simp only at hR
  obtain ⟨x1, hx1⟩ : ∃ x, Fs.nodeD l dn = x := ⟨_, rfl⟩
  obtain ⟨x2, hx2⟩ : ∃ x, Fs.nodeD l dn2 = x := ⟨_, rfl⟩
  have hs1 := HSm.out dn
  rw [hx1] at hR hs1
  have HGo := Lib.hid (show ∀ W, Below w.heap.size w W → Calls Tryz.prog 125 #[stv m nx, .string ob] W fun e w' => Below W.heap.size W w' ∧ ∃ a c, e = .returned (.tuple #[.agg #[.int .i64 dn, .int .i64 x1.kind, .int .i64 x1.mode, .string x1.data, .string x1.target, .slice a x1.ents.length c, .string y1], .int .i64 0]) ∧ Ents a x1.ents.length x1.ents w' from fun W hb => (HGp.out W hb).mono fun e w' hx => by
   obtain ⟨hx3, hx4⟩ := hx
   simp only [hx1] at hx4
   exact ⟨hx3, hx4⟩)
  have HPo := Lib.hid (show ∀ W, Below w.heap.size w W → Calls Tryz.prog 126 #[stv m nx, .string oa] W fun e w' => Below W.heap.size W w' ∧ ∃ a c, e = .returned (.tuple #[.agg #[.int .i64 dn2, .int .i64 x2.kind, .int .i64 x2.mode, .string x2.data, .string x2.target, .slice a x2.ents.length c, .string y2], .int .i64 0]) ∧ Ents a x2.ents.length x2.ents w' from fun W hb => (HPl.out W hb).mono fun e w' hx => by
   obtain ⟨hx3, hx4⟩ := hx
   simp only [hx2] at hx4
   exact ⟨hx3, hx4⟩)
  have hsl := slashes hb (fresh_ne hfr)
  have HCo := Lib.hid (show ∀ W, Calls Tryz.prog 128 #[.string ob, .string ⟨#[47]⟩] W fun e w' => e = .returned (.int .i64 (nb.length : Int)) ∧ w' = W from fun W => (count_any ob W).mono fun e w' hx => by rw [hsl] at hx; exact hx)
  clear hsl HGp HPl hx2 hfr hpl hlv HLn hD9 h hb ha HSm hN
  obtain ⟨k1, m1, d1, t1, e1⟩ := x1
  obtain ⟨k2, m2, d2, t2, e2⟩ := x2
  dsimp only at HGo HPo hR hs1
  have HFu := Lib.hid (fun (a : Option Addr) (c : Nat) W => isFull_any k1 m1 d1 t1 a e1.length c W (by omega))
  generalize Fs.deep l 9 i = D at *
  generalize nb.length = N at *
  clear hx1
  have hwr : IntKind.i64.wrap ((N : Int) + (D : Int)) = (N : Int) + (D : Int) := IntWalk.i64_in _ (by omega)
  have HRi := Lib.hid hR
  clear hR
  refine (HGo.out w2 HB.out.below).mono ?_
  rintro e w3 ⟨hb, a1, c1, rfl, hE1⟩
  clear hE1
  have HEn := Lib.hid ((HEn.out.below hb).below (below_one w3 (.cells #[.int .i64 dn, .int .i64 k1, .int .i64 m1, .string d1, .string t1, .slice a1 e1.length c1, .string y1] 178)))
  have HB := Lib.hid (HB.out.kept hb)
  clear b0 b1 b2 b3 hb
  have HB := Lib.hid (HB.out.more #[.int .i64 dn, .int .i64 k1, .int .i64 m1, .string d1, .string t1, .slice a1 e1.length c1, .string y1] 178 rfl)
  have b0 := HB.out.c2 0 rfl
  have b1 := HB.out.c7 1 rfl
  have b2 := HB.out.c2 2 rfl
  have b3 := HB.out.c5 3 rfl
  dsimp only
  go_wp2_with fail
  refine (HPo.out (w3.alloc (.cells #[.int .i64 dn, .int .i64 k1, .int .i64 m1, .string d1, .string t1, .slice a1 e1.length c1, .string y1] 178)) HB.out.below).mono ?_
  rintro e w4 ⟨hb, a2, c2, rfl, hE2⟩
  clear hE2
  have HEn := Lib.hid ((HEn.out.below hb).below (below_one w4 (.cells #[.int .i64 dn2, .int .i64 k2, .int .i64 m2, .string d2, .string t2, .slice a2 e2.length c2, .string y2] 178)))
  have HB := Lib.hid (HB.out.kept hb)
  clear b0 b1 b2 b3 hb
  have HB := Lib.hid (HB.out.more #[.int .i64 dn2, .int .i64 k2, .int .i64 m2, .string d2, .string t2, .slice a2 e2.length c2, .string y2] 178 rfl)
  have b0 := HB.out.c2 0 rfl
  have b1 := HB.out.c7 1 rfl
  have b2 := HB.out.c2 2 rfl
  have b3 := HB.out.c5 3 rfl
  have b4 := HB.out.c7 4 rfl
  dsimp only
  go_wp2_with fail
  generalize (w4.alloc (.cells #[.int .i64 dn2, .int .i64 k2, .int .i64 m2, .string d2, .string t2, .slice a2 e2.length c2, .string y2] 178)) = V at HB HEn b0 b1 b2 b3 b4 ⊢
  by_cases hfd : 64 ≤ e1.length ∧ dn2 ≠ dn
  ·have HR := Lib.hid (show R = .error 3 by rw [HRi.out, if_pos hfd])
   rw [show decide ((64 : Int) ≤ (e1.length : Int)) = true from decide_eq_true (by have := hfd.1; omega)] at HFu
   have hdd : dn ≠ dn2 := fun e => hfd.2 e.symm
   clear HRi HLv HEnt HHt HCo hwr hDs hn8 hfd hs1
   refine (HFu.out a1 c1 V).mono ?_
   rintro e w5 ⟨rfl, hb⟩
   have HEn := Lib.hid (HEn.out.below hb)
   have HB := Lib.hid (HB.out.kept hb)
   clear b0 b1 b2 b3 b4 hb
   have b0 := HB.out.c2 0 rfl
   have b1 := HB.out.c7 1 rfl
   have b2 := HB.out.c2 2 rfl
   have b3 := HB.out.c5 3 rfl
   have b4 := HB.out.c7 4 rfl
   have b5 := HB.out.c7 5 rfl
   dsimp only
   go_wp2_with (first | (refine store_bx HB.out 2 rfl 88 _ _ rfl rfl #[.pointer none, .int .i64 0] rfl rfl (by kernel_rfl) rfl rfl (by decide) (by decide) ?_; intro w6 hS hK hbS hsS; have HBS := Lib.hid hS; clear hS hK hbS hsS; have HB := HBS; clear HBS; clear b0 b1 b2 b3 b4 b5; have b0 := HB.out.c2 0 rfl; have b1 := HB.out.c7 1 rfl; have b2 := HB.out.c2 2 rfl; have b3 := HB.out.c5 3 rfl; have b4 := HB.out.c7 4 rfl; have b5 := HB.out.c7 5 rfl) | fail)
   refine bodyPost_ret_by (results_st rfl _ _ (w.heap.size + 1 + 1) _ _ rfl (HB.out.obj 2 rfl)) rfl ?_
   exact stated_err HR.out (by decide) HB.out.below
  have hR := HRi.out
  rw [if_neg hfd] at hR
  have HRi := Lib.hid hR
  clear hR
  have hcs : decide ((64 : Int) ≤ (e1.length : Int)) = false ∨ (decide ((64 : Int) ≤ (e1.length : Int)) = true ∧ dn2 = dn) := by
   by_cases h1 : 64 ≤ e1.length
   ·exact .inr ⟨decide_eq_true (by omega), Classical.byContradiction fun h2 => hfd ⟨h1, h2⟩⟩
   ·exact .inl (decide_eq_false (by omega))
  have HBv := HB
  have HEv := HEn
  have HFv := HFu
  have HRv := HRi
  clear hfd
  rcases hcs with hfi | ⟨hfi, rfl⟩
  all_goals
   have HB := HBv
   have HEn := HEv
   have HFu := HFv
   have HRi := HRv
   rw [hfi] at HFu
   clear hfi HBv HEv HFv HRv
   refine (HFu.out a1 c1 V).mono ?_
   rintro e w5 ⟨rfl, hb⟩
   have HEn := Lib.hid (HEn.out.below hb)
   have HB := Lib.hid (HB.out.kept hb)
   clear b0 b1 b2 b3 b4 hb
   have b0 := HB.out.c2 0 rfl
   have b1 := HB.out.c7 1 rfl
   have b2 := HB.out.c2 2 rfl
   have b3 := HB.out.c5 3 rfl
   have b4 := HB.out.c7 4 rfl
   have b5 := HB.out.c7 5 rfl
   dsimp only
   go_wp2_with fail
   have HSx := Lib.hid (fun W hb => (⟨(HB.out.kept hb).cell 0 rfl 0, (HB.out.kept hb).cell 0 rfl 1, (HB.out.kept hb).cell 1 rfl 2, (HB.out.kept hb).cell 3 rfl 0, (HB.out.kept hb).cell 3 rfl 1, (HB.out.kept hb).cell 3 rfl 2, (HB.out.kept hb).cell 3 rfl 3, (HB.out.kept hb).cell 3 rfl 4, hb⟩ : W.cell? ⟨w.heap.size, 0, none⟩ = some (pv m) ∧ W.cell? ⟨w.heap.size, 1, none⟩ = some (.int .i64 nx) ∧ W.cell? ⟨w.heap.size + 1, 2, none⟩ = some (.string ob) ∧ W.cell? ⟨w1.heap.size, 0, none⟩ = some (.int .i64 2) ∧ W.cell? ⟨w1.heap.size, 1, none⟩ = some (.int .i64 mo) ∧ W.cell? ⟨w1.heap.size, 2, none⟩ = some (.string d) ∧ W.cell? ⟨w1.heap.size, 3, none⟩ = some (.string t) ∧ W.cell? ⟨w1.heap.size, 4, none⟩ = some (.slice a es.length c) ∧ Below w5.heap.size w5 W))
   have HHx := Lib.hid (fun W (hb : Below w5.heap.size w5 W) => HHt.out a c W (HB.out.below.trans (hb.mono HB.out.below.size)) (HEn.out.below hb))
   have hBd := (Below.refl w5.heap.size w5).drew
   go_wp2_with fail
   go_region_held3 (fun W => W.cell? ⟨w.heap.size, 0, none⟩ = some (pv m) ∧ W.cell? ⟨w.heap.size, 1, none⟩ = some (.int .i64 nx) ∧ W.cell? ⟨w.heap.size + 1, 2, none⟩ = some (.string ob) ∧ W.cell? ⟨w1.heap.size, 0, none⟩ = some (.int .i64 2) ∧ W.cell? ⟨w1.heap.size, 1, none⟩ = some (.int .i64 mo) ∧ W.cell? ⟨w1.heap.size, 2, none⟩ = some (.string d) ∧ W.cell? ⟨w1.heap.size, 3, none⟩ = some (.string t) ∧ W.cell? ⟨w1.heap.size, 4, none⟩ = some (.slice a es.length c) ∧ Below w5.heap.size w5 W)
    (first | exact HSx.out _ (by assumption))
    (first
    | (go_at_call 128; (with_reducible refine (HCo.out _).mono ?_); rintro e w20 ⟨rfl, rfl⟩)
    | (go_at_call 129; (with_reducible refine (HHx.out _ (by assumption)).mono ?_); rintro e w21 ⟨rfl, hw21⟩; have hb21 := T8.btrans hw21 (by assumption)))
   all_goals
    have HB := Lib.hid (HB.out.kept hb21)
    clear b0 b1 b2 b3 b4 b5
    clear hb21 hw21 hBd HHx HSx
    have b0 := HB.out.c2 0 rfl
    have b1 := HB.out.c7 1 rfl
    have b2 := HB.out.c2 2 rfl
    have b3 := HB.out.c5 3 rfl
    have b4 := HB.out.c7 4 rfl
    have b5 := HB.out.c7 5 rfl
    by_cases hdeep : 8 < N + D
    ·have HR := Lib.hid (show R = .error 3 by rw [HRi.out, if_pos hdeep])
     have hdi : (8 : Int) < (N : Int) + (D : Int) := by omega
     clear HRi HLv HEnt hdeep
     go_wp2_with (first | (refine store_bx HB.out 2 rfl 88 _ _ rfl rfl #[.pointer none, .int .i64 0] rfl rfl (by kernel_rfl) rfl rfl (by decide) (by decide) ?_; intro w6 hS hK hbS hsS; have HBS := Lib.hid hS; clear hS hK hbS hsS; have HB := HBS; clear HBS; clear b0 b1 b2 b3 b4 b5; have b0 := HB.out.c2 0 rfl; have b1 := HB.out.c7 1 rfl; have b2 := HB.out.c2 2 rfl; have b3 := HB.out.c5 3 rfl; have b4 := HB.out.c7 4 rfl; have b5 := HB.out.c7 5 rfl) | fail)
     refine bodyPost_ret_by (results_st rfl _ _ (w.heap.size + 1 + 1) _ _ rfl (HB.out.obj 2 rfl)) rfl ?_
     exact stated_err HR.out (by decide) HB.out.below
    have hdi : ¬ ((8 : Int) < (N : Int) + (D : Int)) := by omega
    have hR := HRi.out
    rw [if_neg hdeep] at hR
    have HRi := Lib.hid hR
    clear hdeep hR
    go_wp2_with fail
    refine (HLv.out w21 HB.out.below).mono ?_
    rintro e w6 ⟨hb, m5, rfl, hS⟩
    have HS := Lib.hid hS
    clear hS
    have HB := Lib.hid (HB.out.kept hb)
    clear b0 b1 b2 b3 b4 b5 hb
    have b0 := HB.out.c2 0 rfl
    have b1 := HB.out.c7 1 rfl
    have b2 := HB.out.c2 2 rfl
    have b3 := HB.out.c5 3 rfl
    have b4 := HB.out.c7 4 rfl
    have b5 := HB.out.c7 5 rfl
    dsimp only
    go_wp2_with (first | (refine store_bx HB.out 0 rfl 88 _ _ rfl rfl #[pv m5, .int .i64 nx] rfl rfl (by kernel_rfl) rfl rfl (by decide) (by decide) ?_; intro w7 hS hK hbS hsS; have HBS := Lib.hid hS; have HS := Lib.hid (HS.out.kept hK (HD.out.below hbS)); clear hS hK hbS hsS; have HB := HBS; clear HBS; clear b0 b1 b2 b3 b4 b5; have b0 := HB.out.c2 0 rfl; have b1 := HB.out.c7 1 rfl; have b2 := HB.out.c2 2 rfl; have b3 := HB.out.c5 3 rfl; have b4 := HB.out.c7 4 rfl; have b5 := HB.out.c7 5 rfl) | fail)
    cases hen : Fs.enterP env l1 nb i with
    | error ec =>
     have hR := HRi.out
     rw [hen] at hR
     have HR := Lib.hid hR
     rw [show wl (Fs.enterP env l1 nb i) nx = .error ec by rw [hen]; rfl] at HEnt
     clear hen hR
     refine (HEnt.out m5 w7 HS.out).mono ?_
     rintro e w8 ⟨hb, hne, rfl⟩
     have HB := Lib.hid (HB.out.kept hb)
     clear b0 b1 b2 b3 b4 b5 hb
     have b0 := HB.out.c2 0 rfl
     have b1 := HB.out.c7 1 rfl
     have b2 := HB.out.c2 2 rfl
     have b3 := HB.out.c5 3 rfl
     have b4 := HB.out.c7 4 rfl
     have b5 := HB.out.c7 5 rfl
     dsimp only
     go_wp2_with (first | (refine store_bx HB.out 2 rfl 88 _ _ rfl rfl #[.pointer none, .int .i64 0] rfl rfl (by kernel_rfl) rfl rfl (by decide) (by decide) ?_; intro w9 hS hK hbS hsS; have HBS := Lib.hid hS; clear hS hK hbS hsS; have HB := HBS; clear HBS; clear b0 b1 b2 b3 b4 b5; have b0 := HB.out.c2 0 rfl; have b1 := HB.out.c7 1 rfl; have b2 := HB.out.c2 2 rfl; have b3 := HB.out.c5 3 rfl; have b4 := HB.out.c7 4 rfl; have b5 := HB.out.c7 5 rfl) | fail)
     refine bodyPost_ret_by (results_st rfl _ _ (w.heap.size + 1 + 1) _ _ rfl (HB.out.obj 2 rfl)) rfl ?_
     exact stated_err HR.out hne HB.out.below
    | ok l2 =>
     have hR := HRi.out
     rw [hen] at hR
     have HR := Lib.hid hR
     rw [show wl (Fs.enterP env l1 nb i) nx = .ok ⟨l2, nx⟩ by rw [hen]; rfl] at HEnt
     clear hen hR
     refine (HEnt.out m5 w7 HS.out).mono ?_
     rintro e w8 ⟨hb, m6, rfl, hS⟩
     have HS := Lib.hid hS
     clear hS
     have HB := Lib.hid (HB.out.kept hb)
     clear b0 b1 b2 b3 b4 b5 hb
     have b0 := HB.out.c2 0 rfl
     have b1 := HB.out.c7 1 rfl
     have b2 := HB.out.c2 2 rfl
     have b3 := HB.out.c5 3 rfl
     have b4 := HB.out.c7 4 rfl
     have b5 := HB.out.c7 5 rfl
     dsimp only
     go_wp2_with (first | (refine store_bx HB.out 2 rfl 88 _ _ rfl rfl #[pv m6, .int .i64 nx] rfl rfl (by kernel_rfl) rfl rfl (by decide) (by decide) ?_; intro w9 hS hK hbS hsS; have HBS := Lib.hid hS; have HS := Lib.hid (HS.out.kept hK (HD.out.below hbS)); clear hS hK hbS hsS; have HB := HBS; clear HBS; clear b0 b1 b2 b3 b4 b5; have b0 := HB.out.c2 0 rfl; have b1 := HB.out.c7 1 rfl; have b2 := HB.out.c2 2 rfl; have b3 := HB.out.c5 3 rfl; have b4 := HB.out.c7 4 rfl; have b5 := HB.out.c7 5 rfl) | fail)
     refine bodyPost_ret_by (results_st rfl _ _ (w.heap.size + 1 + 1) _ _ rfl (HB.out.obj 2 rfl)) rfl ?_
     exact stated_ok HR.out HB.out.below HS.out
set_option maxHeartbeats 16000000 in
theorem pRenameN_any (m : Option Nat) (nx : Int) (l : List Fs.Item) (kd : Int) (oa ob : ByteArray) (oo og on : Int) (od : ByteArray) (w : World) (h : Sv w m l) (hf9 : l.length ≤ 900) (pa : oa.size ≤ 140737488355328) {na nb : List ByteArray} (ha : spl oa = some na) (pb : ob.size ≤ 140737488355328) (hb : spl ob = some nb) (i : Int) (hi1 : i ≠ 1) (hXi : 1 ≤ i ∧ i ≤ 2147483647) (k : Int) (mo : Int) (d t : ByteArray) (es : List En) (hN : Fs.nodeD l i = ⟨k, mo, d, t, es⟩) (hD9 : Dp l 9 i) (hk2 : k ≠ 2)
  (hF : ∀ W, Below w.heap.size w W → Calls Tryz.prog 57 #[stv m nx, .string oa] W (Foundy (i, (⟨k, mo, d, t, es⟩ : Nd.Node), 0) W))
  (dn2 : Int) (y2 : ByteArray) (hpl : Fs.place l na = .ok (dn2, y2)) (l1 : List Fs.Item) (hlv : Fs.leaveP l na = .ok l1) {R : Except Int Fs.FS} (hR : R = match Fs.fresh l nb with
   | .error e => .error e
   | .ok (dn, _) => if 64 ≤ (Fs.nodeD l dn).ents.length ∧ dn2 ≠ dn then .error 3 else if 8 < nb.length + Fs.deep l 9 i then .error 3 else match Fs.enterP env l1 nb i with
    | .error e => .error e
    | .ok l2 => .ok ⟨l2, nx⟩) : Calls Tryz.prog 94 #[stv m nx, .agg #[.int .i64 kd, .string oa, .string ob, .int .i64 oo, .int .i64 og, .int .i64 on, .string od]] w (Stated R w) := by
 have HF := Lib.hid hF
 clear hF
 have HGp := Lib.hid (fun W (hbw : Below w.heap.size w W) => pGap_any m nx l ob nb W (h.below hbw) pb hb)
 have HPl := Lib.hid (fun W (hbw : Below w.heap.size w W) => (pPlace_any m nx l oa na W (h.below hbw) pa ha))
 have HLv := Lib.hid (fun W (hbw : Below w.heap.size w W) => pLeave_any m nx l oa na W (h.below hbw) pa ha hf9)
 have HLn := leaveP_len hlv hf9
 rw [show wl (Fs.leaveP l na) nx = .ok ⟨l1, nx⟩ by rw [hlv]; rfl] at HLv
 have HEnt := Lib.hid (fun m5 W (hS : Sv W m5 l1) => pEnter_any m5 nx l1 ob nb i W hS pb hb hXi HLn)
 have HD := Lib.hid h.dg
 have HSm := Lib.hid h.ok.small
 have HHt := Lib.hid (fun (a : Option Addr) (c : Nat) W (hbw : Below w.heap.size w W) (hE : Ents a (Fs.nodeD l i).ents.length (Fs.nodeD l i).ents W) => height_any m nx l w h 9 (by decide) i a c W hbw hE hD9)
 rw [hN] at HHt
 dsimp only at HHt
 have hDs := deep_small l 9 i
 have hn8 : nb.length ≤ 8 := by
  obtain ⟨us, hus, rfl⟩ := spl_some hb
  rw [List.length_map]; exact (split_shape hus).1
 rw [hpl] at HPl
 have HRi := Lib.hid hR
 clear hR
 have HB := Lib.hid (show Bxs w [(w.heap.size, #[pv m, .int .i64 nx], 88), (w.heap.size + 1, #[.int .i64 kd, .string oa, .string ob, .int .i64 oo, .int .i64 og, .int .i64 on, .string od], 35), (w.heap.size + 1 + 1, #[.pointer none, .int .i64 0], 88)] (((w.alloc (.cells #[pv m, .int .i64 nx] 88)).alloc (.cells #[.int .i64 kd, .string oa, .string ob, .int .i64 oo, .int .i64 og, .int .i64 on, .string od] 35)).alloc (.cells #[.pointer none, .int .i64 0] 88)) from Bxs.three w _ _ _ _ _ _)
 go_enter Tryz.func94, Tryz.ntmps94
 go_wp2_with fail
 generalize ((w.alloc (.cells #[pv m, .int .i64 nx] 88)).alloc (.cells #[.int .i64 kd, .string oa, .string ob, .int .i64 oo, .int .i64 og, .int .i64 on, .string od] 35)).alloc (.cells #[.pointer none, .int .i64 0] 88) = W0 at HB ⊢
 have b0 := HB.out.c2 0 rfl
 have b1 := HB.out.c7 1 rfl
 have b2 := HB.out.c2 2 rfl
 go_wp2_with fail
 refine (HF.out W0 HB.out.below).mono ?_
 rintro e w1 ⟨a, c, rfl, hE, hb⟩
 have HEn := Lib.hid (hE.below (below_one w1 (.cells #[.int .i64 k, .int .i64 mo, .string d, .string t, .slice a es.length c] 43)))
 clear hE
 have HB := Lib.hid (HB.out.kept hb)
 clear b0 b1 b2 hb
 have HB := Lib.hid (HB.out.more #[.int .i64 k, .int .i64 mo, .string d, .string t, .slice a es.length c] 43 rfl)
 have b0 := HB.out.c2 0 rfl
 have b1 := HB.out.c7 1 rfl
 have b2 := HB.out.c2 2 rfl
 dsimp only
 go_wp2_with fail
 cases hfr : Fs.fresh l nb with
 | error ec =>
  have hR := HRi.out
  rw [hfr] at HGp hR
  have HR := Lib.hid hR
  have hne := fresh_nz hfr
  clear hR hfr hpl hlv HPl HLv HEnt HHt HSm HLn hN hD9 h hb ha hDs hn8
  refine (HGp.out (w1.alloc (.cells #[.int .i64 k, .int .i64 mo, .string d, .string t, .slice a es.length c] 43)) HB.out.below).mono ?_
  rintro e w2 ⟨hb, _, rfl⟩
  have HB := Lib.hid (HB.out.kept hb)
  clear b0 b1 b2 hb
  have HB := Lib.hid (HB.out.more #[.int .i64 0, .int .i64 0, .int .i64 0, .string ⟨#[]⟩, .string ⟨#[]⟩, .slice none 0 0, .string ⟨#[]⟩] 178 rfl)
  have b0 := HB.out.c2 0 rfl
  have b1 := HB.out.c7 1 rfl
  have b2 := HB.out.c2 2 rfl
  have b3 := HB.out.c5 3 rfl
  dsimp only
  go_wp2_with (first | (refine store_bx HB.out 2 rfl 88 _ _ rfl rfl #[.pointer none, .int .i64 0] rfl rfl (by kernel_rfl) rfl rfl (by decide) (by decide) ?_; intro w3 hS hK hbS hsS; have HBS := Lib.hid hS; clear hS hK hbS hsS; have HB := HBS; clear HBS; clear b0 b1 b2 b3; have b0 := HB.out.c2 0 rfl; have b1 := HB.out.c7 1 rfl; have b2 := HB.out.c2 2 rfl; have b3 := HB.out.c5 3 rfl; have b4 := HB.out.c7 4 rfl) | fail)
  refine bodyPost_ret_by (results_st rfl _ _ (w.heap.size + 1 + 1) _ _ rfl (HB.out.obj 2 rfl)) rfl ?_
  exact stated_err HR.out hne HB.out.below
 | ok r =>
  obtain ⟨dn, y1⟩ := r
  have hR := HRi.out
  rw [hfr] at HGp hR
  simp only at hR
  obtain ⟨x1, hx1⟩ : ∃ x, Fs.nodeD l dn = x := ⟨_, rfl⟩
  obtain ⟨x2, hx2⟩ : ∃ x, Fs.nodeD l dn2 = x := ⟨_, rfl⟩
  have hs1 := HSm.out dn
  rw [hx1] at hR hs1
  have HGo := Lib.hid (show ∀ W, Below w.heap.size w W → Calls Tryz.prog 125 #[stv m nx, .string ob] W fun e w' => Below W.heap.size W w' ∧ ∃ a c, e = .returned (.tuple #[.agg #[.int .i64 dn, .int .i64 x1.kind, .int .i64 x1.mode, .string x1.data, .string x1.target, .slice a x1.ents.length c, .string y1], .int .i64 0]) ∧ Ents a x1.ents.length x1.ents w' from fun W hb => (HGp.out W hb).mono fun e w' hx => by
   obtain ⟨hx3, hx4⟩ := hx
   simp only [hx1] at hx4
   exact ⟨hx3, hx4⟩)
  have HPo := Lib.hid (show ∀ W, Below w.heap.size w W → Calls Tryz.prog 126 #[stv m nx, .string oa] W fun e w' => Below W.heap.size W w' ∧ ∃ a c, e = .returned (.tuple #[.agg #[.int .i64 dn2, .int .i64 x2.kind, .int .i64 x2.mode, .string x2.data, .string x2.target, .slice a x2.ents.length c, .string y2], .int .i64 0]) ∧ Ents a x2.ents.length x2.ents w' from fun W hb => (HPl.out W hb).mono fun e w' hx => by
   obtain ⟨hx3, hx4⟩ := hx
   simp only [hx2] at hx4
   exact ⟨hx3, hx4⟩)
  have hsl := slashes hb (fresh_ne hfr)
  have HCo := Lib.hid (show ∀ W, Calls Tryz.prog 128 #[.string ob, .string ⟨#[47]⟩] W fun e w' => e = .returned (.int .i64 (nb.length : Int)) ∧ w' = W from fun W => (count_any ob W).mono fun e w' hx => by rw [hsl] at hx; exact hx)
  clear hsl HGp HPl hx2 hfr hpl hlv HLn hD9 h hb ha HSm hN
  obtain ⟨k1, m1, d1, t1, e1⟩ := x1
  obtain ⟨k2, m2, d2, t2, e2⟩ := x2
  dsimp only at HGo HPo hR hs1
  have HFu := Lib.hid (fun (a : Option Addr) (c : Nat) W => isFull_any k1 m1 d1 t1 a e1.length c W (by omega))
  generalize Fs.deep l 9 i = D at *
  generalize nb.length = N at *
  clear hx1
  have hwr : IntKind.i64.wrap ((N : Int) + (D : Int)) = (N : Int) + (D : Int) := IntWalk.i64_in _ (by omega)
  have HRi := Lib.hid hR
  clear hR
  refine (HGo.out (w1.alloc (.cells #[.int .i64 k, .int .i64 mo, .string d, .string t, .slice a es.length c] 43)) HB.out.below).mono ?_
  rintro e w2 ⟨hb, a1, c1, rfl, hE1⟩
  clear hE1
  have HEn := Lib.hid ((HEn.out.below hb).below (below_one w2 (.cells #[.int .i64 dn, .int .i64 k1, .int .i64 m1, .string d1, .string t1, .slice a1 e1.length c1, .string y1] 178)))
  have HB := Lib.hid (HB.out.kept hb)
  clear b0 b1 b2 hb
  have HB := Lib.hid (HB.out.more #[.int .i64 dn, .int .i64 k1, .int .i64 m1, .string d1, .string t1, .slice a1 e1.length c1, .string y1] 178 rfl)
  have b0 := HB.out.c2 0 rfl
  have b1 := HB.out.c7 1 rfl
  have b2 := HB.out.c2 2 rfl
  have b3 := HB.out.c5 3 rfl
  dsimp only
  go_wp2_with fail
  refine (HPo.out (w2.alloc (.cells #[.int .i64 dn, .int .i64 k1, .int .i64 m1, .string d1, .string t1, .slice a1 e1.length c1, .string y1] 178)) HB.out.below).mono ?_
  rintro e w3 ⟨hb, a2, c2, rfl, hE2⟩
  clear hE2
  have HEn := Lib.hid ((HEn.out.below hb).below (below_one w3 (.cells #[.int .i64 dn2, .int .i64 k2, .int .i64 m2, .string d2, .string t2, .slice a2 e2.length c2, .string y2] 178)))
  have HB := Lib.hid (HB.out.kept hb)
  clear b0 b1 b2 b3 hb
  have HB := Lib.hid (HB.out.more #[.int .i64 dn2, .int .i64 k2, .int .i64 m2, .string d2, .string t2, .slice a2 e2.length c2, .string y2] 178 rfl)
  have b0 := HB.out.c2 0 rfl
  have b1 := HB.out.c7 1 rfl
  have b2 := HB.out.c2 2 rfl
  have b3 := HB.out.c5 3 rfl
  have b4 := HB.out.c7 4 rfl
  dsimp only
  go_wp2_with fail
  generalize (w3.alloc (.cells #[.int .i64 dn2, .int .i64 k2, .int .i64 m2, .string d2, .string t2, .slice a2 e2.length c2, .string y2] 178)) = V at HB HEn b0 b1 b2 b3 b4 ⊢
  by_cases hfd : 64 ≤ e1.length ∧ dn2 ≠ dn
  ·have HR := Lib.hid (show R = .error 3 by rw [HRi.out, if_pos hfd])
   rw [show decide ((64 : Int) ≤ (e1.length : Int)) = true from decide_eq_true (by have := hfd.1; omega)] at HFu
   have hdd : dn ≠ dn2 := fun e => hfd.2 e.symm
   clear HRi HLv HEnt HHt HCo hwr hDs hn8 hfd hs1
   refine (HFu.out a1 c1 V).mono ?_
   rintro e w4 ⟨rfl, hb⟩
   have HEn := Lib.hid (HEn.out.below hb)
   have HB := Lib.hid (HB.out.kept hb)
   clear b0 b1 b2 b3 b4 hb
   have b0 := HB.out.c2 0 rfl
   have b1 := HB.out.c7 1 rfl
   have b2 := HB.out.c2 2 rfl
   have b3 := HB.out.c5 3 rfl
   have b4 := HB.out.c7 4 rfl
   have b5 := HB.out.c7 5 rfl
   dsimp only
   go_wp2_with (first | (refine store_bx HB.out 2 rfl 88 _ _ rfl rfl #[.pointer none, .int .i64 0] rfl rfl (by kernel_rfl) rfl rfl (by decide) (by decide) ?_; intro w5 hS hK hbS hsS; have HBS := Lib.hid hS; clear hS hK hbS hsS; have HB := HBS; clear HBS; clear b0 b1 b2 b3 b4 b5; have b0 := HB.out.c2 0 rfl; have b1 := HB.out.c7 1 rfl; have b2 := HB.out.c2 2 rfl; have b3 := HB.out.c5 3 rfl; have b4 := HB.out.c7 4 rfl; have b5 := HB.out.c7 5 rfl) | fail)
   refine bodyPost_ret_by (results_st rfl _ _ (w.heap.size + 1 + 1) _ _ rfl (HB.out.obj 2 rfl)) rfl ?_
   exact stated_err HR.out (by decide) HB.out.below
  have hR := HRi.out
  rw [if_neg hfd] at hR
  have HRi := Lib.hid hR
  clear hR
  have hcs : decide ((64 : Int) ≤ (e1.length : Int)) = false ∨ (decide ((64 : Int) ≤ (e1.length : Int)) = true ∧ dn2 = dn) := by
   by_cases h1 : 64 ≤ e1.length
   ·exact .inr ⟨decide_eq_true (by omega), Classical.byContradiction fun h2 => hfd ⟨h1, h2⟩⟩
   ·exact .inl (decide_eq_false (by omega))
  have HBv := HB
  have HEv := HEn
  have HFv := HFu
  have HRv := HRi
  clear hfd
  rcases hcs with hfi | ⟨hfi, rfl⟩
  all_goals
   have HB := HBv
   have HEn := HEv
   have HFu := HFv
   have HRi := HRv
   rw [hfi] at HFu
   clear hfi HBv HEv HFv HRv
   refine (HFu.out a1 c1 V).mono ?_
   rintro e w4 ⟨rfl, hb⟩
   have HEn := Lib.hid (HEn.out.below hb)
   have HB := Lib.hid (HB.out.kept hb)
   clear b0 b1 b2 b3 b4 hb
   have b0 := HB.out.c2 0 rfl
   have b1 := HB.out.c7 1 rfl
   have b2 := HB.out.c2 2 rfl
   have b3 := HB.out.c5 3 rfl
   have b4 := HB.out.c7 4 rfl
   have b5 := HB.out.c7 5 rfl
   dsimp only
   go_wp2_with fail
   have HSx := Lib.hid (fun W hb => (⟨(HB.out.kept hb).cell 0 rfl 0, (HB.out.kept hb).cell 0 rfl 1, (HB.out.kept hb).cell 1 rfl 2, (HB.out.kept hb).cell 3 rfl 0, (HB.out.kept hb).cell 3 rfl 1, (HB.out.kept hb).cell 3 rfl 2, (HB.out.kept hb).cell 3 rfl 3, (HB.out.kept hb).cell 3 rfl 4, hb⟩ : W.cell? ⟨w.heap.size, 0, none⟩ = some (pv m) ∧ W.cell? ⟨w.heap.size, 1, none⟩ = some (.int .i64 nx) ∧ W.cell? ⟨w.heap.size + 1, 2, none⟩ = some (.string ob) ∧ W.cell? ⟨w1.heap.size, 0, none⟩ = some (.int .i64 k) ∧ W.cell? ⟨w1.heap.size, 1, none⟩ = some (.int .i64 mo) ∧ W.cell? ⟨w1.heap.size, 2, none⟩ = some (.string d) ∧ W.cell? ⟨w1.heap.size, 3, none⟩ = some (.string t) ∧ W.cell? ⟨w1.heap.size, 4, none⟩ = some (.slice a es.length c) ∧ Below w4.heap.size w4 W))
   have HHx := Lib.hid (fun W (hb : Below w4.heap.size w4 W) => HHt.out a c W (HB.out.below.trans (hb.mono HB.out.below.size)) (HEn.out.below hb))
   have hBd := (Below.refl w4.heap.size w4).drew
   go_wp2_with fail
   go_region_held3 (fun W => W.cell? ⟨w.heap.size, 0, none⟩ = some (pv m) ∧ W.cell? ⟨w.heap.size, 1, none⟩ = some (.int .i64 nx) ∧ W.cell? ⟨w.heap.size + 1, 2, none⟩ = some (.string ob) ∧ W.cell? ⟨w1.heap.size, 0, none⟩ = some (.int .i64 k) ∧ W.cell? ⟨w1.heap.size, 1, none⟩ = some (.int .i64 mo) ∧ W.cell? ⟨w1.heap.size, 2, none⟩ = some (.string d) ∧ W.cell? ⟨w1.heap.size, 3, none⟩ = some (.string t) ∧ W.cell? ⟨w1.heap.size, 4, none⟩ = some (.slice a es.length c) ∧ Below w4.heap.size w4 W)
    (first | exact HSx.out _ (by assumption))
    (first
    | (go_at_call 128; (with_reducible refine (HCo.out _).mono ?_); rintro e w20 ⟨rfl, rfl⟩)
    | (go_at_call 129; (with_reducible refine (HHx.out _ (by assumption)).mono ?_); rintro e w21 ⟨rfl, hw21⟩; have hb21 := T8.btrans hw21 (by assumption)))
   all_goals
    have HB := Lib.hid (HB.out.kept hb21)
    clear b0 b1 b2 b3 b4 b5
    clear hb21 hw21 hBd HHx HSx
    have b0 := HB.out.c2 0 rfl
    have b1 := HB.out.c7 1 rfl
    have b2 := HB.out.c2 2 rfl
    have b3 := HB.out.c5 3 rfl
    have b4 := HB.out.c7 4 rfl
    have b5 := HB.out.c7 5 rfl
    by_cases hdeep : 8 < N + D
    ·have HR := Lib.hid (show R = .error 3 by rw [HRi.out, if_pos hdeep])
     have hdi : (8 : Int) < (N : Int) + (D : Int) := by omega
     clear HRi HLv HEnt hdeep
     go_wp2_with (first | (refine store_bx HB.out 2 rfl 88 _ _ rfl rfl #[.pointer none, .int .i64 0] rfl rfl (by kernel_rfl) rfl rfl (by decide) (by decide) ?_; intro w5 hS hK hbS hsS; have HBS := Lib.hid hS; clear hS hK hbS hsS; have HB := HBS; clear HBS; clear b0 b1 b2 b3 b4 b5; have b0 := HB.out.c2 0 rfl; have b1 := HB.out.c7 1 rfl; have b2 := HB.out.c2 2 rfl; have b3 := HB.out.c5 3 rfl; have b4 := HB.out.c7 4 rfl; have b5 := HB.out.c7 5 rfl) | fail)
     refine bodyPost_ret_by (results_st rfl _ _ (w.heap.size + 1 + 1) _ _ rfl (HB.out.obj 2 rfl)) rfl ?_
     exact stated_err HR.out (by decide) HB.out.below
    have hdi : ¬ ((8 : Int) < (N : Int) + (D : Int)) := by omega
    have hR := HRi.out
    rw [if_neg hdeep] at hR
    have HRi := Lib.hid hR
    clear hdeep hR
    go_wp2_with fail
    refine (HLv.out w21 HB.out.below).mono ?_
    rintro e w5 ⟨hb, m5, rfl, hS⟩
    have HS := Lib.hid hS
    clear hS
    have HB := Lib.hid (HB.out.kept hb)
    clear b0 b1 b2 b3 b4 b5 hb
    have b0 := HB.out.c2 0 rfl
    have b1 := HB.out.c7 1 rfl
    have b2 := HB.out.c2 2 rfl
    have b3 := HB.out.c5 3 rfl
    have b4 := HB.out.c7 4 rfl
    have b5 := HB.out.c7 5 rfl
    dsimp only
    go_wp2_with (first | (refine store_bx HB.out 0 rfl 88 _ _ rfl rfl #[pv m5, .int .i64 nx] rfl rfl (by kernel_rfl) rfl rfl (by decide) (by decide) ?_; intro w6 hS hK hbS hsS; have HBS := Lib.hid hS; have HS := Lib.hid (HS.out.kept hK (HD.out.below hbS)); clear hS hK hbS hsS; have HB := HBS; clear HBS; clear b0 b1 b2 b3 b4 b5; have b0 := HB.out.c2 0 rfl; have b1 := HB.out.c7 1 rfl; have b2 := HB.out.c2 2 rfl; have b3 := HB.out.c5 3 rfl; have b4 := HB.out.c7 4 rfl; have b5 := HB.out.c7 5 rfl) | fail)
    cases hen : Fs.enterP env l1 nb i with
    | error ec =>
     have hR := HRi.out
     rw [hen] at hR
     have HR := Lib.hid hR
     rw [show wl (Fs.enterP env l1 nb i) nx = .error ec by rw [hen]; rfl] at HEnt
     clear hen hR
     refine (HEnt.out m5 w6 HS.out).mono ?_
     rintro e w7 ⟨hb, hne, rfl⟩
     have HB := Lib.hid (HB.out.kept hb)
     clear b0 b1 b2 b3 b4 b5 hb
     have b0 := HB.out.c2 0 rfl
     have b1 := HB.out.c7 1 rfl
     have b2 := HB.out.c2 2 rfl
     have b3 := HB.out.c5 3 rfl
     have b4 := HB.out.c7 4 rfl
     have b5 := HB.out.c7 5 rfl
     dsimp only
     go_wp2_with (first | (refine store_bx HB.out 2 rfl 88 _ _ rfl rfl #[.pointer none, .int .i64 0] rfl rfl (by kernel_rfl) rfl rfl (by decide) (by decide) ?_; intro w8 hS hK hbS hsS; have HBS := Lib.hid hS; clear hS hK hbS hsS; have HB := HBS; clear HBS; clear b0 b1 b2 b3 b4 b5; have b0 := HB.out.c2 0 rfl; have b1 := HB.out.c7 1 rfl; have b2 := HB.out.c2 2 rfl; have b3 := HB.out.c5 3 rfl; have b4 := HB.out.c7 4 rfl; have b5 := HB.out.c7 5 rfl) | fail)
     refine bodyPost_ret_by (results_st rfl _ _ (w.heap.size + 1 + 1) _ _ rfl (HB.out.obj 2 rfl)) rfl ?_
     exact stated_err HR.out hne HB.out.below
    | ok l2 =>
     have hR := HRi.out
     rw [hen] at hR
     have HR := Lib.hid hR
     rw [show wl (Fs.enterP env l1 nb i) nx = .ok ⟨l2, nx⟩ by rw [hen]; rfl] at HEnt
     clear hen hR
     refine (HEnt.out m5 w6 HS.out).mono ?_
     rintro e w7 ⟨hb, m6, rfl, hS⟩
     have HS := Lib.hid hS
     clear hS
     have HB := Lib.hid (HB.out.kept hb)
     clear b0 b1 b2 b3 b4 b5 hb
     have b0 := HB.out.c2 0 rfl
     have b1 := HB.out.c7 1 rfl
     have b2 := HB.out.c2 2 rfl
     have b3 := HB.out.c5 3 rfl
     have b4 := HB.out.c7 4 rfl
     have b5 := HB.out.c7 5 rfl
     dsimp only
     go_wp2_with (first | (refine store_bx HB.out 2 rfl 88 _ _ rfl rfl #[pv m6, .int .i64 nx] rfl rfl (by kernel_rfl) rfl rfl (by decide) (by decide) ?_; intro w8 hS hK hbS hsS; have HBS := Lib.hid hS; have HS := Lib.hid (HS.out.kept hK (HD.out.below hbS)); clear hS hK hbS hsS; have HB := HBS; clear HBS; clear b0 b1 b2 b3 b4 b5; have b0 := HB.out.c2 0 rfl; have b1 := HB.out.c7 1 rfl; have b2 := HB.out.c2 2 rfl; have b3 := HB.out.c5 3 rfl; have b4 := HB.out.c7 4 rfl; have b5 := HB.out.c7 5 rfl) | fail)
     refine bodyPost_ret_by (results_st rfl _ _ (w.heap.size + 1 + 1) _ _ rfl (HB.out.obj 2 rfl)) rfl ?_
     exact stated_ok HR.out HB.out.below HS.out
end Go.Proofs.YthehblmjloohiaaGreatDoor
