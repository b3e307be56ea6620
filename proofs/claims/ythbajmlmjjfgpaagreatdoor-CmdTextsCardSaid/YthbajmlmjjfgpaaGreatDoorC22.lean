/- A part of the proofs. -/
import Derived.Test.YthbajmlmjjfgpaaGreatDoorC21
set_option maxRecDepth 1000000
set_option maxHeartbeats 16000000
open Go.Lib (hid)
open Go.Proofs.Tryz
namespace Go.Proofs.YthbajmlmjjfgpaaGreatDoor
open Go.RowKit
attribute [local go_sem 9000] sem_stralike sem_strnot
theorem getD_ext {α : Type} {l m : List α} {d : α} (hl : l.length = m.length) (h : ∀ i, i < l.length -> l.getD i d = m.getD i d) : l = m := by
 apply List.ext_getElem hl
 intro i h1 h2
 have := h i h1
 rwa [List.getD, List.getD, List.getElem?_eq_getElem h1, List.getElem?_eq_getElem h2] at this
theorem drewN_add (w : World) (m n : Nat) : (w.drewN m).drewN n = w.drewN (m + n) := by unfold World.drewN; simp only [Nat.add_assoc]
theorem ret_bool {a b : Bool} (h : b = a) : Ending.returned (.bool a) = .returned (.bool b) := by rw [h]
def rowsAlike (a b : List ByteArray) : Bool := decide (a = b)
theorem pequal_any (a b : Option Addr) (la ca lb cb : Nat) (sa sb : List ByteArray) (w : World) (hA : Strs a la sa w) (hB : Strs b lb sb w) (hla : la <= 140737488355328) (hlb : lb <= 140737488355328) :
  Calls prog 187 #[.slice a la ca, .slice b lb cb] w λe w' => e = .returned (.bool (rowsAlike sa sb)) /\ ∃ n, w' = w.drewN n := by
 have hl1 : (la : Int) <= 140737488355328 := by omega
 have hl2 : (lb : Int) <= 140737488355328 := by omega
 by_cases hne : la = lb
 ·subst hne
  go_enter func187, ntmps187
  go_wp2
  go_loopw [13] (λi wr => ∃ k n : Nat, k <= la /\ i = .int .i64 k /\ wr = w.drewN n /\ ∀ i, i < k -> sa.getD i ByteArray.empty = sb.getD i ByteArray.empty) (λi _ => la - (intOf i).toNat)
  case atStart => exact ⟨0, 0, by omega, rfl, rfl, λi hi => by omega⟩
  case round =>
   obtain ⟨k, n, hk, rfl, rfl, hall⟩ := hrel
   have HA := hid hall
   clear hall
   by_cases hlt : k < la
   ·obtain ⟨b1, o1, rfl, hc1⟩ := hA.cell k hlt
    obtain ⟨b2, o2, rfl, hc2⟩ := hB.cell k hlt
    have hk0 : (k : Int) < (la : Int) := by omega
    by_cases he : sa.getD k ByteArray.empty = sb.getD k ByteArray.empty
    ·have HN := hid (show ∀ i, i < k + 1 -> sa.getD i ByteArray.empty = sb.getD i ByteArray.empty from λi hi => by
      rcases Nat.lt_or_ge i k with h | h
      ·exact HA.out i h
      ·obtain rfl : i = k := by omega
       exact he)
     have ha : talike (sa.getD k ByteArray.empty) (sb.getD k ByteArray.empty) = true := decide_eq_true he
     generalize sa.getD k ByteArray.empty = x at hc1 ha
     generalize sb.getD k ByteArray.empty = y at hc2 ha
     clear he
     go_wp2_with fail
     go_quiet (fail)
     go_wp2_with fail
     go_roundw
     case rel => exact ⟨k + 1, _, by omega, by go_num, rfl, HN.out⟩
     case measure => simp [intOf]; omega
    ·have HD := hid (show rowsAlike sa sb = false from decide_eq_false λe => he (by rw [e]))
     have ha : talike (sa.getD k ByteArray.empty) (sb.getD k ByteArray.empty) = false := decide_eq_false he
     generalize sa.getD k ByteArray.empty = x at hc1 ha
     generalize sb.getD k ByteArray.empty = y at hc2 ha
     clear he
     go_wp2_with fail
     go_quiet (fail)
     go_wp2_with fail
     go_ret
     exact ⟨ret_bool HD.out, _, drewN_add _ _ _⟩
   ·obtain rfl : k = la := by omega
    have HD := hid (show rowsAlike sa sb = true from decide_eq_true (getD_ext (by rw [<- hA.count, <- hB.count]) λi hi => HA.out i (by rw [hA.count]; exact hi)))
    go_wp2_with fail
    go_ret
    exact ⟨ret_bool HD.out, _, rfl⟩
 ·have hne' : ¬ (la : Int) = (lb : Int) := by omega
  have HD := hid (show rowsAlike sa sb = false from decide_eq_false λe => hne (by rw [hA.count, hB.count, e]))
  go_enter func187, ntmps187
  go_wp2
  go_ret
  exact ⟨ret_bool HD.out, 0, rfl⟩
theorem prefix_take {xs ys : List (List UInt8)} (hl : xs.length <= ys.length) : xs.isPrefixOf ys = rowsAlike ((ys.map lstr).take xs.length) (xs.map lstr) := by
 unfold rowsAlike
 rw [<- List.map_take]
 have hinj : ∀ u v : List (List UInt8), u.map lstr = v.map lstr ↔ u = v := λu v => by
  constructor
  ·intro h
   have := congrArg dat h
   rwa [dat_lstr, dat_lstr] at this
  ·intro h; rw [h]
 rw [decide_eq_decide.2 (hinj _ _)]
 by_cases h : ys.take xs.length = xs
 ·have e := List.take_append_drop xs.length ys
  rw [h] at e
  rw [decide_eq_true h, (Nm.isPrefixOf_iff xs ys).2 ⟨ys.drop xs.length, e.symm⟩]
 ·rw [decide_eq_false h, Bool.eq_false_iff]
  intro h2
  obtain ⟨z, rfl⟩ := (Nm.isPrefixOf_iff xs ys).1 h2
  exact h (by simp)
theorem inside_any (a b : ByteArray) (w : World) (ha : a.size <= 140737488355328) (hb : b.size <= 140737488355328) : Calls prog 156 #[.string a, .string b] w (WithinPost a.data.toList b.data.toList w) := by
 go_enter func156, ntmps156
 go_wp2_with fail
 refine (split_any a w ha).mono ?_
 rintro e w1 hX
 have HB := hid hX.below
 have HY := hid (split_any b w1 hb)
 cases hsa : Nm.split a.data.toList with
 | none =>
  obtain rfl := hX.no hsa
  have HP := hid (within_post (a := a.data.toList) (b := b.data.toList) (show Nm.within a.data.toList b.data.toList = false from by unfold Nm.within; rw [hsa]) HB.out)
  clear hX hsa
  dsimp only
  go_wp2_with fail
  go_ret
  exact HP.out
 | some xs =>
  obtain ⟨ao, cap, rfl, hT⟩ := hX.yes xs hsa
  have h8 := (split_shape hsa).1
  have HS := hid (trow_strs hT rfl)
  clear hX hT
  dsimp only
  go_wp2_with fail
  refine HY.out.mono ?_
  rintro e w2 hX2
  have HB2 := hid (HB.out.trans (hX2.below.mono HB.out.size))
  have HS2 := hid (HS.out.below hX2.below)
  clear HS
  cases hsb : Nm.split b.data.toList with
  | none =>
   obtain rfl := hX2.no hsb
   have HP := hid (within_post (a := a.data.toList) (b := b.data.toList) (show Nm.within a.data.toList b.data.toList = false from by unfold Nm.within; rw [hsa, hsb]) HB2.out)
   clear hX2 hsa hsb
   dsimp only
   go_wp2_with fail
   go_ret
   exact HP.out
  | some ys =>
   obtain ⟨ao2, cap2, rfl, hT2⟩ := hX2.yes ys hsb
   have hcap := trow_cap hT2
   have HT := hid (trow_strs hT2 rfl)
   have hW : Nm.within a.data.toList b.data.toList = xs.isPrefixOf ys := by unfold Nm.within; rw [hsa, hsb]
   have HW := hid hW
   clear hX2 hT2 hsa hsb hW
   dsimp only
   rcases Nat.lt_or_ge ys.length xs.length with hl | hl
   ·have hli : (ys.length : Int) < (xs.length : Int) := by omega
    have HP := hid (within_post (HW.out.trans (prefix_long hl)) HB2.out)
    clear hl
    generalize xs.length = lx at *
    generalize ys.length = ly at *
    go_wp2_with fail
    go_ret
    exact HP.out
   ·have hli : ¬ (ys.length : Int) < (xs.length : Int) := by omega
    have hci : (xs.length : Int) <= (cap2 : Int) := by omega
    have HE := hid (pequal_any ao2 ao xs.length cap2 xs.length cap _ _ w2 (strs_take HT.out hl) HS2.out (by omega) (by omega))
    have HP := hid (λ(w' : World) (hb : Below w.heap.size w w') => within_post (HW.out.trans (prefix_take hl)) hb)
    clear HT HS2 HW hl
    generalize rowsAlike ((ys.map lstr).take xs.length) (xs.map lstr) = r at *
    generalize xs.length = lx at *
    generalize ys.length = ly at *
    go_wp2_with fail
    refine HE.out.mono ?_
    rintro e w3 ⟨rfl, n, rfl⟩
    dsimp only
    go_wp2_with fail
    go_ret
    exact HP.out _ (below_draws HB2.out)
theorem names : Names := ⟨right_any, split_any, join_any, parent_any, inside_any⟩
end Go.Proofs.YthbajmlmjjfgpaaGreatDoor
namespace Go.Proofs.YthbajmlmjjfgpaaGreatDoor
open Go.RowKit Go.Less
open T8 (pv Dg)
attribute [local go_sem 9000] sem_eql sem_neq
theorem pRenameD_any (m : Option Nat) (nx : Int) (l : List Fs.Item) (kd : Int) (oa ob : ByteArray) (oo og on : Int) (od : ByteArray) (w : World) (h : Sv w m l) (hf9 : l.length <= 900) (pa : oa.size <= 140737488355328) {na nb : List ByteArray} (ha : spl oa = some na) (pb : ob.size <= 140737488355328) (hb : spl ob = some nb) (i : Int) (hi1 : i ≠ 1) (hXi : 1 <= i /\ i <= 2147483647) (mo : Int) (d t : ByteArray) (es : List En) (hN : Fs.nodeD l i = ⟨2, mo, d, t, es⟩) (hD9 : Dp l 9 i) (HWn : Nm.within oa.data.toList ob.data.toList = false)
  (hF : ∀ W, Below w.heap.size w W -> Calls prog 134 #[stv m nx, .string oa] W (Foundy (i, (⟨2, mo, d, t, es⟩ : Nd.Node), 0) W))
  (dn2 : Int) (y2 : ByteArray) (hpl : Fs.place l na = .ok (dn2, y2)) (l1 : List Fs.Item) (hlv : Fs.leaveP l na = .ok l1) {R : Except Int Fs.FS} (hR : R = match Fs.fresh l nb with
   | .error e => .error e
   | .ok (dn, _) => if 64 <= (Fs.nodeD l dn).ents.length /\ dn2 ≠ dn then .error 3 else if 8 < nb.length + Fs.deep l 9 i then .error 3 else match Fs.enterP env l1 nb i with
    | .error e => .error e
    | .ok l2 => .ok ⟨l2, nx⟩) : Calls prog 124 #[stv m nx, .agg #[.int .i64 kd, .string oa, .string ob, .int .i64 oo, .int .i64 og, .int .i64 on, .string od]] w (Stated R w) := by
 have HF := hid hF
 clear hF
 have HGp := hid (λW (hbw : Below w.heap.size w W) => pGap_any m nx l ob nb W (h.below hbw) pb hb)
 have HPl := hid (λW (hbw : Below w.heap.size w W) => (pPlace_any m nx l oa na W (h.below hbw) pa ha))
 have HLv := hid (λW (hbw : Below w.heap.size w W) => pLeave_any m nx l oa na W (h.below hbw) pa ha hf9)
 have HLn := leaveP_len hlv hf9
 rw [show wl (Fs.leaveP l na) nx = .ok ⟨l1, nx⟩ by rw [hlv]; rfl] at HLv
 have HEnt := hid (λm5 W (hS : Sv W m5 l1) => pEnter_any m5 nx l1 ob nb i W hS pb hb hXi HLn)
 have HD := hid h.dg
 have HSm := hid h.ok.small
 have HHt := hid (λ(a : Option Addr) (c : Nat) W (hbw : Below w.heap.size w W) (hE : Ents a (Fs.nodeD l i).ents.length (Fs.nodeD l i).ents W) => height_any m nx l w h 9 (by decide) i a c W hbw hE hD9)
 rw [hN] at HHt
 dsimp only at HHt
 have hDs := deep_small l 9 i
 have hn8 : nb.length <= 8 := by
  obtain ⟨us, hus, rfl⟩ := spl_some hb
  rw [List.length_map]; exact (split_shape hus).1
 rw [hpl] at HPl
 have HWi := hid (λW => inside_any oa ob W pa pb)
 unfold WithinPost at HWi
 rw [HWn] at HWi
 have HRi := hid hR
 clear hR
 go_enter func124, ntmps124
 go_wp2_with fail
 obtain ⟨W0, hW, HB⟩ := bx3 w m nx kd oa ob oo og on od; rw [hW]; clear hW
 go_wp2_with fail
 refine (HF.out W0 HB.out.below).mono ?_
 rintro e w1 ⟨a, c, rfl, hE, hb⟩
 have HEn := hid (hE.below (below_one w1 (.cells #[.int .i64 2, .int .i64 mo, .string d, .string t, .slice a es.length c] 67)))
 clear hE
 have HB := hid (HB.out.kept hb)
 clear hb
 have HB := hid (HB.out.more #[.int .i64 2, .int .i64 mo, .string d, .string t, .slice a es.length c] 67 rfl)
 have b1 := HB.out.c7 1 rfl
 dsimp only
 go_wp2_with fail
 refine (HWi.out (w1.alloc (.cells #[.int .i64 2, .int .i64 mo, .string d, .string t, .slice a es.length c] 67))).mono ?_
 rintro e w2 ⟨rfl, hb⟩
 have HEn := hid (HEn.out.below hb)
 have HB := hid (HB.out.kept hb)
 clear b1 hb
 have b0 := HB.out.c2 0 rfl
 have b1 := HB.out.c7 1 rfl
 have b2 := HB.out.c2 2 rfl
 have b3 := HB.out.c5 3 rfl
 dsimp only
 go_wp2_with fail
 cases hfr : Fs.fresh l nb with
 | error ec =>
  have hR := HRi.out
  rw [hfr] at HGp hR
  have HR := hid hR
  have hne := fresh_nz hfr
  clear hR hfr hpl hlv HPl HLv HEnt HHt HSm HLn hN hD9 h hb ha hDs hn8
  refine (HGp.out w2 HB.out.below).mono ?_
  rintro e w3 ⟨hb, _, rfl⟩
  have HB := hid (HB.out.kept hb)
  clear b0 b1 b2 b3 hb
  have HB := hid (HB.out.more #[.int .i64 0, .int .i64 0, .int .i64 0, .string ⟨#[]⟩, .string ⟨#[]⟩, .slice none 0 0, .string ⟨#[]⟩] 216 rfl)
  dsimp only
  go_wp2_with (first | (refine store_bx HB.out 2 rfl 108 _ _ rfl rfl #[.pointer none, .int .i64 0] rfl rfl (by kernel_rfl) rfl rfl (by decide) (by decide) ?_; intro w4 hS hK hbS hsS; have HBS := hid hS; clear hS hK hbS hsS; have HB := HBS; clear HBS) | fail)
  refine bodyPost_ret_by (results_st rfl _ _ (w.heap.size + 1 + 1) _ _ rfl (HB.out.obj 2 rfl)) rfl ?_
  exact stated_err HR.out hne HB.out.below
 | ok r =>
  obtain ⟨dn, y1⟩ := r
  have hR := HRi.out
  rw [hfr] at HGp hR
  simp only at hR
  obtain ⟨x1, hx1⟩ : ∃ x, Fs.nodeD l dn = x := ⟨_, rfl⟩
  obtain ⟨x2, hx2⟩ : ∃ x, Fs.nodeD l dn2 = x := ⟨_, rfl⟩
  have hs1 := HSm.out dn
  rw [hx1] at hR hs1
  have HGo := hid (show ∀ W, Below w.heap.size w W -> Calls prog 157 #[stv m nx, .string ob] W λe w' => Below W.heap.size W w' /\ ∃ a c, e = .returned (.tuple #[.agg #[.int .i64 dn, .int .i64 x1.kind, .int .i64 x1.mode, .string x1.data, .string x1.target, .slice a x1.ents.length c, .string y1], .int .i64 0]) /\ Ents a x1.ents.length x1.ents w' from λW hb => (HGp.out W hb).mono λe w' hx => by
   obtain ⟨hx3, hx4⟩ := hx
   simp only [hx1] at hx4
   exact ⟨hx3, hx4⟩)
  have HPo := hid (show ∀ W, Below w.heap.size w W -> Calls prog 158 #[stv m nx, .string oa] W λe w' => Below W.heap.size W w' /\ ∃ a c, e = .returned (.tuple #[.agg #[.int .i64 dn2, .int .i64 x2.kind, .int .i64 x2.mode, .string x2.data, .string x2.target, .slice a x2.ents.length c, .string y2], .int .i64 0]) /\ Ents a x2.ents.length x2.ents w' from λW hb => (HPl.out W hb).mono λe w' hx => by
   obtain ⟨hx3, hx4⟩ := hx
   simp only [hx2] at hx4
   exact ⟨hx3, hx4⟩)
  have hsl := slashes hb (fresh_ne hfr)
  have HCo := hid (show ∀ W, Calls prog 160 #[.string ob, .string ⟨#[47]⟩] W λe w' => e = .returned (.int .i64 (nb.length : Int)) /\ w' = W from λW => (count_any ob W).mono λe w' hx => by rw [hsl] at hx; exact hx)
  clear hsl HGp HPl hx2 hfr hpl hlv HLn hD9 h hb ha HSm hN
  obtain ⟨k1, m1, d1, t1, e1⟩ := x1
  obtain ⟨k2, m2, d2, t2, e2⟩ := x2
  dsimp only at HGo HPo hR hs1
  have HFu := hid (λ(a : Option Addr) (c : Nat) W => isFull_any k1 m1 d1 t1 a e1.length c W (by omega))
  generalize Fs.deep l 9 i = D at *
  generalize nb.length = N at *
  clear hx1
  have hwr : IntKind.i64.wrap ((N : Int) + (D : Int)) = (N : Int) + (D : Int) := IntWalk.i64_in _ (by omega)
  have HRi := hid hR
  clear hR
  refine (HGo.out w2 HB.out.below).mono ?_
  rintro e w3 ⟨hb, a1, c1, rfl, hE1⟩
  clear hE1
  have HEn := hid ((HEn.out.below hb).below (below_one w3 (.cells #[.int .i64 dn, .int .i64 k1, .int .i64 m1, .string d1, .string t1, .slice a1 e1.length c1, .string y1] 216)))
  have HB := hid (HB.out.kept hb)
  clear b0 b1 b2 b3 hb
  have HB := hid (HB.out.more #[.int .i64 dn, .int .i64 k1, .int .i64 m1, .string d1, .string t1, .slice a1 e1.length c1, .string y1] 216 rfl)
  have b0 := HB.out.c2 0 rfl
  have b1 := HB.out.c7 1 rfl
  dsimp only
  go_wp2_with fail
  refine (HPo.out (w3.alloc (.cells #[.int .i64 dn, .int .i64 k1, .int .i64 m1, .string d1, .string t1, .slice a1 e1.length c1, .string y1] 216)) HB.out.below).mono ?_
  rintro e w4 ⟨hb, a2, c2, rfl, hE2⟩
  clear hE2
  have HEn := hid ((HEn.out.below hb).below (below_one w4 (.cells #[.int .i64 dn2, .int .i64 k2, .int .i64 m2, .string d2, .string t2, .slice a2 e2.length c2, .string y2] 216)))
  have HB := hid (HB.out.kept hb)
  clear b0 b1 hb
  have HB := hid (HB.out.more #[.int .i64 dn2, .int .i64 k2, .int .i64 m2, .string d2, .string t2, .slice a2 e2.length c2, .string y2] 216 rfl)
  have b0 := HB.out.c2 0 rfl
  have b1 := HB.out.c7 1 rfl
  have b2 := HB.out.c2 2 rfl
  have b3 := HB.out.c5 3 rfl
  have b4 := HB.out.c7 4 rfl
  dsimp only
  go_wp2_with fail
  generalize (w4.alloc (.cells #[.int .i64 dn2, .int .i64 k2, .int .i64 m2, .string d2, .string t2, .slice a2 e2.length c2, .string y2] 216)) = V at HB HEn b0 b1 b2 b3 b4 |-
  by_cases hfd : 64 <= e1.length /\ dn2 ≠ dn
  ·have HR := hid (show R = .error 3 by rw [HRi.out, if_pos hfd])
   rw [show decide ((64 : Int) <= (e1.length : Int)) = true from decide_eq_true (by omega)] at HFu
   have hdd : dn ≠ dn2 := λe => hfd.2 e.symm
   clear HRi HLv HEnt HHt HCo hwr hDs hn8 hfd hs1
   refine (HFu.out a1 c1 V).mono ?_
   rintro e w5 ⟨rfl, hb⟩
   have HB := hid (HB.out.kept hb)
   clear b0 b1 b2 b3 b4 hb
   have b4 := HB.out.c7 4 rfl
   have b5 := HB.out.c7 5 rfl
   dsimp only
   go_wp2_with (first | (refine store_bx HB.out 2 rfl 108 _ _ rfl rfl #[.pointer none, .int .i64 0] rfl rfl (by kernel_rfl) rfl rfl (by decide) (by decide) ?_; intro w6 hS hK hbS hsS; have HBS := hid hS; clear hS hK hbS hsS; have HB := HBS; clear HBS; clear b4 b5) | fail)
   refine bodyPost_ret_by (results_st rfl _ _ (w.heap.size + 1 + 1) _ _ rfl (HB.out.obj 2 rfl)) rfl ?_
   exact stated_err HR.out (by decide) HB.out.below
  have hR := HRi.out
  rw [if_neg hfd] at hR
  have HRi := hid hR
  clear hR
  have hcs : decide ((64 : Int) <= (e1.length : Int)) = false \/ (decide ((64 : Int) <= (e1.length : Int)) = true /\ dn2 = dn) := by
   by_cases h1 : 64 <= e1.length
   ·exact .inr ⟨decide_eq_true (by omega), Classical.byContradiction λh2 => hfd ⟨h1, h2⟩⟩
   ·exact .inl (decide_eq_false (by omega))
  have HBv := HB
  have HEv := HEn
  have HFv := HFu
  have HRv := HRi
  clear hfd
  rcases hcs with hfi | ⟨hfi, rfl⟩
  all_goals
   have HB := HBv
   have HEn := HEv
   have HFu := HFv
   have HRi := HRv
   rw [hfi] at HFu
   clear hfi HBv HEv HFv HRv
   refine (HFu.out a1 c1 V).mono ?_
   rintro e w5 ⟨rfl, hb⟩
   have HEn := hid (HEn.out.below hb)
   have HB := hid (HB.out.kept hb)
   clear b0 b1 b2 b3 b4 hb
   have b0 := HB.out.c2 0 rfl
   have b1 := HB.out.c7 1 rfl
   have b4 := HB.out.c7 4 rfl
   have b5 := HB.out.c7 5 rfl
   dsimp only
   go_wp2_with fail
   have HSx := hid (λW hb => (⟨(HB.out.kept hb).cell 0 rfl 0, (HB.out.kept hb).cell 0 rfl 1, (HB.out.kept hb).cell 1 rfl 2, (HB.out.kept hb).cell 3 rfl 0, (HB.out.kept hb).cell 3 rfl 1, (HB.out.kept hb).cell 3 rfl 2, (HB.out.kept hb).cell 3 rfl 3, (HB.out.kept hb).cell 3 rfl 4, hb⟩ : W.cell? ⟨w.heap.size, 0, none⟩ = some (pv m) /\ W.cell? ⟨w.heap.size, 1, none⟩ = some (.int .i64 nx) /\ W.cell? ⟨w.heap.size + 1, 2, none⟩ = some (.string ob) /\ W.cell? ⟨w1.heap.size, 0, none⟩ = some (.int .i64 2) /\ W.cell? ⟨w1.heap.size, 1, none⟩ = some (.int .i64 mo) /\ W.cell? ⟨w1.heap.size, 2, none⟩ = some (.string d) /\ W.cell? ⟨w1.heap.size, 3, none⟩ = some (.string t) /\ W.cell? ⟨w1.heap.size, 4, none⟩ = some (.slice a es.length c) /\ Below w5.heap.size w5 W))
   have HHx := hid (λW (hb : Below w5.heap.size w5 W) => HHt.out a c W (HB.out.below.trans (hb.mono HB.out.below.size)) (HEn.out.below hb))
   have hBd := (Below.refl w5.heap.size w5).drew
   go_wp2_with fail
   go_region_held3 (λW => W.cell? ⟨w.heap.size, 0, none⟩ = some (pv m) /\ W.cell? ⟨w.heap.size, 1, none⟩ = some (.int .i64 nx) /\ W.cell? ⟨w.heap.size + 1, 2, none⟩ = some (.string ob) /\ W.cell? ⟨w1.heap.size, 0, none⟩ = some (.int .i64 2) /\ W.cell? ⟨w1.heap.size, 1, none⟩ = some (.int .i64 mo) /\ W.cell? ⟨w1.heap.size, 2, none⟩ = some (.string d) /\ W.cell? ⟨w1.heap.size, 3, none⟩ = some (.string t) /\ W.cell? ⟨w1.heap.size, 4, none⟩ = some (.slice a es.length c) /\ Below w5.heap.size w5 W)
    (first | exact HSx.out _ (by assumption))
    (first
    | (go_at_call 160; (with_reducible refine (HCo.out _).mono ?_); rintro e w20 ⟨rfl, rfl⟩)
    | (go_at_call 161; (with_reducible refine (HHx.out _ (by assumption)).mono ?_); rintro e w21 ⟨rfl, hw21⟩; have hb21 := T8.btrans hw21 (by assumption)))
   all_goals
    have HB := hid (HB.out.kept hb21)
    clear b0 b1 b4 b5
    clear hb21 hw21 hBd HHx HSx
    have b1 := HB.out.c7 1 rfl
    by_cases hdeep : 8 < N + D
    ·have HR := hid (show R = .error 3 by rw [HRi.out, if_pos hdeep])
     have hdi : (8 : Int) < (N : Int) + (D : Int) := by omega
     clear HRi HLv HEnt hdeep
     go_wp2_with (first | (refine store_bx HB.out 2 rfl 108 _ _ rfl rfl #[.pointer none, .int .i64 0] rfl rfl (by kernel_rfl) rfl rfl (by decide) (by decide) ?_; intro w6 hS hK hbS hsS; have HBS := hid hS; clear hS hK hbS hsS; have HB := HBS; clear HBS; clear b1) | fail)
     refine bodyPost_ret_by (results_st rfl _ _ (w.heap.size + 1 + 1) _ _ rfl (HB.out.obj 2 rfl)) rfl ?_
     exact stated_err HR.out (by decide) HB.out.below
    have hdi : ¬ ((8 : Int) < (N : Int) + (D : Int)) := by omega
    have hR := HRi.out
    rw [if_neg hdeep] at hR
    have HRi := hid hR
    clear hdeep hR
    go_wp2_with fail
    refine (HLv.out w21 HB.out.below).mono ?_
    rintro e w6 ⟨hb, m5, rfl, hS⟩
    have HS := hid hS
    clear hS
    have HB := hid (HB.out.kept hb)
    clear b1 hb
    have b0 := HB.out.c2 0 rfl
    have b1 := HB.out.c7 1 rfl
    dsimp only
    go_wp2_with (first | (refine store_bx HB.out 0 rfl 108 _ _ rfl rfl #[pv m5, .int .i64 nx] rfl rfl (by kernel_rfl) rfl rfl (by decide) (by decide) ?_; intro w7 hS hK hbS hsS; have HBS := hid hS; have HS := hid (HS.out.kept hK (HD.out.below hbS)); clear hS hK hbS hsS; have HB := HBS; clear HBS; clear b0 b1; have b0 := HB.out.c2 0 rfl; have b1 := HB.out.c7 1 rfl) | fail)
    cases hen : Fs.enterP env l1 nb i with
    | error ec =>
     have hR := HRi.out
     rw [hen] at hR
     have HR := hid hR
     rw [show wl (Fs.enterP env l1 nb i) nx = .error ec by rw [hen]; rfl] at HEnt
     clear hen hR
     refine (HEnt.out m5 w7 HS.out).mono ?_
     rintro e w8 ⟨hb, hne, rfl⟩
     have HB := hid (HB.out.kept hb)
     clear b0 b1 hb
     dsimp only
     go_wp2_with (first | (refine store_bx HB.out 2 rfl 108 _ _ rfl rfl #[.pointer none, .int .i64 0] rfl rfl (by kernel_rfl) rfl rfl (by decide) (by decide) ?_; intro w9 hS hK hbS hsS; have HBS := hid hS; clear hS hK hbS hsS; have HB := HBS; clear HBS) | fail)
     refine bodyPost_ret_by (results_st rfl _ _ (w.heap.size + 1 + 1) _ _ rfl (HB.out.obj 2 rfl)) rfl ?_
     exact stated_err HR.out hne HB.out.below
    | ok l2 =>
     have hR := HRi.out
     rw [hen] at hR
     have HR := hid hR
     rw [show wl (Fs.enterP env l1 nb i) nx = .ok ⟨l2, nx⟩ by rw [hen]; rfl] at HEnt
     clear hen hR
     refine (HEnt.out m5 w7 HS.out).mono ?_
     rintro e w8 ⟨hb, m6, rfl, hS⟩
     have HS := hid hS
     clear hS
     have HB := hid (HB.out.kept hb)
     clear b0 b1 hb
     dsimp only
     go_wp2_with (first | (refine store_bx HB.out 2 rfl 108 _ _ rfl rfl #[pv m6, .int .i64 nx] rfl rfl (by kernel_rfl) rfl rfl (by decide) (by decide) ?_; intro w9 hS hK hbS hsS; have HBS := hid hS; have HS := hid (HS.out.kept hK (HD.out.below hbS)); clear hS hK hbS hsS; have HB := HBS; clear HBS) | fail)
     refine bodyPost_ret_by (results_st rfl _ _ (w.heap.size + 1 + 1) _ _ rfl (HB.out.obj 2 rfl)) rfl ?_
     exact stated_ok HR.out HB.out.below HS.out
theorem pRenameN_any (m : Option Nat) (nx : Int) (l : List Fs.Item) (kd : Int) (oa ob : ByteArray) (oo og on : Int) (od : ByteArray) (w : World) (h : Sv w m l) (hf9 : l.length <= 900) (pa : oa.size <= 140737488355328) {na nb : List ByteArray} (ha : spl oa = some na) (pb : ob.size <= 140737488355328) (hb : spl ob = some nb) (i : Int) (hi1 : i ≠ 1) (hXi : 1 <= i /\ i <= 2147483647) (k : Int) (mo : Int) (d t : ByteArray) (es : List En) (hN : Fs.nodeD l i = ⟨k, mo, d, t, es⟩) (hD9 : Dp l 9 i) (hk2 : k ≠ 2)
  (hF : ∀ W, Below w.heap.size w W -> Calls prog 134 #[stv m nx, .string oa] W (Foundy (i, (⟨k, mo, d, t, es⟩ : Nd.Node), 0) W))
  (dn2 : Int) (y2 : ByteArray) (hpl : Fs.place l na = .ok (dn2, y2)) (l1 : List Fs.Item) (hlv : Fs.leaveP l na = .ok l1) {R : Except Int Fs.FS} (hR : R = match Fs.fresh l nb with
   | .error e => .error e
   | .ok (dn, _) => if 64 <= (Fs.nodeD l dn).ents.length /\ dn2 ≠ dn then .error 3 else if 8 < nb.length + Fs.deep l 9 i then .error 3 else match Fs.enterP env l1 nb i with
    | .error e => .error e
    | .ok l2 => .ok ⟨l2, nx⟩) : Calls prog 124 #[stv m nx, .agg #[.int .i64 kd, .string oa, .string ob, .int .i64 oo, .int .i64 og, .int .i64 on, .string od]] w (Stated R w) := by
 have HF := hid hF
 clear hF
 have HGp := hid (λW (hbw : Below w.heap.size w W) => pGap_any m nx l ob nb W (h.below hbw) pb hb)
 have HPl := hid (λW (hbw : Below w.heap.size w W) => (pPlace_any m nx l oa na W (h.below hbw) pa ha))
 have HLv := hid (λW (hbw : Below w.heap.size w W) => pLeave_any m nx l oa na W (h.below hbw) pa ha hf9)
 have HLn := leaveP_len hlv hf9
 rw [show wl (Fs.leaveP l na) nx = .ok ⟨l1, nx⟩ by rw [hlv]; rfl] at HLv
 have HEnt := hid (λm5 W (hS : Sv W m5 l1) => pEnter_any m5 nx l1 ob nb i W hS pb hb hXi HLn)
 have HD := hid h.dg
 have HSm := hid h.ok.small
 have HHt := hid (λ(a : Option Addr) (c : Nat) W (hbw : Below w.heap.size w W) (hE : Ents a (Fs.nodeD l i).ents.length (Fs.nodeD l i).ents W) => height_any m nx l w h 9 (by decide) i a c W hbw hE hD9)
 rw [hN] at HHt
 dsimp only at HHt
 have hDs := deep_small l 9 i
 have hn8 : nb.length <= 8 := by
  obtain ⟨us, hus, rfl⟩ := spl_some hb
  rw [List.length_map]; exact (split_shape hus).1
 rw [hpl] at HPl
 have HRi := hid hR
 clear hR
 go_enter func124, ntmps124
 go_wp2_with fail
 obtain ⟨W0, hW, HB⟩ := bx3 w m nx kd oa ob oo og on od; rw [hW]; clear hW
 go_wp2_with fail
 refine (HF.out W0 HB.out.below).mono ?_
 rintro e w1 ⟨a, c, rfl, hE, hb⟩
 have HEn := hid (hE.below (below_one w1 (.cells #[.int .i64 k, .int .i64 mo, .string d, .string t, .slice a es.length c] 67)))
 clear hE
 have HB := hid (HB.out.kept hb)
 clear hb
 have HB := hid (HB.out.more #[.int .i64 k, .int .i64 mo, .string d, .string t, .slice a es.length c] 67 rfl)
 have b0 := HB.out.c2 0 rfl
 have b1 := HB.out.c7 1 rfl
 have b2 := HB.out.c2 2 rfl
 dsimp only
 go_wp2_with fail
 cases hfr : Fs.fresh l nb with
 | error ec =>
  have hR := HRi.out
  rw [hfr] at HGp hR
  have HR := hid hR
  have hne := fresh_nz hfr
  clear hR hfr hpl hlv HPl HLv HEnt HHt HSm HLn hN hD9 h hb ha hDs hn8
  refine (HGp.out (w1.alloc (.cells #[.int .i64 k, .int .i64 mo, .string d, .string t, .slice a es.length c] 67)) HB.out.below).mono ?_
  rintro e w2 ⟨hb, _, rfl⟩
  have HB := hid (HB.out.kept hb)
  clear b0 b1 b2 hb
  have HB := hid (HB.out.more #[.int .i64 0, .int .i64 0, .int .i64 0, .string ⟨#[]⟩, .string ⟨#[]⟩, .slice none 0 0, .string ⟨#[]⟩] 216 rfl)
  dsimp only
  go_wp2_with (first | (refine store_bx HB.out 2 rfl 108 _ _ rfl rfl #[.pointer none, .int .i64 0] rfl rfl (by kernel_rfl) rfl rfl (by decide) (by decide) ?_; intro w3 hS hK hbS hsS; have HBS := hid hS; clear hS hK hbS hsS; have HB := HBS; clear HBS) | fail)
  refine bodyPost_ret_by (results_st rfl _ _ (w.heap.size + 1 + 1) _ _ rfl (HB.out.obj 2 rfl)) rfl ?_
  exact stated_err HR.out hne HB.out.below
 | ok r =>
  obtain ⟨dn, y1⟩ := r
  have hR := HRi.out
  rw [hfr] at HGp hR
  simp only at hR
  obtain ⟨x1, hx1⟩ : ∃ x, Fs.nodeD l dn = x := ⟨_, rfl⟩
  obtain ⟨x2, hx2⟩ : ∃ x, Fs.nodeD l dn2 = x := ⟨_, rfl⟩
  have hs1 := HSm.out dn
  rw [hx1] at hR hs1
  have HGo := hid (show ∀ W, Below w.heap.size w W -> Calls prog 157 #[stv m nx, .string ob] W λe w' => Below W.heap.size W w' /\ ∃ a c, e = .returned (.tuple #[.agg #[.int .i64 dn, .int .i64 x1.kind, .int .i64 x1.mode, .string x1.data, .string x1.target, .slice a x1.ents.length c, .string y1], .int .i64 0]) /\ Ents a x1.ents.length x1.ents w' from λW hb => (HGp.out W hb).mono λe w' hx => by
   obtain ⟨hx3, hx4⟩ := hx
   simp only [hx1] at hx4
   exact ⟨hx3, hx4⟩)
  have HPo := hid (show ∀ W, Below w.heap.size w W -> Calls prog 158 #[stv m nx, .string oa] W λe w' => Below W.heap.size W w' /\ ∃ a c, e = .returned (.tuple #[.agg #[.int .i64 dn2, .int .i64 x2.kind, .int .i64 x2.mode, .string x2.data, .string x2.target, .slice a x2.ents.length c, .string y2], .int .i64 0]) /\ Ents a x2.ents.length x2.ents w' from λW hb => (HPl.out W hb).mono λe w' hx => by
   obtain ⟨hx3, hx4⟩ := hx
   simp only [hx2] at hx4
   exact ⟨hx3, hx4⟩)
  have hsl := slashes hb (fresh_ne hfr)
  have HCo := hid (show ∀ W, Calls prog 160 #[.string ob, .string ⟨#[47]⟩] W λe w' => e = .returned (.int .i64 (nb.length : Int)) /\ w' = W from λW => (count_any ob W).mono λe w' hx => by rw [hsl] at hx; exact hx)
  clear hsl HGp HPl hx2 hfr hpl hlv HLn hD9 h hb ha HSm hN
  obtain ⟨k1, m1, d1, t1, e1⟩ := x1
  obtain ⟨k2, m2, d2, t2, e2⟩ := x2
  dsimp only at HGo HPo hR hs1
  have HFu := hid (λ(a : Option Addr) (c : Nat) W => isFull_any k1 m1 d1 t1 a e1.length c W (by omega))
  generalize Fs.deep l 9 i = D at *
  generalize nb.length = N at *
  clear hx1
  have hwr : IntKind.i64.wrap ((N : Int) + (D : Int)) = (N : Int) + (D : Int) := IntWalk.i64_in _ (by omega)
  have HRi := hid hR
  clear hR
  refine (HGo.out (w1.alloc (.cells #[.int .i64 k, .int .i64 mo, .string d, .string t, .slice a es.length c] 67)) HB.out.below).mono ?_
  rintro e w2 ⟨hb, a1, c1, rfl, hE1⟩
  clear hE1
  have HEn := hid ((HEn.out.below hb).below (below_one w2 (.cells #[.int .i64 dn, .int .i64 k1, .int .i64 m1, .string d1, .string t1, .slice a1 e1.length c1, .string y1] 216)))
  have HB := hid (HB.out.kept hb)
  clear b0 b1 b2 hb
  have HB := hid (HB.out.more #[.int .i64 dn, .int .i64 k1, .int .i64 m1, .string d1, .string t1, .slice a1 e1.length c1, .string y1] 216 rfl)
  have b0 := HB.out.c2 0 rfl
  have b1 := HB.out.c7 1 rfl
  dsimp only
  go_wp2_with fail
  refine (HPo.out (w2.alloc (.cells #[.int .i64 dn, .int .i64 k1, .int .i64 m1, .string d1, .string t1, .slice a1 e1.length c1, .string y1] 216)) HB.out.below).mono ?_
  rintro e w3 ⟨hb, a2, c2, rfl, hE2⟩
  clear hE2
  have HEn := hid ((HEn.out.below hb).below (below_one w3 (.cells #[.int .i64 dn2, .int .i64 k2, .int .i64 m2, .string d2, .string t2, .slice a2 e2.length c2, .string y2] 216)))
  have HB := hid (HB.out.kept hb)
  clear b0 b1 hb
  have HB := hid (HB.out.more #[.int .i64 dn2, .int .i64 k2, .int .i64 m2, .string d2, .string t2, .slice a2 e2.length c2, .string y2] 216 rfl)
  have b0 := HB.out.c2 0 rfl
  have b1 := HB.out.c7 1 rfl
  have b2 := HB.out.c2 2 rfl
  have b3 := HB.out.c5 3 rfl
  have b4 := HB.out.c7 4 rfl
  dsimp only
  go_wp2_with fail
  generalize (w3.alloc (.cells #[.int .i64 dn2, .int .i64 k2, .int .i64 m2, .string d2, .string t2, .slice a2 e2.length c2, .string y2] 216)) = V at HB HEn b0 b1 b2 b3 b4 |-
  by_cases hfd : 64 <= e1.length /\ dn2 ≠ dn
  ·have HR := hid (show R = .error 3 by rw [HRi.out, if_pos hfd])
   rw [show decide ((64 : Int) <= (e1.length : Int)) = true from decide_eq_true (by omega)] at HFu
   have hdd : dn ≠ dn2 := λe => hfd.2 e.symm
   clear HRi HLv HEnt HHt HCo hwr hDs hn8 hfd hs1
   refine (HFu.out a1 c1 V).mono ?_
   rintro e w4 ⟨rfl, hb⟩
   have HB := hid (HB.out.kept hb)
   clear b0 b1 b2 b3 b4 hb
   have b4 := HB.out.c7 4 rfl
   have b5 := HB.out.c7 5 rfl
   dsimp only
   go_wp2_with (first | (refine store_bx HB.out 2 rfl 108 _ _ rfl rfl #[.pointer none, .int .i64 0] rfl rfl (by kernel_rfl) rfl rfl (by decide) (by decide) ?_; intro w5 hS hK hbS hsS; have HBS := hid hS; clear hS hK hbS hsS; have HB := HBS; clear HBS; clear b4 b5) | fail)
   refine bodyPost_ret_by (results_st rfl _ _ (w.heap.size + 1 + 1) _ _ rfl (HB.out.obj 2 rfl)) rfl ?_
   exact stated_err HR.out (by decide) HB.out.below
  have hR := HRi.out
  rw [if_neg hfd] at hR
  have HRi := hid hR
  clear hR
  have hcs : decide ((64 : Int) <= (e1.length : Int)) = false \/ (decide ((64 : Int) <= (e1.length : Int)) = true /\ dn2 = dn) := by
   by_cases h1 : 64 <= e1.length
   ·exact .inr ⟨decide_eq_true (by omega), Classical.byContradiction λh2 => hfd ⟨h1, h2⟩⟩
   ·exact .inl (decide_eq_false (by omega))
  have HBv := HB
  have HEv := HEn
  have HFv := HFu
  have HRv := HRi
  clear hfd
  rcases hcs with hfi | ⟨hfi, rfl⟩
  all_goals
   have HB := HBv
   have HEn := HEv
   have HFu := HFv
   have HRi := HRv
   rw [hfi] at HFu
   clear hfi HBv HEv HFv HRv
   refine (HFu.out a1 c1 V).mono ?_
   rintro e w4 ⟨rfl, hb⟩
   have HEn := hid (HEn.out.below hb)
   have HB := hid (HB.out.kept hb)
   clear b0 b1 b2 b3 b4 hb
   have b0 := HB.out.c2 0 rfl
   have b1 := HB.out.c7 1 rfl
   have b4 := HB.out.c7 4 rfl
   have b5 := HB.out.c7 5 rfl
   dsimp only
   go_wp2_with fail
   have HSx := hid (λW hb => (⟨(HB.out.kept hb).cell 0 rfl 0, (HB.out.kept hb).cell 0 rfl 1, (HB.out.kept hb).cell 1 rfl 2, (HB.out.kept hb).cell 3 rfl 0, (HB.out.kept hb).cell 3 rfl 1, (HB.out.kept hb).cell 3 rfl 2, (HB.out.kept hb).cell 3 rfl 3, (HB.out.kept hb).cell 3 rfl 4, hb⟩ : W.cell? ⟨w.heap.size, 0, none⟩ = some (pv m) /\ W.cell? ⟨w.heap.size, 1, none⟩ = some (.int .i64 nx) /\ W.cell? ⟨w.heap.size + 1, 2, none⟩ = some (.string ob) /\ W.cell? ⟨w1.heap.size, 0, none⟩ = some (.int .i64 k) /\ W.cell? ⟨w1.heap.size, 1, none⟩ = some (.int .i64 mo) /\ W.cell? ⟨w1.heap.size, 2, none⟩ = some (.string d) /\ W.cell? ⟨w1.heap.size, 3, none⟩ = some (.string t) /\ W.cell? ⟨w1.heap.size, 4, none⟩ = some (.slice a es.length c) /\ Below w4.heap.size w4 W))
   have HHx := hid (λW (hb : Below w4.heap.size w4 W) => HHt.out a c W (HB.out.below.trans (hb.mono HB.out.below.size)) (HEn.out.below hb))
   have hBd := (Below.refl w4.heap.size w4).drew
   go_wp2_with fail
   go_region_held3 (λW => W.cell? ⟨w.heap.size, 0, none⟩ = some (pv m) /\ W.cell? ⟨w.heap.size, 1, none⟩ = some (.int .i64 nx) /\ W.cell? ⟨w.heap.size + 1, 2, none⟩ = some (.string ob) /\ W.cell? ⟨w1.heap.size, 0, none⟩ = some (.int .i64 k) /\ W.cell? ⟨w1.heap.size, 1, none⟩ = some (.int .i64 mo) /\ W.cell? ⟨w1.heap.size, 2, none⟩ = some (.string d) /\ W.cell? ⟨w1.heap.size, 3, none⟩ = some (.string t) /\ W.cell? ⟨w1.heap.size, 4, none⟩ = some (.slice a es.length c) /\ Below w4.heap.size w4 W)
    (first | exact HSx.out _ (by assumption))
    (first
    | (go_at_call 160; (with_reducible refine (HCo.out _).mono ?_); rintro e w20 ⟨rfl, rfl⟩)
    | (go_at_call 161; (with_reducible refine (HHx.out _ (by assumption)).mono ?_); rintro e w21 ⟨rfl, hw21⟩; have hb21 := T8.btrans hw21 (by assumption)))
   all_goals
    have HB := hid (HB.out.kept hb21)
    clear b0 b1 b4 b5
    clear hb21 hw21 hBd HHx HSx
    have b1 := HB.out.c7 1 rfl
    by_cases hdeep : 8 < N + D
    ·have HR := hid (show R = .error 3 by rw [HRi.out, if_pos hdeep])
     have hdi : (8 : Int) < (N : Int) + (D : Int) := by omega
     clear HRi HLv HEnt hdeep
     go_wp2_with (first | (refine store_bx HB.out 2 rfl 108 _ _ rfl rfl #[.pointer none, .int .i64 0] rfl rfl (by kernel_rfl) rfl rfl (by decide) (by decide) ?_; intro w5 hS hK hbS hsS; have HBS := hid hS; clear hS hK hbS hsS; have HB := HBS; clear HBS; clear b1) | fail)
     refine bodyPost_ret_by (results_st rfl _ _ (w.heap.size + 1 + 1) _ _ rfl (HB.out.obj 2 rfl)) rfl ?_
     exact stated_err HR.out (by decide) HB.out.below
    have hdi : ¬ ((8 : Int) < (N : Int) + (D : Int)) := by omega
    have hR := HRi.out
    rw [if_neg hdeep] at hR
    have HRi := hid hR
    clear hdeep hR
    go_wp2_with fail
    refine (HLv.out w21 HB.out.below).mono ?_
    rintro e w5 ⟨hb, m5, rfl, hS⟩
    have HS := hid hS
    clear hS
    have HB := hid (HB.out.kept hb)
    clear b1 hb
    have b0 := HB.out.c2 0 rfl
    have b1 := HB.out.c7 1 rfl
    dsimp only
    go_wp2_with (first | (refine store_bx HB.out 0 rfl 108 _ _ rfl rfl #[pv m5, .int .i64 nx] rfl rfl (by kernel_rfl) rfl rfl (by decide) (by decide) ?_; intro w6 hS hK hbS hsS; have HBS := hid hS; have HS := hid (HS.out.kept hK (HD.out.below hbS)); clear hS hK hbS hsS; have HB := HBS; clear HBS; clear b0 b1; have b0 := HB.out.c2 0 rfl; have b1 := HB.out.c7 1 rfl) | fail)
    cases hen : Fs.enterP env l1 nb i with
    | error ec =>
     have hR := HRi.out
     rw [hen] at hR
     have HR := hid hR
     rw [show wl (Fs.enterP env l1 nb i) nx = .error ec by rw [hen]; rfl] at HEnt
     clear hen hR
     refine (HEnt.out m5 w6 HS.out).mono ?_
     rintro e w7 ⟨hb, hne, rfl⟩
     have HB := hid (HB.out.kept hb)
     clear b0 b1 hb
     dsimp only
     go_wp2_with (first | (refine store_bx HB.out 2 rfl 108 _ _ rfl rfl #[.pointer none, .int .i64 0] rfl rfl (by kernel_rfl) rfl rfl (by decide) (by decide) ?_; intro w8 hS hK hbS hsS; have HBS := hid hS; clear hS hK hbS hsS; have HB := HBS; clear HBS) | fail)
     refine bodyPost_ret_by (results_st rfl _ _ (w.heap.size + 1 + 1) _ _ rfl (HB.out.obj 2 rfl)) rfl ?_
     exact stated_err HR.out hne HB.out.below
    | ok l2 =>
     have hR := HRi.out
     rw [hen] at hR
     have HR := hid hR
     rw [show wl (Fs.enterP env l1 nb i) nx = .ok ⟨l2, nx⟩ by rw [hen]; rfl] at HEnt
     clear hen hR
     refine (HEnt.out m5 w6 HS.out).mono ?_
     rintro e w7 ⟨hb, m6, rfl, hS⟩
     have HS := hid hS
     clear hS
     have HB := hid (HB.out.kept hb)
     clear b0 b1 hb
     dsimp only
     go_wp2_with (first | (refine store_bx HB.out 2 rfl 108 _ _ rfl rfl #[pv m6, .int .i64 nx] rfl rfl (by kernel_rfl) rfl rfl (by decide) (by decide) ?_; intro w8 hS hK hbS hsS; have HBS := hid hS; have HS := hid (HS.out.kept hK (HD.out.below hbS)); clear hS hK hbS hsS; have HB := HBS; clear HBS) | fail)
     refine bodyPost_ret_by (results_st rfl _ _ (w.heap.size + 1 + 1) _ _ rfl (HB.out.obj 2 rfl)) rfl ?_
     exact stated_ok HR.out HB.out.below HS.out
end Go.Proofs.YthbajmlmjjfgpaaGreatDoor
