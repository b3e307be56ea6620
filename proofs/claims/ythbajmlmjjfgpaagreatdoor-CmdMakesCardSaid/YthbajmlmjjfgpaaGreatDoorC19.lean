/- A part of the proofs. -/
import Derived.Test.YthbajmlmjjfgpaaGreatDoorC18
set_option maxRecDepth 1000000
set_option maxHeartbeats 16000000
open Go.Lib (hid)
open Go.Proofs.Tryz
namespace Go.Proofs.YthbajmlmjjfgpaaGreatDoor
open Go.RowKit Go.Less
open T8 (pv Dg)
attribute [local go_sem 9000] sem_eql sem_neq
theorem spl_right {p : ByteArray} {ns : List ByteArray} (h : spl p = some ns) : ∀ n ∈ ns, env.nm (Nd.bs n) = true := by
 obtain ⟨us, hus, rfl⟩ := spl_some h
 have hr := (split_shape hus).2
 intro n hn
 obtain ⟨u, hu, rfl⟩ := List.mem_map.1 hn
 exact List.all_eq_true.1 hr u hu
theorem leaveP_len {l l2 : List Fs.Item} {ns : List ByteArray} (h : Fs.leaveP l ns = .ok l2) (hl : l.length <= 900) : l2.length <= 900 := by
 unfold Fs.leaveP at h
 cases hp : Fs.place l ns with
 | error e => rw [hp] at h; cases h
 | ok r =>
  obtain ⟨d, n⟩ := r
  rw [hp] at h
  simp only at h
  split at h
  ·cases h
  ·injection h with h
   rw [<- h]
   unfold Fs.leave
   rw [Fs.len_set, if_pos (place_node hp)]
   exact hl
theorem pLink_any (m : Option Nat) (nx : Int) (l : List Fs.Item) (kd : Int) (oa ob : ByteArray) (oo og on : Int) (od : ByteArray) (w : World) (h : Sv w m l) (G : Fs.Half env ⟨l, nx⟩) (hf9 : l.length <= 900) (pa : oa.size <= 140737488355328) {na : List ByteArray} (ha : spl oa = some na) (pb : ob.size <= 140737488355328) {nb : List ByteArray} (hb : spl ob = some nb) : Calls prog 121 #[stv m nx, .agg #[.int .i64 kd, .string oa, .string ob, .int .i64 oo, .int .i64 og, .int .i64 on, .string od]] w (Stated (Fs.link env ⟨l, nx⟩ na nb) w) := by
 have hlk := Fs.link_is (E := env) (f := ⟨l, nx⟩) (aa := na) (bs := nb) (spl_right hb)
 dsimp only at hlk
 have HEnt := hid (λi (hi : 1 <= i /\ i <= 2147483647) W (hbw : Below w.heap.size w W) => pEnter_any m nx l ob nb i W (h.below hbw) pb hb hi hf9)
 have HFi := hid (λW (hb : Below w.heap.size w W) => pFind_any m nx l oa W (h.below hb) pa)
 have HD := hid h.dg
 rcases find_cases (l := l) ha with ⟨ec, hne, hw, hf⟩ | ⟨i, hw, hf⟩
 ·have HR := hid (show Fs.link env ⟨l, nx⟩ na nb = .error ec by rw [hlk, hw])
  have HF := hid (show ∀ W, Below w.heap.size w W -> Calls prog 134 #[stv m nx, .string oa] W (Foundy (0, Nd.none0, ec) W) from λW hb => hf ▸ HFi.out W hb)
  clear HFi hf hw h hlk
  go_enter func121, ntmps121
  go_wp2_with fail
  obtain ⟨W0, hW, HB⟩ := bx3 w m nx kd oa ob oo og on od; rw [hW]; clear hW
  go_wp2_with fail
  refine (HF.out W0 HB.out.below).mono ?_
  rintro e w1 ⟨ea, eb, rfl, hE, hb⟩
  have hbk := hb
  clear hE
  have HB := hid (HB.out.kept hbk)
  clear hbk
  have HB := hid (HB.out.more #[.int .i64 0, .int .i64 0, .string ⟨#[]⟩, .string ⟨#[]⟩, .slice ea 0 eb] 67 rfl)
  dsimp only
  go_wp2_with (first | (refine store_bx HB.out 2 rfl 108 _ _ rfl rfl #[.pointer none, .int .i64 0] rfl rfl (by kernel_rfl) rfl rfl (by decide) (by decide) ?_; intro w2 hS hK hbS hsS; have HBS := hid hS; clear hS hK hbS hsS; have HB := HBS; clear HBS) | fail)
  refine bodyPost_ret_by (results_st rfl _ _ (w.heap.size + 1 + 1) _ _ rfl (HB.out.obj 2 rfl)) rfl ?_
  exact stated_err HR.out hne HB.out.below
 ·rw [hw] at hlk
  simp only at hlk
  obtain ⟨x, hx, hxD⟩ := G.walk_node hw
  have hxr := h.ok.node hx
  have HXi := hxr.2
  rw [hxD] at hf
  obtain ⟨k, mo, d, t, es⟩ := x
  have HF := hid (show ∀ W, Below w.heap.size w W -> Calls prog 134 #[stv m nx, .string oa] W (Foundy (i, (⟨k, mo, d, t, es⟩ : Nd.Node), 0) W) from λW hb => hf ▸ HFi.out W hb)
  clear hf HFi h
  rw [hxD] at hlk
  clear hx hxD hw hxr
  by_cases hk2 : k = 2
  ·subst hk2
   have HR := hid (show Fs.link env ⟨l, nx⟩ na nb = .error 11 by rw [hlk]; rfl)
   clear hlk HEnt
   go_enter func121, ntmps121
   go_wp2_with fail
   obtain ⟨W0, hW, HB⟩ := bx3 w m nx kd oa ob oo og on od; rw [hW]; clear hW
   go_wp2_with fail
   refine (HF.out W0 HB.out.below).mono ?_
   rintro e w1 ⟨a, c, rfl, hE, hb⟩
   have hbk := hb
   clear hE
   have HB := hid (HB.out.kept hbk)
   clear hbk
   have HB := hid (HB.out.more #[.int .i64 2, .int .i64 mo, .string d, .string t, .slice a es.length c] 67 rfl)
   dsimp only
   go_wp2_with (first | (refine store_bx HB.out 2 rfl 108 _ _ rfl rfl #[.pointer none, .int .i64 0] rfl rfl (by kernel_rfl) rfl rfl (by decide) (by decide) ?_; intro w2 hS hK hbS hsS; have HBS := hid hS; clear hS hK hbS hsS; have HB := HBS; clear HBS) | fail)
   refine bodyPost_ret_by (results_st rfl _ _ (w.heap.size + 1 + 1) _ _ rfl (HB.out.obj 2 rfl)) rfl ?_
   exact stated_err HR.out (by decide) HB.out.below
  ·rw [if_neg hk2] at hlk
   have HE2 := hid (λW (hbw : Below w.heap.size w W) => HEnt.out i HXi W hbw)
   clear HEnt
   cases hen : Fs.enterP env l nb i with
   | error ce =>
    have HR := hid (show Fs.link env ⟨l, nx⟩ na nb = .error ce by rw [hlk, hen])
    rw [show wl (Fs.enterP env l nb i) nx = .error ce by rw [hen]; rfl] at HE2
    clear hlk hen
    go_enter func121, ntmps121
    go_wp2_with fail
    obtain ⟨W0, hW, HB⟩ := bx3 w m nx kd oa ob oo og on od; rw [hW]; clear hW
    go_wp2_with fail
    refine (HF.out W0 HB.out.below).mono ?_
    rintro e w1 ⟨a, c, rfl, hE, hb⟩
    have hbk := hb
    clear hE
    have HB := hid (HB.out.kept hbk)
    clear hbk
    have HB := hid (HB.out.more #[.int .i64 k, .int .i64 mo, .string d, .string t, .slice a es.length c] 67 rfl)
    have b0 := HB.out.c2 0 rfl
    have b1 := HB.out.c7 1 rfl
    dsimp only
    go_wp2_with fail
    refine (HE2.out (w1.alloc (.cells #[.int .i64 k, .int .i64 mo, .string d, .string t, .slice a es.length c] 67)) HB.out.below).mono ?_
    rintro e w2 ⟨hb, hne, rfl⟩
    have hbk := hb
    have HB := hid (HB.out.kept hbk)
    clear b0 b1
    clear hbk
    dsimp only
    go_wp2_with (first | (refine store_bx HB.out 2 rfl 108 _ _ rfl rfl #[.pointer none, .int .i64 0] rfl rfl (by kernel_rfl) rfl rfl (by decide) (by decide) ?_; intro w3 hS hK hbS hsS; have HBS := hid hS; clear hS hK hbS hsS; have HB := HBS; clear HBS) | fail)
    refine bodyPost_ret_by (results_st rfl _ _ (w.heap.size + 1 + 1) _ _ rfl (HB.out.obj 2 rfl)) rfl ?_
    exact stated_err HR.out hne HB.out.below
   | ok l2 =>
    have HR := hid (show Fs.link env ⟨l, nx⟩ na nb = .ok ⟨l2, nx⟩ by rw [hlk, hen])
    rw [show wl (Fs.enterP env l nb i) nx = .ok ⟨l2, nx⟩ by rw [hen]; rfl] at HE2
    clear hlk hen
    go_enter func121, ntmps121
    go_wp2_with fail
    obtain ⟨W0, hW, HB⟩ := bx3 w m nx kd oa ob oo og on od; rw [hW]; clear hW
    go_wp2_with fail
    refine (HF.out W0 HB.out.below).mono ?_
    rintro e w1 ⟨a, c, rfl, hE, hb⟩
    have hbk := hb
    clear hE
    have HB := hid (HB.out.kept hbk)
    clear hbk
    have HB := hid (HB.out.more #[.int .i64 k, .int .i64 mo, .string d, .string t, .slice a es.length c] 67 rfl)
    have b0 := HB.out.c2 0 rfl
    have b1 := HB.out.c7 1 rfl
    dsimp only
    go_wp2_with fail
    refine (HE2.out (w1.alloc (.cells #[.int .i64 k, .int .i64 mo, .string d, .string t, .slice a es.length c] 67)) HB.out.below).mono ?_
    rintro e w2 ⟨hb, m5, rfl, hS⟩
    have hbk := hb
    have HS := hid hS
    clear hS
    have HB := hid (HB.out.kept hbk)
    clear b0 b1
    clear hbk
    dsimp only
    go_wp2_with (first | (refine store_bx HB.out 2 rfl 108 _ _ rfl rfl #[pv m5, .int .i64 nx] rfl rfl (by kernel_rfl) rfl rfl (by decide) (by decide) ?_; intro w3 hS hK hbS hsS; have HBS := hid hS; have HS := hid (HS.out.kept hK (HD.out.below hbS)); clear hS hK hbS hsS; have HB := HBS; clear HBS) | fail)
    refine bodyPost_ret_by (results_st rfl _ _ (w.heap.size + 1 + 1) _ _ rfl (HB.out.obj 2 rfl)) rfl ?_
    exact stated_ok HR.out HB.out.below HS.out
theorem pChmod_any (m : Option Nat) (nx : Int) (l : List Fs.Item) (kd : Int) (oa ob : ByteArray) (oo og on : Int) (od : ByteArray) (w : World) (h : Sv w m l) (G : Fs.Half env ⟨l, nx⟩) (hf9 : l.length <= 900) (pa : oa.size <= 140737488355328) {na : List ByteArray} (ha : spl oa = some na) : Calls prog 128 #[stv m nx, .agg #[.int .i64 kd, .string oa, .string ob, .int .i64 oo, .int .i64 og, .int .i64 on, .string od]] w (Stated (Fs.chmod ⟨l, nx⟩ ⟨kd, oa, ob, oo, og, on, od⟩ na) w) := by
 have hlk : Fs.chmod ⟨l, nx⟩ ⟨kd, oa, ob, oo, og, on, od⟩ na = match Fs.walk l 1 na with
  | .error e => .error e
  | .ok i => if on < 0 \/ 511 < on then .error 1 else .ok ⟨Fs.setL l i { Fs.nodeD l i with mode := on }, nx⟩ := rfl
 have HFi := hid (λW (hb : Below w.heap.size w W) => pFind_any m nx l oa W (h.below hb) pa)
 have HD := hid h.dg
 have HSv := hid (λW (hb : Below w.heap.size w W) => h.below hb)
 rcases find_cases (l := l) ha with ⟨ec, hne, hw, hf⟩ | ⟨i, hw, hf⟩
 ·have HR := hid (show Fs.chmod ⟨l, nx⟩ ⟨kd, oa, ob, oo, og, on, od⟩ na = .error ec by rw [hlk, hw])
  have HF := hid (show ∀ W, Below w.heap.size w W -> Calls prog 134 #[stv m nx, .string oa] W (Foundy (0, Nd.none0, ec) W) from λW hb => hf ▸ HFi.out W hb)
  clear HFi hf hw h hlk
  go_enter func128, ntmps128
  go_wp2_with fail
  obtain ⟨W0, hW, HB⟩ := bx3 w m nx kd oa ob oo og on od; rw [hW]; clear hW
  go_wp2_with fail
  refine (HF.out W0 HB.out.below).mono ?_
  rintro e w1 ⟨ea, eb, rfl, hE, hb⟩
  have hbk := hb
  clear hE
  have HB := hid (HB.out.kept hbk)
  clear hbk
  have HB := hid (HB.out.more #[.int .i64 0, .int .i64 0, .string ⟨#[]⟩, .string ⟨#[]⟩, .slice ea 0 eb] 67 rfl)
  dsimp only
  go_wp2_with (first | (refine store_bx HB.out 2 rfl 108 _ _ rfl rfl #[.pointer none, .int .i64 0] rfl rfl (by kernel_rfl) rfl rfl (by decide) (by decide) ?_; intro w2 hS hK hbS hsS; have HBS := hid hS; clear hS hK hbS hsS; have HB := HBS; clear HBS) | fail)
  refine bodyPost_ret_by (results_st rfl _ _ (w.heap.size + 1 + 1) _ _ rfl (HB.out.obj 2 rfl)) rfl ?_
  exact stated_err HR.out hne HB.out.below
 ·rw [hw] at hlk
  simp only at hlk
  obtain ⟨x, hx, hxD⟩ := G.walk_node hw
  have hxr := h.ok.node hx
  have HXi := hxr.2
  have HXs : (Fs.node l i).isSome = true := by rw [hx]; rfl
  rw [hxD] at hf
  obtain ⟨k, mo, d, t, es⟩ := x
  have HF := hid (show ∀ W, Below w.heap.size w W -> Calls prog 134 #[stv m nx, .string oa] W (Foundy (i, (⟨k, mo, d, t, es⟩ : Nd.Node), 0) W) from λW hb => hf ▸ HFi.out W hb)
  clear hf HFi h
  rw [hxD] at hlk
  have hsm := Right.smallS hxr.1
  dsimp only at hsm hlk
  have HNr := hid (λb (hbb : ndr k on d t es = b) W a c (hE : Ents a es.length es W) => q_node (m := on) (c := c) W hE hsm hbb)
  have hRi : ¬ (on < 0 \/ 511 < on) -> Nd.Right less Nm.right ⟨k, on, d, t, es⟩ := λhn => ⟨by show 0 <= on; omega, by show on <= 511; omega, hxr.1.len, hxr.1.ok, hxr.1.rise, hxr.1.kinds⟩
  clear hx hxD hw hxr hsm
  by_cases hN : on < 0 \/ 511 < on
  ·have HR := hid (show Fs.chmod ⟨l, nx⟩ ⟨kd, oa, ob, oo, og, on, od⟩ na = .error 1 by rw [hlk, if_pos hN])
   have HNr := hid (λW a c (hE : Ents a es.length es W) => HNr.out false (ndr_low hN) W a c hE)
   clear hlk hRi hN
   go_enter func128, ntmps128
   go_wp2_with fail
   obtain ⟨W0, hW, HB⟩ := bx3 w m nx kd oa ob oo og on od; rw [hW]; clear hW
   go_wp2_with fail
   refine (HF.out W0 HB.out.below).mono ?_
   rintro e w1 ⟨a, c, rfl, hE, hb⟩
   have hbk := hb
   have HEn := hid (hE.below (below_one w1 (.cells #[.int .i64 k, .int .i64 on, .string d, .string t, .slice a es.length c] 67)))
   clear hE
   have HB := hid (HB.out.kept hbk)
   clear hbk
   have HBp := HB
   have HB := hid (HB.out.more #[.int .i64 k, .int .i64 mo, .string d, .string t, .slice a es.length c] 67 rfl)
   have b1 := HB.out.c7 1 rfl
   dsimp only
   go_wp2_with fail
   clear b1
   have HB := hid (show Bxs w [(w.heap.size, #[pv m, .int .i64 nx], 108), (w.heap.size + 1, #[.int .i64 kd, .string oa, .string ob, .int .i64 oo, .int .i64 og, .int .i64 on, .string od], 74), (w.heap.size + 1 + 1, #[.pointer none, .int .i64 0], 108), (w1.heap.size, #[.int .i64 k, .int .i64 on, .string d, .string t, .slice a es.length c], 67)] (w1.alloc (.cells #[.int .i64 k, .int .i64 on, .string d, .string t, .slice a es.length c] 67)) from HBp.out.more _ _ rfl)
   refine (HNr.out (w1.alloc (.cells #[.int .i64 k, .int .i64 on, .string d, .string t, .slice a es.length c] 67)) a c HEn.out).mono ?_
   rintro e w2 ⟨rfl, hb⟩
   have hbk := hb
   have HB := hid (HB.out.kept hbk)
   clear hbk
   dsimp only
   go_wp2_with (first | (refine store_bx HB.out 2 rfl 108 _ _ rfl rfl #[.pointer none, .int .i64 0] rfl rfl (by kernel_rfl) rfl rfl (by decide) (by decide) ?_; intro w3 hS hK hbS hsS; have HBS := hid hS; clear hS hK hbS hsS; have HB := HBS; clear HBS) | fail)
   refine bodyPost_ret_by (results_st rfl _ _ (w.heap.size + 1 + 1) _ _ rfl (HB.out.obj 2 rfl)) rfl ?_
   exact stated_err HR.out (by decide) HB.out.below
  ·have HR := hid (show Fs.chmod ⟨l, nx⟩ ⟨kd, oa, ob, oo, og, on, od⟩ na = .ok ⟨Fs.setL l i ⟨k, on, d, t, es⟩, nx⟩ by rw [hlk, if_neg hN])
   have HNr := hid (λW a c (hE : Ents a es.length es W) => HNr.out true (ndr_right.2 (hRi hN)) W a c hE)
   have hRx := hRi hN
   have HW := hid (λW a c (hbw : Below w.heap.size w W) (hE : Ents a es.length es W) => pWith_any m nx l i ⟨k, on, d, t, es⟩ a c W (HSv.out W hbw) hE hRx HXi (.inl HXs) hf9)
   clear hlk hRi hN hRx
   go_enter func128, ntmps128
   go_wp2_with fail
   obtain ⟨W0, hW, HB⟩ := bx3 w m nx kd oa ob oo og on od; rw [hW]; clear hW
   go_wp2_with fail
   refine (HF.out W0 HB.out.below).mono ?_
   rintro e w1 ⟨a, c, rfl, hE, hb⟩
   have hbk := hb
   have HEn := hid (hE.below (below_one w1 (.cells #[.int .i64 k, .int .i64 on, .string d, .string t, .slice a es.length c] 67)))
   clear hE
   have HB := hid (HB.out.kept hbk)
   clear hbk
   have HBp := HB
   have HB := hid (HB.out.more #[.int .i64 k, .int .i64 mo, .string d, .string t, .slice a es.length c] 67 rfl)
   have b1 := HB.out.c7 1 rfl
   dsimp only
   go_wp2_with fail
   clear b1
   have HB := hid (show Bxs w [(w.heap.size, #[pv m, .int .i64 nx], 108), (w.heap.size + 1, #[.int .i64 kd, .string oa, .string ob, .int .i64 oo, .int .i64 og, .int .i64 on, .string od], 74), (w.heap.size + 1 + 1, #[.pointer none, .int .i64 0], 108), (w1.heap.size, #[.int .i64 k, .int .i64 on, .string d, .string t, .slice a es.length c], 67)] (w1.alloc (.cells #[.int .i64 k, .int .i64 on, .string d, .string t, .slice a es.length c] 67)) from HBp.out.more _ _ rfl)
   refine (HNr.out (w1.alloc (.cells #[.int .i64 k, .int .i64 on, .string d, .string t, .slice a es.length c] 67)) a c HEn.out).mono ?_
   rintro e w2 ⟨rfl, hb⟩
   have hbk := hb
   have HEn := hid (HEn.out.below hb)
   have HB := hid (HB.out.kept hbk)
   clear hbk
   have b0 := HB.out.c2 0 rfl
   have b3 := HB.out.c5 3 rfl
   dsimp only
   go_wp2_with fail
   refine (HW.out w2 a c HB.out.below HEn.out).mono ?_
   rintro e w3 ⟨m5, rfl, hS, hb⟩
   have hbk := hb
   have HS := hid hS
   clear hS
   have HB := hid (HB.out.kept hbk)
   clear b0 b3
   clear hbk
   dsimp only
   go_wp2_with (first | (refine store_bx HB.out 2 rfl 108 _ _ rfl rfl #[pv m5, .int .i64 nx] rfl rfl (by kernel_rfl) rfl rfl (by decide) (by decide) ?_; intro w4 hS hK hbS hsS; have HBS := hid hS; have HS := hid (HS.out.kept hK (HD.out.below hbS)); clear hS hK hbS hsS; have HB := HBS; clear HBS) | fail)
   refine bodyPost_ret_by (results_st rfl _ _ (w.heap.size + 1 + 1) _ _ rfl (HB.out.obj 2 rfl)) rfl ?_
   exact stated_ok HR.out HB.out.below HS.out
theorem pUnlink_any (m : Option Nat) (nx : Int) (l : List Fs.Item) (kd : Int) (oa ob : ByteArray) (oo og on : Int) (od : ByteArray) (w : World) (h : Sv w m l) (G : Fs.Half env ⟨l, nx⟩) (hf9 : l.length <= 900) (pa : oa.size <= 140737488355328) {na : List ByteArray} (ha : spl oa = some na) : Calls prog 122 #[stv m nx, .agg #[.int .i64 kd, .string oa, .string ob, .int .i64 oo, .int .i64 og, .int .i64 on, .string od]] w (Stated (Fs.unlink ⟨l, nx⟩ na) w) := by
 have hlk := Fs.Half.unlink_is G (aa := na)
 dsimp only at hlk
 have HLv := hid (λW (hbw : Below w.heap.size w W) => pLeave_any m nx l oa na W (h.below hbw) pa ha hf9)
 have HFi := hid (λW (hb : Below w.heap.size w W) => pFind_any m nx l oa W (h.below hb) pa)
 have HD := hid h.dg
 rcases find_cases (l := l) ha with ⟨ec, hne, hw, hf⟩ | ⟨i, hw, hf⟩
 ·have HR := hid (show Fs.unlink ⟨l, nx⟩ na = .error ec by rw [hlk, hw])
  have HF := hid (show ∀ W, Below w.heap.size w W -> Calls prog 134 #[stv m nx, .string oa] W (Foundy (0, Nd.none0, ec) W) from λW hb => hf ▸ HFi.out W hb)
  clear HFi hf hw h hlk
  go_enter func122, ntmps122
  go_wp2_with fail
  obtain ⟨W0, hW, HB⟩ := bx3 w m nx kd oa ob oo og on od; rw [hW]; clear hW
  go_wp2_with fail
  refine (HF.out W0 HB.out.below).mono ?_
  rintro e w1 ⟨ea, eb, rfl, hE, hb⟩
  have hbk := hb
  clear hE
  have HB := hid (HB.out.kept hbk)
  clear hbk
  have HB := hid (HB.out.more #[.int .i64 0, .int .i64 0, .string ⟨#[]⟩, .string ⟨#[]⟩, .slice ea 0 eb] 67 rfl)
  dsimp only
  go_wp2_with (first | (refine store_bx HB.out 2 rfl 108 _ _ rfl rfl #[.pointer none, .int .i64 0] rfl rfl (by kernel_rfl) rfl rfl (by decide) (by decide) ?_; intro w2 hS hK hbS hsS; have HBS := hid hS; clear hS hK hbS hsS; have HB := HBS; clear HBS) | fail)
  refine bodyPost_ret_by (results_st rfl _ _ (w.heap.size + 1 + 1) _ _ rfl (HB.out.obj 2 rfl)) rfl ?_
  exact stated_err HR.out hne HB.out.below
 ·rw [hw] at hlk
  simp only at hlk
  obtain ⟨x, hx, hxD⟩ := G.walk_node hw
  have hxr := h.ok.node hx
  have HXi := hxr.2
  rw [hxD] at hf
  obtain ⟨k, mo, d, t, es⟩ := x
  have HF := hid (show ∀ W, Below w.heap.size w W -> Calls prog 134 #[stv m nx, .string oa] W (Foundy (i, (⟨k, mo, d, t, es⟩ : Nd.Node), 0) W) from λW hb => hf ▸ HFi.out W hb)
  clear hf HFi h
  rw [hxD] at hlk
  clear hx hxD hw hxr
  by_cases hk2 : k = 2
  ·subst hk2
   have HR := hid (show Fs.unlink ⟨l, nx⟩ na = .error 11 by rw [hlk]; rfl)
   clear hlk HLv
   go_enter func122, ntmps122
   go_wp2_with fail
   obtain ⟨W0, hW, HB⟩ := bx3 w m nx kd oa ob oo og on od; rw [hW]; clear hW
   go_wp2_with fail
   refine (HF.out W0 HB.out.below).mono ?_
   rintro e w1 ⟨a, c, rfl, hE, hb⟩
   have hbk := hb
   clear hE
   have HB := hid (HB.out.kept hbk)
   clear hbk
   have HB := hid (HB.out.more #[.int .i64 2, .int .i64 mo, .string d, .string t, .slice a es.length c] 67 rfl)
   dsimp only
   go_wp2_with (first | (refine store_bx HB.out 2 rfl 108 _ _ rfl rfl #[.pointer none, .int .i64 0] rfl rfl (by kernel_rfl) rfl rfl (by decide) (by decide) ?_; intro w2 hS hK hbS hsS; have HBS := hid hS; clear hS hK hbS hsS; have HB := HBS; clear HBS) | fail)
   refine bodyPost_ret_by (results_st rfl _ _ (w.heap.size + 1 + 1) _ _ rfl (HB.out.obj 2 rfl)) rfl ?_
   exact stated_err HR.out (by decide) HB.out.below
  ·rw [if_neg hk2] at hlk
   cases hen : Fs.leaveP l na with
   | error ce =>
    have HR := hid (show Fs.unlink ⟨l, nx⟩ na = .error ce by rw [hlk, hen])
    rw [show wl (Fs.leaveP l na) nx = .error ce by rw [hen]; rfl] at HLv
    clear hlk hen
    go_enter func122, ntmps122
    go_wp2_with fail
    obtain ⟨W0, hW, HB⟩ := bx3 w m nx kd oa ob oo og on od; rw [hW]; clear hW
    go_wp2_with fail
    refine (HF.out W0 HB.out.below).mono ?_
    rintro e w1 ⟨a, c, rfl, hE, hb⟩
    have hbk := hb
    clear hE
    have HB := hid (HB.out.kept hbk)
    clear hbk
    have HB := hid (HB.out.more #[.int .i64 k, .int .i64 mo, .string d, .string t, .slice a es.length c] 67 rfl)
    have b0 := HB.out.c2 0 rfl
    have b1 := HB.out.c7 1 rfl
    dsimp only
    go_wp2_with fail
    refine (HLv.out (w1.alloc (.cells #[.int .i64 k, .int .i64 mo, .string d, .string t, .slice a es.length c] 67)) HB.out.below).mono ?_
    rintro e w2 ⟨hb, hne, rfl⟩
    have hbk := hb
    have HB := hid (HB.out.kept hbk)
    clear b0 b1
    clear hbk
    dsimp only
    go_wp2_with (first | (refine store_bx HB.out 0 rfl 108 _ _ rfl rfl #[.pointer none, .int .i64 0] rfl rfl (by kernel_rfl) rfl rfl (by decide) (by decide) ?_; intro w3 hS hK hbS hsS; have HBS := hid hS; clear hS hK hbS hsS; have HB := HBS; clear HBS) | (refine store_bx HB.out 2 rfl 108 _ _ rfl rfl #[.pointer none, .int .i64 0] rfl rfl (by kernel_rfl) rfl rfl (by decide) (by decide) ?_; intro w4 hS hK hbS hsS; have HBS := hid hS; clear hS hK hbS hsS; have HB := HBS; clear HBS) | fail)
    refine bodyPost_ret_by (results_st rfl _ _ (w.heap.size + 1 + 1) _ _ rfl (HB.out.obj 2 rfl)) rfl ?_
    exact stated_err HR.out hne HB.out.below
   | ok l2 =>
    rw [show wl (Fs.leaveP l na) nx = .ok ⟨l2, nx⟩ by rw [hen]; rfl] at HLv
    have HLn := hid (leaveP_len hen hf9)
    rw [hen] at hlk
    simp only at hlk
    clear hen
    have HNm := hid (λW m5 (hS : Sv W m5 l2) => isNamed_any m5 nx l2 i W hS)
    by_cases hz : Fs.links l2 i = 0
    ·have HR := hid (show Fs.unlink ⟨l, nx⟩ na = .ok ⟨Fs.dropL l2 i, nx⟩ by rw [hlk, if_pos hz])
     rw [decide_eq_false (λhn => hn hz)] at HNm
     have HWo := hid (λW m5 (hS : Sv W m5 l2) => pWithout_any m5 nx l2 i W hS HXi)
     clear hlk hz
     go_enter func122, ntmps122
     go_wp2_with fail
     obtain ⟨W0, hW, HB⟩ := bx3 w m nx kd oa ob oo og on od; rw [hW]; clear hW
     go_wp2_with fail
     refine (HF.out W0 HB.out.below).mono ?_
     rintro e w1 ⟨a, c, rfl, hE, hb⟩
     have hbk := hb
     clear hE
     have HB := hid (HB.out.kept hbk)
     clear hbk
     have HB := hid (HB.out.more #[.int .i64 k, .int .i64 mo, .string d, .string t, .slice a es.length c] 67 rfl)
     have b0 := HB.out.c2 0 rfl
     have b1 := HB.out.c7 1 rfl
     dsimp only
     go_wp2_with fail
     refine (HLv.out (w1.alloc (.cells #[.int .i64 k, .int .i64 mo, .string d, .string t, .slice a es.length c] 67)) HB.out.below).mono ?_
     rintro e w2 ⟨hb, m5, rfl, hS⟩
     have hbk := hb
     have HS := hid hS
     clear hS
     have HB := hid (HB.out.kept hbk)
     clear b0 b1
     clear hbk
     have b0 := HB.out.c2 0 rfl
     dsimp only
     go_wp2_with (first | (refine store_bx HB.out 0 rfl 108 _ _ rfl rfl #[pv m5, .int .i64 nx] rfl rfl (by kernel_rfl) rfl rfl (by decide) (by decide) ?_; intro w3 hS hK hbS hsS; have HBS := hid hS; have HS := hid (HS.out.kept hK (HD.out.below hbS)); clear hS hK hbS hsS; have HB := HBS; clear HBS; clear b0; have b0 := HB.out.c2 0 rfl) | fail)
     refine (HNm.out w3 m5 HS.out).mono ?_
     rintro e w4 ⟨rfl, hb⟩
     have hbk := hb
     have HS := hid (HS.out.below hb)
     have HB := hid (HB.out.kept hbk)
     clear b0
     clear hbk
     have b0 := HB.out.c2 0 rfl
     dsimp only
     go_wp2_with fail
     refine (HWo.out w4 m5 HS.out HLn.out).mono ?_
     rintro e w5 ⟨m6, rfl, hS, hb⟩
     have hbk := hb
     have HS := hid hS
     clear hS
     have HB := hid (HB.out.kept hbk)
     clear b0
     clear hbk
     have b0 := HB.out.c2 0 rfl
     dsimp only
     go_wp2_with (first | (refine store_bx HB.out 0 rfl 108 _ _ rfl rfl #[pv m6, .int .i64 nx] rfl rfl (by kernel_rfl) rfl rfl (by decide) (by decide) ?_; intro w6 hS hK hbS hsS; have HBS := hid hS; have HS := hid (HS.out.kept hK (HD.out.below hbS)); clear hS hK hbS hsS; have HB := HBS; clear HBS; clear b0; have b0 := HB.out.c2 0 rfl) | (refine store_bx HB.out 2 rfl 108 _ _ rfl rfl #[pv m6, .int .i64 nx] rfl rfl (by kernel_rfl) rfl rfl (by decide) (by decide) ?_; intro w7 hS hK hbS hsS; have HBS := hid hS; have HS := hid (HS.out.kept hK (HD.out.below hbS)); clear hS hK hbS hsS; have HB := HBS; clear HBS; clear b0; have b0 := HB.out.c2 0 rfl) | fail)
     refine bodyPost_ret_by (results_st rfl _ _ (w.heap.size + 1 + 1) _ _ rfl (HB.out.obj 2 rfl)) rfl ?_
     exact stated_ok HR.out HB.out.below HS.out
    ·have HR := hid (show Fs.unlink ⟨l, nx⟩ na = .ok ⟨l2, nx⟩ by rw [hlk, if_neg hz])
     rw [decide_eq_true hz] at HNm
     clear hlk hz
     go_enter func122, ntmps122
     go_wp2_with fail
     obtain ⟨W0, hW, HB⟩ := bx3 w m nx kd oa ob oo og on od; rw [hW]; clear hW
     go_wp2_with fail
     refine (HF.out W0 HB.out.below).mono ?_
     rintro e w1 ⟨a, c, rfl, hE, hb⟩
     have hbk := hb
     clear hE
     have HB := hid (HB.out.kept hbk)
     clear hbk
     have HB := hid (HB.out.more #[.int .i64 k, .int .i64 mo, .string d, .string t, .slice a es.length c] 67 rfl)
     have b0 := HB.out.c2 0 rfl
     have b1 := HB.out.c7 1 rfl
     dsimp only
     go_wp2_with fail
     refine (HLv.out (w1.alloc (.cells #[.int .i64 k, .int .i64 mo, .string d, .string t, .slice a es.length c] 67)) HB.out.below).mono ?_
     rintro e w2 ⟨hb, m5, rfl, hS⟩
     have hbk := hb
     have HS := hid hS
     clear hS
     have HB := hid (HB.out.kept hbk)
     clear b0 b1
     clear hbk
     have b0 := HB.out.c2 0 rfl
     dsimp only
     go_wp2_with (first | (refine store_bx HB.out 0 rfl 108 _ _ rfl rfl #[pv m5, .int .i64 nx] rfl rfl (by kernel_rfl) rfl rfl (by decide) (by decide) ?_; intro w3 hS hK hbS hsS; have HBS := hid hS; have HS := hid (HS.out.kept hK (HD.out.below hbS)); clear hS hK hbS hsS; have HB := HBS; clear HBS; clear b0; have b0 := HB.out.c2 0 rfl) | fail)
     refine (HNm.out w3 m5 HS.out).mono ?_
     rintro e w4 ⟨rfl, hb⟩
     have hbk := hb
     have HS := hid (HS.out.below hb)
     have HB := hid (HB.out.kept hbk)
     clear b0
     clear hbk
     have b0 := HB.out.c2 0 rfl
     dsimp only
     go_wp2_with (first | (refine store_bx HB.out 2 rfl 108 _ _ rfl rfl #[pv m5, .int .i64 nx] rfl rfl (by kernel_rfl) rfl rfl (by decide) (by decide) ?_; intro w5 hS hK hbS hsS; have HBS := hid hS; have HS := hid (HS.out.kept hK (HD.out.below hbS)); clear hS hK hbS hsS; have HB := HBS; clear HBS; clear b0) | fail)
     refine bodyPost_ret_by (results_st rfl _ _ (w.heap.size + 1 + 1) _ _ rfl (HB.out.obj 2 rfl)) rfl ?_
     exact stated_ok HR.out HB.out.below HS.out
theorem pRmdir_any (m : Option Nat) (nx : Int) (l : List Fs.Item) (kd : Int) (oa ob : ByteArray) (oo og on : Int) (od : ByteArray) (w : World) (h : Sv w m l) (G : Fs.Half env ⟨l, nx⟩) (hf9 : l.length <= 900) (pa : oa.size <= 140737488355328) {na : List ByteArray} (ha : spl oa = some na) : Calls prog 123 #[stv m nx, .agg #[.int .i64 kd, .string oa, .string ob, .int .i64 oo, .int .i64 og, .int .i64 on, .string od]] w (Stated (Fs.rmdir ⟨l, nx⟩ na) w) := by
 have hlk := Fs.Half.rmdir_is G (aa := na)
 dsimp only at hlk
 have HLv := hid (λW (hbw : Below w.heap.size w W) => pLeave_any m nx l oa na W (h.below hbw) pa ha hf9)
 have HFi := hid (λW (hb : Below w.heap.size w W) => pFind_any m nx l oa W (h.below hb) pa)
 have HD := hid h.dg
 rcases find_cases (l := l) ha with ⟨ec, hne, hw, hf⟩ | ⟨i, hw, hf⟩
 ·have HR := hid (show Fs.rmdir ⟨l, nx⟩ na = .error ec by rw [hlk, hw])
  have HF := hid (show ∀ W, Below w.heap.size w W -> Calls prog 134 #[stv m nx, .string oa] W (Foundy (0, Nd.none0, ec) W) from λW hb => hf ▸ HFi.out W hb)
  clear HFi hf hw h hlk
  go_enter func123, ntmps123
  go_wp2_with fail
  obtain ⟨W0, hW, HB⟩ := bx3 w m nx kd oa ob oo og on od; rw [hW]; clear hW
  go_wp2_with fail
  refine (HF.out W0 HB.out.below).mono ?_
  rintro e w1 ⟨ea, eb, rfl, hE, hb⟩
  have hbk := hb
  clear hE
  have HB := hid (HB.out.kept hbk)
  clear hbk
  have HB := hid (HB.out.more #[.int .i64 0, .int .i64 0, .string ⟨#[]⟩, .string ⟨#[]⟩, .slice ea 0 eb] 67 rfl)
  dsimp only
  go_wp2_with (first | (refine store_bx HB.out 2 rfl 108 _ _ rfl rfl #[.pointer none, .int .i64 0] rfl rfl (by kernel_rfl) rfl rfl (by decide) (by decide) ?_; intro w2 hS hK hbS hsS; have HBS := hid hS; clear hS hK hbS hsS; have HB := HBS; clear HBS) | fail)
  refine bodyPost_ret_by (results_st rfl _ _ (w.heap.size + 1 + 1) _ _ rfl (HB.out.obj 2 rfl)) rfl ?_
  exact stated_err HR.out hne HB.out.below
 ·rw [hw] at hlk
  simp only at hlk
  obtain ⟨x, hx, hxD⟩ := G.walk_node hw
  have hxr := h.ok.node hx
  have HXi := hxr.2
  have HXs : (Fs.node l i).isSome = true := by rw [hx]; rfl
  rw [hxD] at hf
  obtain ⟨k, mo, d, t, es⟩ := x
  have HF := hid (show ∀ W, Below w.heap.size w W -> Calls prog 134 #[stv m nx, .string oa] W (Foundy (i, (⟨k, mo, d, t, es⟩ : Nd.Node), 0) W) from λW hb => hf ▸ HFi.out W hb)
  clear hf HFi h
  rw [hxD] at hlk
  clear hx hxD hw hxr
  by_cases hk2 : k = 2
  ·subst hk2
   rw [if_neg (by simp)] at hlk
   by_cases hi1 : i = 1
   ·subst hi1
    have HR := hid (show Fs.rmdir ⟨l, nx⟩ na = .error 17 by rw [hlk]; rfl)
    clear hlk HLv
    go_enter func123, ntmps123
    go_wp2_with fail
    obtain ⟨W0, hW, HB⟩ := bx3 w m nx kd oa ob oo og on od; rw [hW]; clear hW
    go_wp2_with fail
    refine (HF.out W0 HB.out.below).mono ?_
    rintro e w1 ⟨a, c, rfl, hE, hb⟩
    have hbk := hb
    clear hE
    have HB := hid (HB.out.kept hbk)
    clear hbk
    have HB := hid (HB.out.more #[.int .i64 2, .int .i64 mo, .string d, .string t, .slice a es.length c] 67 rfl)
    dsimp only
    go_wp2_with (first | (refine store_bx HB.out 2 rfl 108 _ _ rfl rfl #[.pointer none, .int .i64 0] rfl rfl (by kernel_rfl) rfl rfl (by decide) (by decide) ?_; intro w2 hS hK hbS hsS; have HBS := hid hS; clear hS hK hbS hsS; have HB := HBS; clear HBS) | fail)
    refine bodyPost_ret_by (results_st rfl _ _ (w.heap.size + 1 + 1) _ _ rfl (HB.out.obj 2 rfl)) rfl ?_
    exact stated_err HR.out (by decide) HB.out.below
   ·rw [if_neg hi1] at hlk
    by_cases hes : es = []
    ·rw [if_neg (by simp [hes])] at hlk
     subst hes
     cases hen : Fs.leaveP l na with
     | error ce =>
      have HR := hid (show Fs.rmdir ⟨l, nx⟩ na = .error ce by rw [hlk, hen])
      rw [show wl (Fs.leaveP l na) nx = .error ce by rw [hen]; rfl] at HLv
      clear hlk hen
      go_enter func123, ntmps123
      go_wp2_with fail
      obtain ⟨W0, hW, HB⟩ := bx3 w m nx kd oa ob oo og on od; rw [hW]; clear hW
      go_wp2_with fail
      refine (HF.out W0 HB.out.below).mono ?_
      rintro e w1 ⟨a, c, rfl, hE, hb⟩
      have hbk := hb
      clear hE
      have HB := hid (HB.out.kept hbk)
      clear hbk
      have HB := hid (HB.out.more #[.int .i64 2, .int .i64 mo, .string d, .string t, .slice a 0 c] 67 rfl)
      have b0 := HB.out.c2 0 rfl
      have b1 := HB.out.c7 1 rfl
      dsimp only
      go_wp2_with fail
      refine (HLv.out (w1.alloc (.cells #[.int .i64 2, .int .i64 mo, .string d, .string t, .slice a 0 c] 67)) HB.out.below).mono ?_
      rintro e w2 ⟨hb, hne, rfl⟩
      have hbk := hb
      have HB := hid (HB.out.kept hbk)
      clear b0 b1
      clear hbk
      dsimp only
      go_wp2_with (first | (refine store_bx HB.out 0 rfl 108 _ _ rfl rfl #[.pointer none, .int .i64 0] rfl rfl (by kernel_rfl) rfl rfl (by decide) (by decide) ?_; intro w3 hS hK hbS hsS; have HBS := hid hS; clear hS hK hbS hsS; have HB := HBS; clear HBS) | (refine store_bx HB.out 2 rfl 108 _ _ rfl rfl #[.pointer none, .int .i64 0] rfl rfl (by kernel_rfl) rfl rfl (by decide) (by decide) ?_; intro w4 hS hK hbS hsS; have HBS := hid hS; clear hS hK hbS hsS; have HB := HBS; clear HBS) | fail)
      refine bodyPost_ret_by (results_st rfl _ _ (w.heap.size + 1 + 1) _ _ rfl (HB.out.obj 2 rfl)) rfl ?_
      exact stated_err HR.out hne HB.out.below
     | ok l2 =>
      have HR := hid (show Fs.rmdir ⟨l, nx⟩ na = .ok ⟨Fs.dropL l2 i, nx⟩ by rw [hlk, hen])
      rw [show wl (Fs.leaveP l na) nx = .ok ⟨l2, nx⟩ by rw [hen]; rfl] at HLv
      have HWo := hid (λW m5 (hS : Sv W m5 l2) => pWithout_any m5 nx l2 i W hS HXi)
      have HLn := hid (leaveP_len hen hf9)
      clear hlk hen
      go_enter func123, ntmps123
      go_wp2_with fail
      obtain ⟨W0, hW, HB⟩ := bx3 w m nx kd oa ob oo og on od; rw [hW]; clear hW
      go_wp2_with fail
      refine (HF.out W0 HB.out.below).mono ?_
      rintro e w1 ⟨a, c, rfl, hE, hb⟩
      have hbk := hb
      clear hE
      have HB := hid (HB.out.kept hbk)
      clear hbk
      have HB := hid (HB.out.more #[.int .i64 2, .int .i64 mo, .string d, .string t, .slice a 0 c] 67 rfl)
      have b0 := HB.out.c2 0 rfl
      have b1 := HB.out.c7 1 rfl
      dsimp only
      go_wp2_with fail
      refine (HLv.out (w1.alloc (.cells #[.int .i64 2, .int .i64 mo, .string d, .string t, .slice a 0 c] 67)) HB.out.below).mono ?_
      rintro e w2 ⟨hb, m5, rfl, hS⟩
      have hbk := hb
      have HS := hid hS
      clear hS
      have HB := hid (HB.out.kept hbk)
      clear b0 b1
      clear hbk
      have b0 := HB.out.c2 0 rfl
      dsimp only
      go_wp2_with (first | (refine store_bx HB.out 0 rfl 108 _ _ rfl rfl #[pv m5, .int .i64 nx] rfl rfl (by kernel_rfl) rfl rfl (by decide) (by decide) ?_; intro w3 hS hK hbS hsS; have HBS := hid hS; have HS := hid (HS.out.kept hK (HD.out.below hbS)); clear hS hK hbS hsS; have HB := HBS; clear HBS; clear b0; have b0 := HB.out.c2 0 rfl) | fail)
      refine (HWo.out w3 m5 HS.out HLn.out).mono ?_
      rintro e w4 ⟨m6, rfl, hS, hb⟩
      have hbk := hb
      have HS := hid hS
      clear hS
      have HB := hid (HB.out.kept hbk)
      clear b0
      clear hbk
      dsimp only
      go_wp2_with (first | (refine store_bx HB.out 2 rfl 108 _ _ rfl rfl #[pv m6, .int .i64 nx] rfl rfl (by kernel_rfl) rfl rfl (by decide) (by decide) ?_; intro w5 hS hK hbS hsS; have HBS := hid hS; have HS := hid (HS.out.kept hK (HD.out.below hbS)); clear hS hK hbS hsS; have HB := HBS; clear HBS) | fail)
      refine bodyPost_ret_by (results_st rfl _ _ (w.heap.size + 1 + 1) _ _ rfl (HB.out.obj 2 rfl)) rfl ?_
      exact stated_ok HR.out HB.out.below HS.out
    ·rw [if_pos hes] at hlk
     have HR := hid (show Fs.rmdir ⟨l, nx⟩ na = .error 12 from hlk)
     have hlen : 0 < es.length := by cases es with
      | nil => exact absurd rfl hes
      | cons _ _ => simp
     clear hlk HLv hes
     go_enter func123, ntmps123
     go_wp2_with fail
     obtain ⟨W0, hW, HB⟩ := bx3 w m nx kd oa ob oo og on od; rw [hW]; clear hW
     go_wp2_with fail
     refine (HF.out W0 HB.out.below).mono ?_
     rintro e w1 ⟨a, c, rfl, hE, hb⟩
     have hbk := hb
     clear hE
     have HB := hid (HB.out.kept hbk)
     clear hbk
     have HB := hid (HB.out.more #[.int .i64 2, .int .i64 mo, .string d, .string t, .slice a es.length c] 67 rfl)
     dsimp only
     go_wp2_with (first | (refine store_bx HB.out 2 rfl 108 _ _ rfl rfl #[.pointer none, .int .i64 0] rfl rfl (by kernel_rfl) rfl rfl (by decide) (by decide) ?_; intro w2 hS hK hbS hsS; have HBS := hid hS; clear hS hK hbS hsS; have HB := HBS; clear HBS) | fail)
     refine bodyPost_ret_by (results_st rfl _ _ (w.heap.size + 1 + 1) _ _ rfl (HB.out.obj 2 rfl)) rfl ?_
     exact stated_err HR.out (by decide) HB.out.below
  ·rw [if_pos hk2] at hlk
   have HR := hid (show Fs.rmdir ⟨l, nx⟩ na = .error 10 from hlk)
   clear hlk HLv
   go_enter func123, ntmps123
   go_wp2_with fail
   obtain ⟨W0, hW, HB⟩ := bx3 w m nx kd oa ob oo og on od; rw [hW]; clear hW
   go_wp2_with fail
   refine (HF.out W0 HB.out.below).mono ?_
   rintro e w1 ⟨a, c, rfl, hE, hb⟩
   have hbk := hb
   clear hE
   have HB := hid (HB.out.kept hbk)
   clear hbk
   have HB := hid (HB.out.more #[.int .i64 k, .int .i64 mo, .string d, .string t, .slice a es.length c] 67 rfl)
   dsimp only
   go_wp2_with (first | (refine store_bx HB.out 2 rfl 108 _ _ rfl rfl #[.pointer none, .int .i64 0] rfl rfl (by kernel_rfl) rfl rfl (by decide) (by decide) ?_; intro w2 hS hK hbS hsS; have HBS := hid hS; clear hS hK hbS hsS; have HB := HBS; clear HBS) | fail)
   refine bodyPost_ret_by (results_st rfl _ _ (w.heap.size + 1 + 1) _ _ rfl (HB.out.obj 2 rfl)) rfl ?_
   exact stated_err HR.out (by decide) HB.out.below
end Go.Proofs.YthbajmlmjjfgpaaGreatDoor
namespace Go.Proofs.YthbajmlmjjfgpaaGreatDoor
open Go.RowKit Go.Less T6
theorem put_ok {s d : List UInt8} {off : Int} (hs : s.length <= 4096) (h : (putR s off d).2 = 0) : (putR s off d).1.length <= 4096 := by
 unfold putR at h |-
 split at h
 ·simp at h
 rename_i h1
 rw [if_neg h1]
 split at h
 ·simp at h
 rename_i h2
 rw [if_neg h2]
 show (Chk.put s off.toNat d).length <= 4096
 by_cases hd : d = []
 ·subst hd; rw [Chk.put_nil]; exact hs
 ·rw [Chk.put_length hd]; omega
theorem trunc_ok {s : List UInt8} {n : Int} (h : (truncR s n).2 = 0) : (truncR s n).1.length <= 4096 := by
 unfold truncR at h |-
 split at h
 ·simp at h
 rename_i h1
 rw [if_neg h1]
 split at h
 ·simp at h
 rename_i h2
 rw [if_neg h2]
 show (Chk.trunc s n.toNat).length <= 4096
 rw [Chk.trunc_length]; omega
theorem copy_ok {s t : List UInt8} {off f n : Int} (hs : s.length <= 4096) (h : (copyR s off t f n).2 = 0) : (copyR s off t f n).1.length <= 4096 := by
 unfold copyR at h |-
 split at h
 ·simp at h
 ·rename_i h1
  rw [if_neg h1]
  exact put_ok hs h
theorem size_of {s : ByteArray} {n : Nat} (h : s.size <= n) : s.data.toList.length <= n := by rw [Array.length_toList]; exact h
theorem env_ok : Fs.EnvOk env where
 rising := rising
 few h := by
  obtain ⟨us, hus, rfl⟩ := spl_some h
  rw [List.length_map]
  exact (split_shape hus).1
 names h := spl_right h
 put s o d hs h := by
  show (lstr _).size <= 4096
  rw [lstr_size]
  exact put_ok (size_of hs) h
 trunc s n h := by
  show (lstr _).size <= 4096
  rw [lstr_size]
  exact trunc_ok h
 copy s o t f n hs h := by
  show (lstr _).size <= 4096
  rw [lstr_size]
  exact copy_ok (size_of hs) h
theorem dp_of {f : Fs.FS} (H : Fs.Half env f) : ∀ (k : Nat) {i : Int}, (∀ rs j, Gr.go (Fs.step f.l) i rs = some j -> rs.length <= k) -> Dp f.l k i := by
 intro k
 induction k with
 | zero =>
  intro i h
  show (Fs.nodeD f.l i).ents = []
  cases hn : Fs.node f.l i with
  | none => unfold Fs.nodeD; rw [hn]; rfl
  | some x =>
   rw [Fs.nodeD_of hn]
   cases hx : x.ents with
   | nil => rfl
   | cons e es =>
    have := H.ent_step env_ok hn (e := e) (by rw [hx]; exact List.mem_cons_self)
    have := h [e.1] e.2 (Gr.go_cons.2 ⟨e.2, this, rfl⟩)
    simp at this
 | succ k ih =>
  intro i h e he
  cases hn : Fs.node f.l i with
  | none => unfold Fs.nodeD at he; rw [hn] at he; cases he
  | some x =>
   rw [Fs.nodeD_of hn] at he
   have hs := H.ent_step env_ok hn he
   exact ih λrs j hr => by
    have := h (e.1 :: rs) j (Gr.go_cons.2 ⟨e.2, hs, hr⟩)
    simpa using this
theorem dp_nine {f : Fs.FS} (H : Fs.Half env f) {ns : List ByteArray} {i : Int} (h : Fs.walk f.l 1 ns = .ok i) : Dp f.l 9 i := dp_of H 9 λrs j hr => by
 have := H.tree.deep (Gr.go_append_iff.2 ⟨i, H.walk_iff.1 h, hr⟩)
 rw [List.length_append] at this
 omega
theorem within_is {a b : ByteArray} {na nb : List ByteArray} (ha : spl a = some na) (hb : spl b = some nb) : Nm.within a.data.toList b.data.toList = decide (nb.take na.length = na) := by
 obtain ⟨us, hus, rfl⟩ := spl_some ha
 obtain ⟨vs, hvs, rfl⟩ := spl_some hb
 unfold Nm.within
 rw [hus, hvs]
 have hinj : ∀ u v : List (List UInt8), u.map lstr = v.map lstr ↔ u = v := λu v => by
  constructor
  ·intro h
   have := congrArg dat h
   rwa [dat_lstr, dat_lstr] at this
  ·intro h; rw [h]
 rw [List.length_map, <- List.map_take]
 show us.isPrefixOf vs = _
 cases hp : us.isPrefixOf vs with
 | true =>
  obtain ⟨z, rfl⟩ := (Nm.isPrefixOf_iff us vs).1 hp
  exact (decide_eq_true (by rw [List.take_append_of_le_length (Nat.le_refl _), List.take_length])).symm
 | false =>
  refine (decide_eq_false λh => ?_).symm
  have h2 := (hinj _ _).1 h
  rw [(Nm.isPrefixOf_iff us vs).2 ⟨vs.drop us.length, by conv => lhs; rw [<- List.take_append_drop us.length vs, h2]⟩] at hp
  cases hp
theorem slashes {b : ByteArray} {nb : List ByteArray} (h : spl b = some nb) (hne : nb ≠ []) : Lib.countByte b.data.toList 47 = nb.length := by
 obtain ⟨us, hus, rfl⟩ := spl_some h
 obtain ⟨hp, -, hr⟩ := Nm.split_path hus
 rw [hp]
 unfold Nm.pathOf
 rw [if_neg (λe => hne (by rw [e]; rfl)), List.length_map]
 unfold Lib.countByte
 clear hp hus h hne
 revert hr
 induction us with
 | nil => intro _; rfl
 | cons u us ih =>
  intro hr
  rw [List.all_cons, Bool.and_eq_true] at hr
  have h0 : List.count 47 u = 0 := List.count_eq_zero.2 λhm => Nm.right_none hr.1 _ hm rfl
  rw [List.map_cons, List.flatten_cons, List.count_append, List.count_cons, h0, ih hr.2, List.length_cons]
  simp
  omega
theorem fresh_ne {l : List Fs.Item} {ns : List ByteArray} {r : Int × ByteArray} (h : Fs.fresh l ns = .ok r) : ns ≠ [] := λe => by rw [e] at h; cases h
end Go.Proofs.YthbajmlmjjfgpaaGreatDoor
