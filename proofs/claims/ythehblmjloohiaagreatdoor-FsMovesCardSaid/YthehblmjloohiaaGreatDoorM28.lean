/- Layer 11, a part of the proofs: no statement of its own. -/
import Derived.Test.YthehblmjloohiaaGreatDoorM27
namespace Go.Proofs.YthehblmjloohiaaGreatDoor
set_option maxRecDepth 100000
open Go.RowKit Go.Less
open T8 (pv Dg)
attribute [local go_sem 9000] sem_eql sem_neq
theorem spl_right {p : ByteArray} {ns : List ByteArray} (h : spl p = some ns) : ∀ n ∈ ns, env.nm (Nd.bs n) = true := by
 obtain ⟨us, hus, rfl⟩ := spl_some h
 have hr := (split_shape hus).2
 intro n hn
 obtain ⟨u, hu, rfl⟩ := List.mem_map.1 hn
 exact List.all_eq_true.1 hr u hu
theorem leaveP_len {l l2 : List Fs.Item} {ns : List ByteArray} (h : Fs.leaveP l ns = .ok l2) (hl : l.length ≤ 900) : l2.length ≤ 900 := by
 unfold Fs.leaveP at h
 cases hp : Fs.place l ns with
 | error e => rw [hp] at h; cases h
 | ok r =>
  obtain ⟨d, n⟩ := r
  rw [hp] at h
  simp only at h
  split at h
  ·cases h
  ·injection h with h
   rw [← h]
   unfold Fs.leave
   rw [Fs.len_set, if_pos (place_node hp)]
   exact hl
set_option maxHeartbeats 16000000 in
theorem pLink_any (m : Option Nat) (nx : Int) (l : List Fs.Item) (kd : Int) (oa ob : ByteArray) (oo og on : Int) (od : ByteArray) (w : World) (h : Sv w m l) (G : Fs.Half env ⟨l, nx⟩) (hf9 : l.length ≤ 900) (pa : oa.size ≤ 140737488355328) {na : List ByteArray} (ha : spl oa = some na) (pb : ob.size ≤ 140737488355328) {nb : List ByteArray} (hb : spl ob = some nb) : Calls Tryz.prog 91 #[stv m nx, .agg #[.int .i64 kd, .string oa, .string ob, .int .i64 oo, .int .i64 og, .int .i64 on, .string od]] w (Stated (Fs.link env ⟨l, nx⟩ na nb) w) := by
 have hlk := Fs.link_is (E := env) (f := ⟨l, nx⟩) (aa := na) (bs := nb) (spl_right hb)
 dsimp only at hlk
 have HEnt := Lib.hid (fun i (hi : 1 ≤ i ∧ i ≤ 2147483647) W (hbw : Below w.heap.size w W) => pEnter_any m nx l ob nb i W (h.below hbw) pb hb hi hf9)
 have HFi := Lib.hid (fun W (hb : Below w.heap.size w W) => pFind_any m nx l oa W (h.below hb) pa)
 have HD := Lib.hid h.dg
 have HSv := Lib.hid (fun W (hb : Below w.heap.size w W) => h.below hb)
 rcases find_cases (l := l) ha with ⟨ec, hne, hw, hf⟩ | ⟨i, hw, hf⟩
 ·have HR := Lib.hid (show Fs.link env ⟨l, nx⟩ na nb = .error ec by rw [hlk, hw])
  have HF := Lib.hid (show ∀ W, Below w.heap.size w W → Calls Tryz.prog 57 #[stv m nx, .string oa] W (Foundy (0, Nd.none0, ec) W) from fun W hb => hf ▸ HFi.out W hb)
  clear HFi hf hw h hlk
  have HB := Lib.hid (show Bxs w [(w.heap.size, #[pv m, .int .i64 nx], 88), (w.heap.size + 1, #[.int .i64 kd, .string oa, .string ob, .int .i64 oo, .int .i64 og, .int .i64 on, .string od], 35), (w.heap.size + 1 + 1, #[.pointer none, .int .i64 0], 88)] (((w.alloc (.cells #[pv m, .int .i64 nx] 88)).alloc (.cells #[.int .i64 kd, .string oa, .string ob, .int .i64 oo, .int .i64 og, .int .i64 on, .string od] 35)).alloc (.cells #[.pointer none, .int .i64 0] 88)) from Bxs.three w _ _ _ _ _ _)
  go_enter Tryz.func91, Tryz.ntmps91
  go_wp2_with fail
  generalize ((w.alloc (.cells #[pv m, .int .i64 nx] 88)).alloc (.cells #[.int .i64 kd, .string oa, .string ob, .int .i64 oo, .int .i64 og, .int .i64 on, .string od] 35)).alloc (.cells #[.pointer none, .int .i64 0] 88) = W0 at HB ⊢
  have b0 := HB.out.c2 0 rfl
  have b1 := HB.out.c7 1 rfl
  have b2 := HB.out.c2 2 rfl
  go_wp2_with fail
  refine (HF.out W0 HB.out.below).mono ?_
  rintro e w1 ⟨ea, eb, rfl, hE, hb⟩
  have hbk := hb
  clear hE
  have HB := Lib.hid (HB.out.kept hbk)
  clear b0 b1 b2
  clear hbk
  have HBp := HB
  have HB := Lib.hid (HB.out.more #[.int .i64 0, .int .i64 0, .string ⟨#[]⟩, .string ⟨#[]⟩, .slice ea 0 eb] 43 rfl)
  have b0 := HB.out.c2 0 rfl
  have b1 := HB.out.c7 1 rfl
  have b2 := HB.out.c2 2 rfl
  dsimp only
  go_wp2_with (first | (refine store_bx HB.out 2 rfl 88 _ _ rfl rfl #[.pointer none, .int .i64 0] rfl rfl (by kernel_rfl) rfl rfl (by decide) (by decide) ?_; intro w2 hS hK hbS hsS; have HBS := Lib.hid hS; clear hS hK hbS hsS; have HB := HBS; clear HBS; clear b0 b1 b2; have b0 := HB.out.c2 0 rfl; have b1 := HB.out.c7 1 rfl; have b2 := HB.out.c2 2 rfl; have b3 := HB.out.c5 3 rfl) | fail)
  refine bodyPost_ret_by (results_st rfl _ _ (w.heap.size + 1 + 1) _ _ rfl (HB.out.obj 2 rfl)) rfl ?_
  exact stated_err HR.out hne HB.out.below
 ·rw [hw] at hlk
  simp only at hlk
  obtain ⟨x, hx, hxD⟩ := G.walk_node hw
  have hxr := h.ok.node hx
  have HXi := hxr.2
  have HXs : (Fs.node l i).isSome = true := by rw [hx]; rfl
  rw [hxD] at hf
  obtain ⟨k, mo, d, t, es⟩ := x
  have HF := Lib.hid (show ∀ W, Below w.heap.size w W → Calls Tryz.prog 57 #[stv m nx, .string oa] W (Foundy (i, (⟨k, mo, d, t, es⟩ : Nd.Node), 0) W) from fun W hb => hf ▸ HFi.out W hb)
  clear hf HFi h
  rw [hxD] at hlk
  clear hx hxD hw hxr
  by_cases hk2 : k = 2
  ·subst hk2
   have HR := Lib.hid (show Fs.link env ⟨l, nx⟩ na nb = .error 11 by rw [hlk]; rfl)
   clear hlk HEnt
   have HB := Lib.hid (show Bxs w [(w.heap.size, #[pv m, .int .i64 nx], 88), (w.heap.size + 1, #[.int .i64 kd, .string oa, .string ob, .int .i64 oo, .int .i64 og, .int .i64 on, .string od], 35), (w.heap.size + 1 + 1, #[.pointer none, .int .i64 0], 88)] (((w.alloc (.cells #[pv m, .int .i64 nx] 88)).alloc (.cells #[.int .i64 kd, .string oa, .string ob, .int .i64 oo, .int .i64 og, .int .i64 on, .string od] 35)).alloc (.cells #[.pointer none, .int .i64 0] 88)) from Bxs.three w _ _ _ _ _ _)
   go_enter Tryz.func91, Tryz.ntmps91
   go_wp2_with fail
   generalize ((w.alloc (.cells #[pv m, .int .i64 nx] 88)).alloc (.cells #[.int .i64 kd, .string oa, .string ob, .int .i64 oo, .int .i64 og, .int .i64 on, .string od] 35)).alloc (.cells #[.pointer none, .int .i64 0] 88) = W0 at HB ⊢
   have b0 := HB.out.c2 0 rfl
   have b1 := HB.out.c7 1 rfl
   have b2 := HB.out.c2 2 rfl
   go_wp2_with fail
   refine (HF.out W0 HB.out.below).mono ?_
   rintro e w1 ⟨a, c, rfl, hE, hb⟩
   have hbk := hb
   clear hE
   have HB := Lib.hid (HB.out.kept hbk)
   clear b0 b1 b2
   clear hbk
   have HBp := HB
   have HB := Lib.hid (HB.out.more #[.int .i64 2, .int .i64 mo, .string d, .string t, .slice a es.length c] 43 rfl)
   have b0 := HB.out.c2 0 rfl
   have b1 := HB.out.c7 1 rfl
   have b2 := HB.out.c2 2 rfl
   dsimp only
   go_wp2_with (first | (refine store_bx HB.out 2 rfl 88 _ _ rfl rfl #[.pointer none, .int .i64 0] rfl rfl (by kernel_rfl) rfl rfl (by decide) (by decide) ?_; intro w2 hS hK hbS hsS; have HBS := Lib.hid hS; clear hS hK hbS hsS; have HB := HBS; clear HBS; clear b0 b1 b2; have b0 := HB.out.c2 0 rfl; have b1 := HB.out.c7 1 rfl; have b2 := HB.out.c2 2 rfl; have b3 := HB.out.c5 3 rfl) | fail)
   refine bodyPost_ret_by (results_st rfl _ _ (w.heap.size + 1 + 1) _ _ rfl (HB.out.obj 2 rfl)) rfl ?_
   exact stated_err HR.out (by decide) HB.out.below
  ·rw [if_neg hk2] at hlk
   have HE2 := Lib.hid (fun W (hbw : Below w.heap.size w W) => HEnt.out i HXi W hbw)
   clear HEnt
   cases hen : Fs.enterP env l nb i with
   | error ce =>
    have HR := Lib.hid (show Fs.link env ⟨l, nx⟩ na nb = .error ce by rw [hlk, hen])
    rw [show wl (Fs.enterP env l nb i) nx = .error ce by rw [hen]; rfl] at HE2
    clear hlk hen
    have HB := Lib.hid (show Bxs w [(w.heap.size, #[pv m, .int .i64 nx], 88), (w.heap.size + 1, #[.int .i64 kd, .string oa, .string ob, .int .i64 oo, .int .i64 og, .int .i64 on, .string od], 35), (w.heap.size + 1 + 1, #[.pointer none, .int .i64 0], 88)] (((w.alloc (.cells #[pv m, .int .i64 nx] 88)).alloc (.cells #[.int .i64 kd, .string oa, .string ob, .int .i64 oo, .int .i64 og, .int .i64 on, .string od] 35)).alloc (.cells #[.pointer none, .int .i64 0] 88)) from Bxs.three w _ _ _ _ _ _)
    go_enter Tryz.func91, Tryz.ntmps91
    go_wp2_with fail
    generalize ((w.alloc (.cells #[pv m, .int .i64 nx] 88)).alloc (.cells #[.int .i64 kd, .string oa, .string ob, .int .i64 oo, .int .i64 og, .int .i64 on, .string od] 35)).alloc (.cells #[.pointer none, .int .i64 0] 88) = W0 at HB ⊢
    have b0 := HB.out.c2 0 rfl
    have b1 := HB.out.c7 1 rfl
    have b2 := HB.out.c2 2 rfl
    go_wp2_with fail
    refine (HF.out W0 HB.out.below).mono ?_
    rintro e w1 ⟨a, c, rfl, hE, hb⟩
    have hbk := hb
    clear hE
    have HB := Lib.hid (HB.out.kept hbk)
    clear b0 b1 b2
    clear hbk
    have HBp := HB
    have HB := Lib.hid (HB.out.more #[.int .i64 k, .int .i64 mo, .string d, .string t, .slice a es.length c] 43 rfl)
    have b0 := HB.out.c2 0 rfl
    have b1 := HB.out.c7 1 rfl
    have b2 := HB.out.c2 2 rfl
    dsimp only
    go_wp2_with fail
    refine (HE2.out (w1.alloc (.cells #[.int .i64 k, .int .i64 mo, .string d, .string t, .slice a es.length c] 43)) HB.out.below).mono ?_
    rintro e w2 ⟨hb, hne, rfl⟩
    have hbk := hb
    have HB := Lib.hid (HB.out.kept hbk)
    clear b0 b1 b2
    clear hbk
    have b0 := HB.out.c2 0 rfl
    have b1 := HB.out.c7 1 rfl
    have b2 := HB.out.c2 2 rfl
    have b3 := HB.out.c5 3 rfl
    dsimp only
    go_wp2_with (first | (refine store_bx HB.out 2 rfl 88 _ _ rfl rfl #[.pointer none, .int .i64 0] rfl rfl (by kernel_rfl) rfl rfl (by decide) (by decide) ?_; intro w3 hS hK hbS hsS; have HBS := Lib.hid hS; clear hS hK hbS hsS; have HB := HBS; clear HBS; clear b0 b1 b2 b3; have b0 := HB.out.c2 0 rfl; have b1 := HB.out.c7 1 rfl; have b2 := HB.out.c2 2 rfl; have b3 := HB.out.c5 3 rfl) | fail)
    refine bodyPost_ret_by (results_st rfl _ _ (w.heap.size + 1 + 1) _ _ rfl (HB.out.obj 2 rfl)) rfl ?_
    exact stated_err HR.out hne HB.out.below
   | ok l2 =>
    have HR := Lib.hid (show Fs.link env ⟨l, nx⟩ na nb = .ok ⟨l2, nx⟩ by rw [hlk, hen])
    rw [show wl (Fs.enterP env l nb i) nx = .ok ⟨l2, nx⟩ by rw [hen]; rfl] at HE2
    clear hlk hen
    have HB := Lib.hid (show Bxs w [(w.heap.size, #[pv m, .int .i64 nx], 88), (w.heap.size + 1, #[.int .i64 kd, .string oa, .string ob, .int .i64 oo, .int .i64 og, .int .i64 on, .string od], 35), (w.heap.size + 1 + 1, #[.pointer none, .int .i64 0], 88)] (((w.alloc (.cells #[pv m, .int .i64 nx] 88)).alloc (.cells #[.int .i64 kd, .string oa, .string ob, .int .i64 oo, .int .i64 og, .int .i64 on, .string od] 35)).alloc (.cells #[.pointer none, .int .i64 0] 88)) from Bxs.three w _ _ _ _ _ _)
    go_enter Tryz.func91, Tryz.ntmps91
    go_wp2_with fail
    generalize ((w.alloc (.cells #[pv m, .int .i64 nx] 88)).alloc (.cells #[.int .i64 kd, .string oa, .string ob, .int .i64 oo, .int .i64 og, .int .i64 on, .string od] 35)).alloc (.cells #[.pointer none, .int .i64 0] 88) = W0 at HB ⊢
    have b0 := HB.out.c2 0 rfl
    have b1 := HB.out.c7 1 rfl
    have b2 := HB.out.c2 2 rfl
    go_wp2_with fail
    refine (HF.out W0 HB.out.below).mono ?_
    rintro e w1 ⟨a, c, rfl, hE, hb⟩
    have hbk := hb
    clear hE
    have HB := Lib.hid (HB.out.kept hbk)
    clear b0 b1 b2
    clear hbk
    have HBp := HB
    have HB := Lib.hid (HB.out.more #[.int .i64 k, .int .i64 mo, .string d, .string t, .slice a es.length c] 43 rfl)
    have b0 := HB.out.c2 0 rfl
    have b1 := HB.out.c7 1 rfl
    have b2 := HB.out.c2 2 rfl
    dsimp only
    go_wp2_with fail
    refine (HE2.out (w1.alloc (.cells #[.int .i64 k, .int .i64 mo, .string d, .string t, .slice a es.length c] 43)) HB.out.below).mono ?_
    rintro e w2 ⟨hb, m5, rfl, hS⟩
    have hbk := hb
    have HS := Lib.hid hS
    clear hS
    have HB := Lib.hid (HB.out.kept hbk)
    clear b0 b1 b2
    clear hbk
    have b0 := HB.out.c2 0 rfl
    have b1 := HB.out.c7 1 rfl
    have b2 := HB.out.c2 2 rfl
    have b3 := HB.out.c5 3 rfl
    dsimp only
    go_wp2_with (first | (refine store_bx HB.out 2 rfl 88 _ _ rfl rfl #[pv m5, .int .i64 nx] rfl rfl (by kernel_rfl) rfl rfl (by decide) (by decide) ?_; intro w3 hS hK hbS hsS; have HBS := Lib.hid hS; have HS := Lib.hid (HS.out.kept hK (HD.out.below hbS)); clear hS hK hbS hsS; have HB := HBS; clear HBS; clear b0 b1 b2 b3; have b0 := HB.out.c2 0 rfl; have b1 := HB.out.c7 1 rfl; have b2 := HB.out.c2 2 rfl; have b3 := HB.out.c5 3 rfl) | fail)
    refine bodyPost_ret_by (results_st rfl _ _ (w.heap.size + 1 + 1) _ _ rfl (HB.out.obj 2 rfl)) rfl ?_
    exact stated_ok HR.out HB.out.below HS.out
set_option maxHeartbeats 16000000 in
theorem pChmod_any (m : Option Nat) (nx : Int) (l : List Fs.Item) (kd : Int) (oa ob : ByteArray) (oo og on : Int) (od : ByteArray) (w : World) (h : Sv w m l) (G : Fs.Half env ⟨l, nx⟩) (hf9 : l.length ≤ 900) (pa : oa.size ≤ 140737488355328) {na : List ByteArray} (ha : spl oa = some na) : Calls Tryz.prog 98 #[stv m nx, .agg #[.int .i64 kd, .string oa, .string ob, .int .i64 oo, .int .i64 og, .int .i64 on, .string od]] w (Stated (Fs.chmod ⟨l, nx⟩ ⟨kd, oa, ob, oo, og, on, od⟩ na) w) := by
 have hlk : Fs.chmod ⟨l, nx⟩ ⟨kd, oa, ob, oo, og, on, od⟩ na = match Fs.walk l 1 na with
  | .error e => .error e
  | .ok i => if on < 0 ∨ 511 < on then .error 1 else .ok ⟨Fs.setL l i { Fs.nodeD l i with mode := on }, nx⟩ := rfl
 have HFi := Lib.hid (fun W (hb : Below w.heap.size w W) => pFind_any m nx l oa W (h.below hb) pa)
 have HD := Lib.hid h.dg
 have HSv := Lib.hid (fun W (hb : Below w.heap.size w W) => h.below hb)
 rcases find_cases (l := l) ha with ⟨ec, hne, hw, hf⟩ | ⟨i, hw, hf⟩
 ·have HR := Lib.hid (show Fs.chmod ⟨l, nx⟩ ⟨kd, oa, ob, oo, og, on, od⟩ na = .error ec by rw [hlk, hw])
  have HF := Lib.hid (show ∀ W, Below w.heap.size w W → Calls Tryz.prog 57 #[stv m nx, .string oa] W (Foundy (0, Nd.none0, ec) W) from fun W hb => hf ▸ HFi.out W hb)
  clear HFi hf hw h hlk
  have HB := Lib.hid (show Bxs w [(w.heap.size, #[pv m, .int .i64 nx], 88), (w.heap.size + 1, #[.int .i64 kd, .string oa, .string ob, .int .i64 oo, .int .i64 og, .int .i64 on, .string od], 35), (w.heap.size + 1 + 1, #[.pointer none, .int .i64 0], 88)] (((w.alloc (.cells #[pv m, .int .i64 nx] 88)).alloc (.cells #[.int .i64 kd, .string oa, .string ob, .int .i64 oo, .int .i64 og, .int .i64 on, .string od] 35)).alloc (.cells #[.pointer none, .int .i64 0] 88)) from Bxs.three w _ _ _ _ _ _)
  go_enter Tryz.func98, Tryz.ntmps98
  go_wp2_with fail
  generalize ((w.alloc (.cells #[pv m, .int .i64 nx] 88)).alloc (.cells #[.int .i64 kd, .string oa, .string ob, .int .i64 oo, .int .i64 og, .int .i64 on, .string od] 35)).alloc (.cells #[.pointer none, .int .i64 0] 88) = W0 at HB ⊢
  have b0 := HB.out.c2 0 rfl
  have b1 := HB.out.c7 1 rfl
  have b2 := HB.out.c2 2 rfl
  go_wp2_with fail
  refine (HF.out W0 HB.out.below).mono ?_
  rintro e w1 ⟨ea, eb, rfl, hE, hb⟩
  have hbk := hb
  clear hE
  have HB := Lib.hid (HB.out.kept hbk)
  clear b0 b1 b2
  clear hbk
  have HBp := HB
  have HB := Lib.hid (HB.out.more #[.int .i64 0, .int .i64 0, .string ⟨#[]⟩, .string ⟨#[]⟩, .slice ea 0 eb] 43 rfl)
  have b0 := HB.out.c2 0 rfl
  have b1 := HB.out.c7 1 rfl
  have b2 := HB.out.c2 2 rfl
  dsimp only
  go_wp2_with (first | (refine store_bx HB.out 2 rfl 88 _ _ rfl rfl #[.pointer none, .int .i64 0] rfl rfl (by kernel_rfl) rfl rfl (by decide) (by decide) ?_; intro w2 hS hK hbS hsS; have HBS := Lib.hid hS; clear hS hK hbS hsS; have HB := HBS; clear HBS; clear b0 b1 b2; have b0 := HB.out.c2 0 rfl; have b1 := HB.out.c7 1 rfl; have b2 := HB.out.c2 2 rfl; have b3 := HB.out.c5 3 rfl) | fail)
  refine bodyPost_ret_by (results_st rfl _ _ (w.heap.size + 1 + 1) _ _ rfl (HB.out.obj 2 rfl)) rfl ?_
  exact stated_err HR.out hne HB.out.below
 ·rw [hw] at hlk
  simp only at hlk
  obtain ⟨x, hx, hxD⟩ := G.walk_node hw
  have hxr := h.ok.node hx
  have HXi := hxr.2
  have HXs : (Fs.node l i).isSome = true := by rw [hx]; rfl
  rw [hxD] at hf
  obtain ⟨k, mo, d, t, es⟩ := x
  have HF := Lib.hid (show ∀ W, Below w.heap.size w W → Calls Tryz.prog 57 #[stv m nx, .string oa] W (Foundy (i, (⟨k, mo, d, t, es⟩ : Nd.Node), 0) W) from fun W hb => hf ▸ HFi.out W hb)
  clear hf HFi h
  rw [hxD] at hlk
  have hsm := Right.smallS hxr.1
  dsimp only at hsm hlk
  have HNr := Lib.hid (fun b (hbb : ndr k on d t es = b) W a c (hE : Ents a es.length es W) => q_node (m := on) (c := c) W hE hsm hbb)
  have hRi : ¬ (on < 0 ∨ 511 < on) → Nd.Right less Nm.right ⟨k, on, d, t, es⟩ := fun hn => ⟨by show 0 ≤ on; omega, by show on ≤ 511; omega, hxr.1.len, hxr.1.ok, hxr.1.rise, hxr.1.kinds⟩
  clear hx hxD hw hxr hsm
  by_cases hN : on < 0 ∨ 511 < on
  ·have HR := Lib.hid (show Fs.chmod ⟨l, nx⟩ ⟨kd, oa, ob, oo, og, on, od⟩ na = .error 1 by rw [hlk, if_pos hN])
   have HNr := Lib.hid (fun W a c (hE : Ents a es.length es W) => HNr.out false (ndr_low hN) W a c hE)
   clear hlk hRi hN
   have HB := Lib.hid (show Bxs w [(w.heap.size, #[pv m, .int .i64 nx], 88), (w.heap.size + 1, #[.int .i64 kd, .string oa, .string ob, .int .i64 oo, .int .i64 og, .int .i64 on, .string od], 35), (w.heap.size + 1 + 1, #[.pointer none, .int .i64 0], 88)] (((w.alloc (.cells #[pv m, .int .i64 nx] 88)).alloc (.cells #[.int .i64 kd, .string oa, .string ob, .int .i64 oo, .int .i64 og, .int .i64 on, .string od] 35)).alloc (.cells #[.pointer none, .int .i64 0] 88)) from Bxs.three w _ _ _ _ _ _)
   go_enter Tryz.func98, Tryz.ntmps98
   go_wp2_with fail
   generalize ((w.alloc (.cells #[pv m, .int .i64 nx] 88)).alloc (.cells #[.int .i64 kd, .string oa, .string ob, .int .i64 oo, .int .i64 og, .int .i64 on, .string od] 35)).alloc (.cells #[.pointer none, .int .i64 0] 88) = W0 at HB ⊢
   have b0 := HB.out.c2 0 rfl
   have b1 := HB.out.c7 1 rfl
   have b2 := HB.out.c2 2 rfl
   go_wp2_with fail
   refine (HF.out W0 HB.out.below).mono ?_
   rintro e w1 ⟨a, c, rfl, hE, hb⟩
   have hbk := hb
   have HEn := Lib.hid (hE.below (below_one w1 (.cells #[.int .i64 k, .int .i64 on, .string d, .string t, .slice a es.length c] 43)))
   clear hE
   have HB := Lib.hid (HB.out.kept hbk)
   clear b0 b1 b2
   clear hbk
   have HBp := HB
   have HB := Lib.hid (HB.out.more #[.int .i64 k, .int .i64 mo, .string d, .string t, .slice a es.length c] 43 rfl)
   have b0 := HB.out.c2 0 rfl
   have b1 := HB.out.c7 1 rfl
   have b2 := HB.out.c2 2 rfl
   dsimp only
   go_wp2_with fail
   clear b0 b1 b2
   have HB := Lib.hid (show Bxs w [(w.heap.size, #[pv m, .int .i64 nx], 88), (w.heap.size + 1, #[.int .i64 kd, .string oa, .string ob, .int .i64 oo, .int .i64 og, .int .i64 on, .string od], 35), (w.heap.size + 1 + 1, #[.pointer none, .int .i64 0], 88), (w1.heap.size, #[.int .i64 k, .int .i64 on, .string d, .string t, .slice a es.length c], 43)] (w1.alloc (.cells #[.int .i64 k, .int .i64 on, .string d, .string t, .slice a es.length c] 43)) from HBp.out.more _ _ rfl)
   refine (HNr.out (w1.alloc (.cells #[.int .i64 k, .int .i64 on, .string d, .string t, .slice a es.length c] 43)) a c HEn.out).mono ?_
   rintro e w2 ⟨rfl, hb⟩
   have hbk := hb
   have HB := Lib.hid (HB.out.kept hbk)
   clear hbk
   have b0 := HB.out.c2 0 rfl
   have b1 := HB.out.c7 1 rfl
   have b2 := HB.out.c2 2 rfl
   have b3 := HB.out.c5 3 rfl
   dsimp only
   go_wp2_with (first | (refine store_bx HB.out 2 rfl 88 _ _ rfl rfl #[.pointer none, .int .i64 0] rfl rfl (by kernel_rfl) rfl rfl (by decide) (by decide) ?_; intro w3 hS hK hbS hsS; have HBS := Lib.hid hS; clear hS hK hbS hsS; have HB := HBS; clear HBS; clear b0 b1 b2 b3; have b0 := HB.out.c2 0 rfl; have b1 := HB.out.c7 1 rfl; have b2 := HB.out.c2 2 rfl; have b3 := HB.out.c5 3 rfl) | fail)
   refine bodyPost_ret_by (results_st rfl _ _ (w.heap.size + 1 + 1) _ _ rfl (HB.out.obj 2 rfl)) rfl ?_
   exact stated_err HR.out (by decide) HB.out.below
  ·have HR := Lib.hid (show Fs.chmod ⟨l, nx⟩ ⟨kd, oa, ob, oo, og, on, od⟩ na = .ok ⟨Fs.setL l i ⟨k, on, d, t, es⟩, nx⟩ by rw [hlk, if_neg hN])
   have HNr := Lib.hid (fun W a c (hE : Ents a es.length es W) => HNr.out true (ndr_right.2 (hRi hN)) W a c hE)
   have hRx := hRi hN
   have HW := Lib.hid (fun W a c (hbw : Below w.heap.size w W) (hE : Ents a es.length es W) => pWith_any m nx l i ⟨k, on, d, t, es⟩ a c W (HSv.out W hbw) hE hRx HXi (.inl HXs) hf9)
   clear hlk hRi hN hRx
   have HB := Lib.hid (show Bxs w [(w.heap.size, #[pv m, .int .i64 nx], 88), (w.heap.size + 1, #[.int .i64 kd, .string oa, .string ob, .int .i64 oo, .int .i64 og, .int .i64 on, .string od], 35), (w.heap.size + 1 + 1, #[.pointer none, .int .i64 0], 88)] (((w.alloc (.cells #[pv m, .int .i64 nx] 88)).alloc (.cells #[.int .i64 kd, .string oa, .string ob, .int .i64 oo, .int .i64 og, .int .i64 on, .string od] 35)).alloc (.cells #[.pointer none, .int .i64 0] 88)) from Bxs.three w _ _ _ _ _ _)
   go_enter Tryz.func98, Tryz.ntmps98
   go_wp2_with fail
   generalize ((w.alloc (.cells #[pv m, .int .i64 nx] 88)).alloc (.cells #[.int .i64 kd, .string oa, .string ob, .int .i64 oo, .int .i64 og, .int .i64 on, .string od] 35)).alloc (.cells #[.pointer none, .int .i64 0] 88) = W0 at HB ⊢
   have b0 := HB.out.c2 0 rfl
   have b1 := HB.out.c7 1 rfl
   have b2 := HB.out.c2 2 rfl
   go_wp2_with fail
   refine (HF.out W0 HB.out.below).mono ?_
   rintro e w1 ⟨a, c, rfl, hE, hb⟩
   have hbk := hb
   have HEn := Lib.hid (hE.below (below_one w1 (.cells #[.int .i64 k, .int .i64 on, .string d, .string t, .slice a es.length c] 43)))
   clear hE
   have HB := Lib.hid (HB.out.kept hbk)
   clear b0 b1 b2
   clear hbk
   have HBp := HB
   have HB := Lib.hid (HB.out.more #[.int .i64 k, .int .i64 mo, .string d, .string t, .slice a es.length c] 43 rfl)
   have b0 := HB.out.c2 0 rfl
   have b1 := HB.out.c7 1 rfl
   have b2 := HB.out.c2 2 rfl
   dsimp only
   go_wp2_with fail
   clear b0 b1 b2
   have HB := Lib.hid (show Bxs w [(w.heap.size, #[pv m, .int .i64 nx], 88), (w.heap.size + 1, #[.int .i64 kd, .string oa, .string ob, .int .i64 oo, .int .i64 og, .int .i64 on, .string od], 35), (w.heap.size + 1 + 1, #[.pointer none, .int .i64 0], 88), (w1.heap.size, #[.int .i64 k, .int .i64 on, .string d, .string t, .slice a es.length c], 43)] (w1.alloc (.cells #[.int .i64 k, .int .i64 on, .string d, .string t, .slice a es.length c] 43)) from HBp.out.more _ _ rfl)
   refine (HNr.out (w1.alloc (.cells #[.int .i64 k, .int .i64 on, .string d, .string t, .slice a es.length c] 43)) a c HEn.out).mono ?_
   rintro e w2 ⟨rfl, hb⟩
   have hbk := hb
   have HEn := Lib.hid (HEn.out.below hb)
   have HB := Lib.hid (HB.out.kept hbk)
   clear hbk
   have b0 := HB.out.c2 0 rfl
   have b1 := HB.out.c7 1 rfl
   have b2 := HB.out.c2 2 rfl
   have b3 := HB.out.c5 3 rfl
   dsimp only
   go_wp2_with fail
   refine (HW.out w2 a c HB.out.below HEn.out).mono ?_
   rintro e w3 ⟨m5, rfl, hS, hb⟩
   have hbk := hb
   have HS := Lib.hid hS
   clear hS
   have HB := Lib.hid (HB.out.kept hbk)
   clear b0 b1 b2 b3
   clear hbk
   have b0 := HB.out.c2 0 rfl
   have b1 := HB.out.c7 1 rfl
   have b2 := HB.out.c2 2 rfl
   have b3 := HB.out.c5 3 rfl
   dsimp only
   go_wp2_with (first | (refine store_bx HB.out 2 rfl 88 _ _ rfl rfl #[pv m5, .int .i64 nx] rfl rfl (by kernel_rfl) rfl rfl (by decide) (by decide) ?_; intro w4 hS hK hbS hsS; have HBS := Lib.hid hS; have HS := Lib.hid (HS.out.kept hK (HD.out.below hbS)); clear hS hK hbS hsS; have HB := HBS; clear HBS; clear b0 b1 b2 b3; have b0 := HB.out.c2 0 rfl; have b1 := HB.out.c7 1 rfl; have b2 := HB.out.c2 2 rfl; have b3 := HB.out.c5 3 rfl) | fail)
   refine bodyPost_ret_by (results_st rfl _ _ (w.heap.size + 1 + 1) _ _ rfl (HB.out.obj 2 rfl)) rfl ?_
   exact stated_ok HR.out HB.out.below HS.out
set_option maxHeartbeats 16000000 in
theorem pUnlink_any (m : Option Nat) (nx : Int) (l : List Fs.Item) (kd : Int) (oa ob : ByteArray) (oo og on : Int) (od : ByteArray) (w : World) (h : Sv w m l) (G : Fs.Half env ⟨l, nx⟩) (hf9 : l.length ≤ 900) (pa : oa.size ≤ 140737488355328) {na : List ByteArray} (ha : spl oa = some na) : Calls Tryz.prog 92 #[stv m nx, .agg #[.int .i64 kd, .string oa, .string ob, .int .i64 oo, .int .i64 og, .int .i64 on, .string od]] w (Stated (Fs.unlink ⟨l, nx⟩ na) w) := by
 have hlk := Fs.Half.unlink_is G (aa := na)
 dsimp only at hlk
 have HLv := Lib.hid (fun W (hbw : Below w.heap.size w W) => pLeave_any m nx l oa na W (h.below hbw) pa ha hf9)
 have HFi := Lib.hid (fun W (hb : Below w.heap.size w W) => pFind_any m nx l oa W (h.below hb) pa)
 have HD := Lib.hid h.dg
 have HSv := Lib.hid (fun W (hb : Below w.heap.size w W) => h.below hb)
 rcases find_cases (l := l) ha with ⟨ec, hne, hw, hf⟩ | ⟨i, hw, hf⟩
 ·have HR := Lib.hid (show Fs.unlink ⟨l, nx⟩ na = .error ec by rw [hlk, hw])
  have HF := Lib.hid (show ∀ W, Below w.heap.size w W → Calls Tryz.prog 57 #[stv m nx, .string oa] W (Foundy (0, Nd.none0, ec) W) from fun W hb => hf ▸ HFi.out W hb)
  clear HFi hf hw h hlk
  have HB := Lib.hid (show Bxs w [(w.heap.size, #[pv m, .int .i64 nx], 88), (w.heap.size + 1, #[.int .i64 kd, .string oa, .string ob, .int .i64 oo, .int .i64 og, .int .i64 on, .string od], 35), (w.heap.size + 1 + 1, #[.pointer none, .int .i64 0], 88)] (((w.alloc (.cells #[pv m, .int .i64 nx] 88)).alloc (.cells #[.int .i64 kd, .string oa, .string ob, .int .i64 oo, .int .i64 og, .int .i64 on, .string od] 35)).alloc (.cells #[.pointer none, .int .i64 0] 88)) from Bxs.three w _ _ _ _ _ _)
  go_enter Tryz.func92, Tryz.ntmps92
  go_wp2_with fail
  generalize ((w.alloc (.cells #[pv m, .int .i64 nx] 88)).alloc (.cells #[.int .i64 kd, .string oa, .string ob, .int .i64 oo, .int .i64 og, .int .i64 on, .string od] 35)).alloc (.cells #[.pointer none, .int .i64 0] 88) = W0 at HB ⊢
  have b0 := HB.out.c2 0 rfl
  have b1 := HB.out.c7 1 rfl
  have b2 := HB.out.c2 2 rfl
  go_wp2_with fail
  refine (HF.out W0 HB.out.below).mono ?_
  rintro e w1 ⟨ea, eb, rfl, hE, hb⟩
  have hbk := hb
  clear hE
  have HB := Lib.hid (HB.out.kept hbk)
  clear b0 b1 b2
  clear hbk
  have HBp := HB
  have HB := Lib.hid (HB.out.more #[.int .i64 0, .int .i64 0, .string ⟨#[]⟩, .string ⟨#[]⟩, .slice ea 0 eb] 43 rfl)
  have b0 := HB.out.c2 0 rfl
  have b1 := HB.out.c7 1 rfl
  have b2 := HB.out.c2 2 rfl
  dsimp only
  go_wp2_with (first | (refine store_bx HB.out 2 rfl 88 _ _ rfl rfl #[.pointer none, .int .i64 0] rfl rfl (by kernel_rfl) rfl rfl (by decide) (by decide) ?_; intro w2 hS hK hbS hsS; have HBS := Lib.hid hS; clear hS hK hbS hsS; have HB := HBS; clear HBS; clear b0 b1 b2; have b0 := HB.out.c2 0 rfl; have b1 := HB.out.c7 1 rfl; have b2 := HB.out.c2 2 rfl; have b3 := HB.out.c5 3 rfl) | fail)
  refine bodyPost_ret_by (results_st rfl _ _ (w.heap.size + 1 + 1) _ _ rfl (HB.out.obj 2 rfl)) rfl ?_
  exact stated_err HR.out hne HB.out.below
 ·rw [hw] at hlk
  simp only at hlk
  obtain ⟨x, hx, hxD⟩ := G.walk_node hw
  have hxr := h.ok.node hx
  have HXi := hxr.2
  have HXs : (Fs.node l i).isSome = true := by rw [hx]; rfl
  rw [hxD] at hf
  obtain ⟨k, mo, d, t, es⟩ := x
  have HF := Lib.hid (show ∀ W, Below w.heap.size w W → Calls Tryz.prog 57 #[stv m nx, .string oa] W (Foundy (i, (⟨k, mo, d, t, es⟩ : Nd.Node), 0) W) from fun W hb => hf ▸ HFi.out W hb)
  clear hf HFi h
  rw [hxD] at hlk
  clear hx hxD hw hxr
  by_cases hk2 : k = 2
  ·subst hk2
   have HR := Lib.hid (show Fs.unlink ⟨l, nx⟩ na = .error 11 by rw [hlk]; rfl)
   clear hlk HLv
   have HB := Lib.hid (show Bxs w [(w.heap.size, #[pv m, .int .i64 nx], 88), (w.heap.size + 1, #[.int .i64 kd, .string oa, .string ob, .int .i64 oo, .int .i64 og, .int .i64 on, .string od], 35), (w.heap.size + 1 + 1, #[.pointer none, .int .i64 0], 88)] (((w.alloc (.cells #[pv m, .int .i64 nx] 88)).alloc (.cells #[.int .i64 kd, .string oa, .string ob, .int .i64 oo, .int .i64 og, .int .i64 on, .string od] 35)).alloc (.cells #[.pointer none, .int .i64 0] 88)) from Bxs.three w _ _ _ _ _ _)
   go_enter Tryz.func92, Tryz.ntmps92
   go_wp2_with fail
   generalize ((w.alloc (.cells #[pv m, .int .i64 nx] 88)).alloc (.cells #[.int .i64 kd, .string oa, .string ob, .int .i64 oo, .int .i64 og, .int .i64 on, .string od] 35)).alloc (.cells #[.pointer none, .int .i64 0] 88) = W0 at HB ⊢
   have b0 := HB.out.c2 0 rfl
   have b1 := HB.out.c7 1 rfl
   have b2 := HB.out.c2 2 rfl
   go_wp2_with fail
   refine (HF.out W0 HB.out.below).mono ?_
   rintro e w1 ⟨a, c, rfl, hE, hb⟩
   have hbk := hb
   clear hE
   have HB := Lib.hid (HB.out.kept hbk)
   clear b0 b1 b2
   clear hbk
   have HBp := HB
   have HB := Lib.hid (HB.out.more #[.int .i64 2, .int .i64 mo, .string d, .string t, .slice a es.length c] 43 rfl)
   have b0 := HB.out.c2 0 rfl
   have b1 := HB.out.c7 1 rfl
   have b2 := HB.out.c2 2 rfl
   dsimp only
   go_wp2_with (first | (refine store_bx HB.out 2 rfl 88 _ _ rfl rfl #[.pointer none, .int .i64 0] rfl rfl (by kernel_rfl) rfl rfl (by decide) (by decide) ?_; intro w2 hS hK hbS hsS; have HBS := Lib.hid hS; clear hS hK hbS hsS; have HB := HBS; clear HBS; clear b0 b1 b2; have b0 := HB.out.c2 0 rfl; have b1 := HB.out.c7 1 rfl; have b2 := HB.out.c2 2 rfl; have b3 := HB.out.c5 3 rfl) | fail)
   refine bodyPost_ret_by (results_st rfl _ _ (w.heap.size + 1 + 1) _ _ rfl (HB.out.obj 2 rfl)) rfl ?_
   exact stated_err HR.out (by decide) HB.out.below
  ·rw [if_neg hk2] at hlk
   cases hen : Fs.leaveP l na with
   | error ce =>
    have HR := Lib.hid (show Fs.unlink ⟨l, nx⟩ na = .error ce by rw [hlk, hen])
    rw [show wl (Fs.leaveP l na) nx = .error ce by rw [hen]; rfl] at HLv
    clear hlk hen
    have HB := Lib.hid (show Bxs w [(w.heap.size, #[pv m, .int .i64 nx], 88), (w.heap.size + 1, #[.int .i64 kd, .string oa, .string ob, .int .i64 oo, .int .i64 og, .int .i64 on, .string od], 35), (w.heap.size + 1 + 1, #[.pointer none, .int .i64 0], 88)] (((w.alloc (.cells #[pv m, .int .i64 nx] 88)).alloc (.cells #[.int .i64 kd, .string oa, .string ob, .int .i64 oo, .int .i64 og, .int .i64 on, .string od] 35)).alloc (.cells #[.pointer none, .int .i64 0] 88)) from Bxs.three w _ _ _ _ _ _)
    go_enter Tryz.func92, Tryz.ntmps92
    go_wp2_with fail
    generalize ((w.alloc (.cells #[pv m, .int .i64 nx] 88)).alloc (.cells #[.int .i64 kd, .string oa, .string ob, .int .i64 oo, .int .i64 og, .int .i64 on, .string od] 35)).alloc (.cells #[.pointer none, .int .i64 0] 88) = W0 at HB ⊢
    have b0 := HB.out.c2 0 rfl
    have b1 := HB.out.c7 1 rfl
    have b2 := HB.out.c2 2 rfl
    go_wp2_with fail
    refine (HF.out W0 HB.out.below).mono ?_
    rintro e w1 ⟨a, c, rfl, hE, hb⟩
    have hbk := hb
    clear hE
    have HB := Lib.hid (HB.out.kept hbk)
    clear b0 b1 b2
    clear hbk
    have HBp := HB
    have HB := Lib.hid (HB.out.more #[.int .i64 k, .int .i64 mo, .string d, .string t, .slice a es.length c] 43 rfl)
    have b0 := HB.out.c2 0 rfl
    have b1 := HB.out.c7 1 rfl
    have b2 := HB.out.c2 2 rfl
    dsimp only
    go_wp2_with fail
    refine (HLv.out (w1.alloc (.cells #[.int .i64 k, .int .i64 mo, .string d, .string t, .slice a es.length c] 43)) HB.out.below).mono ?_
    rintro e w2 ⟨hb, hne, rfl⟩
    have hbk := hb
    have HB := Lib.hid (HB.out.kept hbk)
    clear b0 b1 b2
    clear hbk
    have b0 := HB.out.c2 0 rfl
    have b1 := HB.out.c7 1 rfl
    have b2 := HB.out.c2 2 rfl
    have b3 := HB.out.c5 3 rfl
    dsimp only
    go_wp2_with (first | (refine store_bx HB.out 0 rfl 88 _ _ rfl rfl #[.pointer none, .int .i64 0] rfl rfl (by kernel_rfl) rfl rfl (by decide) (by decide) ?_; intro w3 hS hK hbS hsS; have HBS := Lib.hid hS; clear hS hK hbS hsS; have HB := HBS; clear HBS; clear b0 b1 b2 b3; have b0 := HB.out.c2 0 rfl; have b1 := HB.out.c7 1 rfl; have b2 := HB.out.c2 2 rfl; have b3 := HB.out.c5 3 rfl) | (refine store_bx HB.out 2 rfl 88 _ _ rfl rfl #[.pointer none, .int .i64 0] rfl rfl (by kernel_rfl) rfl rfl (by decide) (by decide) ?_; intro w4 hS hK hbS hsS; have HBS := Lib.hid hS; clear hS hK hbS hsS; have HB := HBS; clear HBS; clear b0 b1 b2 b3; have b0 := HB.out.c2 0 rfl; have b1 := HB.out.c7 1 rfl; have b2 := HB.out.c2 2 rfl; have b3 := HB.out.c5 3 rfl) | fail)
    refine bodyPost_ret_by (results_st rfl _ _ (w.heap.size + 1 + 1) _ _ rfl (HB.out.obj 2 rfl)) rfl ?_
    exact stated_err HR.out hne HB.out.below
   | ok l2 =>
    rw [show wl (Fs.leaveP l na) nx = .ok ⟨l2, nx⟩ by rw [hen]; rfl] at HLv
    have HLn := Lib.hid (leaveP_len hen hf9)
    rw [hen] at hlk
    simp only at hlk
    clear hen
    have HNm := Lib.hid (fun W m5 (hS : Sv W m5 l2) => isNamed_any m5 nx l2 i W hS)
    by_cases hz : Fs.links l2 i = 0
    ·have HR := Lib.hid (show Fs.unlink ⟨l, nx⟩ na = .ok ⟨Fs.dropL l2 i, nx⟩ by rw [hlk, if_pos hz])
     rw [decide_eq_false (fun hn => hn hz)] at HNm
     have HWo := Lib.hid (fun W m5 (hS : Sv W m5 l2) => pWithout_any m5 nx l2 i W hS HXi)
     clear hlk hz
     have HB := Lib.hid (show Bxs w [(w.heap.size, #[pv m, .int .i64 nx], 88), (w.heap.size + 1, #[.int .i64 kd, .string oa, .string ob, .int .i64 oo, .int .i64 og, .int .i64 on, .string od], 35), (w.heap.size + 1 + 1, #[.pointer none, .int .i64 0], 88)] (((w.alloc (.cells #[pv m, .int .i64 nx] 88)).alloc (.cells #[.int .i64 kd, .string oa, .string ob, .int .i64 oo, .int .i64 og, .int .i64 on, .string od] 35)).alloc (.cells #[.pointer none, .int .i64 0] 88)) from Bxs.three w _ _ _ _ _ _)
     go_enter Tryz.func92, Tryz.ntmps92
     go_wp2_with fail
     generalize ((w.alloc (.cells #[pv m, .int .i64 nx] 88)).alloc (.cells #[.int .i64 kd, .string oa, .string ob, .int .i64 oo, .int .i64 og, .int .i64 on, .string od] 35)).alloc (.cells #[.pointer none, .int .i64 0] 88) = W0 at HB ⊢
     have b0 := HB.out.c2 0 rfl
     have b1 := HB.out.c7 1 rfl
     have b2 := HB.out.c2 2 rfl
     go_wp2_with fail
     refine (HF.out W0 HB.out.below).mono ?_
     rintro e w1 ⟨a, c, rfl, hE, hb⟩
     have hbk := hb
     clear hE
     have HB := Lib.hid (HB.out.kept hbk)
     clear b0 b1 b2
     clear hbk
     have HBp := HB
     have HB := Lib.hid (HB.out.more #[.int .i64 k, .int .i64 mo, .string d, .string t, .slice a es.length c] 43 rfl)
     have b0 := HB.out.c2 0 rfl
     have b1 := HB.out.c7 1 rfl
     have b2 := HB.out.c2 2 rfl
     dsimp only
     go_wp2_with fail
     refine (HLv.out (w1.alloc (.cells #[.int .i64 k, .int .i64 mo, .string d, .string t, .slice a es.length c] 43)) HB.out.below).mono ?_
     rintro e w2 ⟨hb, m5, rfl, hS⟩
     have hbk := hb
     have HS := Lib.hid hS
     clear hS
     have HB := Lib.hid (HB.out.kept hbk)
     clear b0 b1 b2
     clear hbk
     have b0 := HB.out.c2 0 rfl
     have b1 := HB.out.c7 1 rfl
     have b2 := HB.out.c2 2 rfl
     have b3 := HB.out.c5 3 rfl
     dsimp only
     go_wp2_with (first | (refine store_bx HB.out 0 rfl 88 _ _ rfl rfl #[pv m5, .int .i64 nx] rfl rfl (by kernel_rfl) rfl rfl (by decide) (by decide) ?_; intro w3 hS hK hbS hsS; have HBS := Lib.hid hS; have HS := Lib.hid (HS.out.kept hK (HD.out.below hbS)); clear hS hK hbS hsS; have HB := HBS; clear HBS; clear b0 b1 b2 b3; have b0 := HB.out.c2 0 rfl; have b1 := HB.out.c7 1 rfl; have b2 := HB.out.c2 2 rfl; have b3 := HB.out.c5 3 rfl) | fail)
     refine (HNm.out w3 m5 HS.out).mono ?_
     rintro e w4 ⟨rfl, hb⟩
     have hbk := hb
     have HS := Lib.hid (HS.out.below hb)
     have HB := Lib.hid (HB.out.kept hbk)
     clear b0 b1 b2 b3
     clear hbk
     have b0 := HB.out.c2 0 rfl
     have b1 := HB.out.c7 1 rfl
     have b2 := HB.out.c2 2 rfl
     have b3 := HB.out.c5 3 rfl
     dsimp only
     go_wp2_with fail
     refine (HWo.out w4 m5 HS.out HLn.out).mono ?_
     rintro e w5 ⟨m6, rfl, hS, hb⟩
     have hbk := hb
     have HS := Lib.hid hS
     clear hS
     have HB := Lib.hid (HB.out.kept hbk)
     clear b0 b1 b2 b3
     clear hbk
     have b0 := HB.out.c2 0 rfl
     have b1 := HB.out.c7 1 rfl
     have b2 := HB.out.c2 2 rfl
     have b3 := HB.out.c5 3 rfl
     dsimp only
     go_wp2_with (first | (refine store_bx HB.out 0 rfl 88 _ _ rfl rfl #[pv m6, .int .i64 nx] rfl rfl (by kernel_rfl) rfl rfl (by decide) (by decide) ?_; intro w6 hS hK hbS hsS; have HBS := Lib.hid hS; have HS := Lib.hid (HS.out.kept hK (HD.out.below hbS)); clear hS hK hbS hsS; have HB := HBS; clear HBS; clear b0 b1 b2 b3; have b0 := HB.out.c2 0 rfl; have b1 := HB.out.c7 1 rfl; have b2 := HB.out.c2 2 rfl; have b3 := HB.out.c5 3 rfl) | (refine store_bx HB.out 2 rfl 88 _ _ rfl rfl #[pv m6, .int .i64 nx] rfl rfl (by kernel_rfl) rfl rfl (by decide) (by decide) ?_; intro w7 hS hK hbS hsS; have HBS := Lib.hid hS; have HS := Lib.hid (HS.out.kept hK (HD.out.below hbS)); clear hS hK hbS hsS; have HB := HBS; clear HBS; clear b0 b1 b2 b3; have b0 := HB.out.c2 0 rfl; have b1 := HB.out.c7 1 rfl; have b2 := HB.out.c2 2 rfl; have b3 := HB.out.c5 3 rfl) | fail)
     refine bodyPost_ret_by (results_st rfl _ _ (w.heap.size + 1 + 1) _ _ rfl (HB.out.obj 2 rfl)) rfl ?_
     exact stated_ok HR.out HB.out.below HS.out
    ·have HR := Lib.hid (show Fs.unlink ⟨l, nx⟩ na = .ok ⟨l2, nx⟩ by rw [hlk, if_neg hz])
     rw [decide_eq_true hz] at HNm
     clear hlk hz
     have HB := Lib.hid (show Bxs w [(w.heap.size, #[pv m, .int .i64 nx], 88), (w.heap.size + 1, #[.int .i64 kd, .string oa, .string ob, .int .i64 oo, .int .i64 og, .int .i64 on, .string od], 35), (w.heap.size + 1 + 1, #[.pointer none, .int .i64 0], 88)] (((w.alloc (.cells #[pv m, .int .i64 nx] 88)).alloc (.cells #[.int .i64 kd, .string oa, .string ob, .int .i64 oo, .int .i64 og, .int .i64 on, .string od] 35)).alloc (.cells #[.pointer none, .int .i64 0] 88)) from Bxs.three w _ _ _ _ _ _)
     go_enter Tryz.func92, Tryz.ntmps92
     go_wp2_with fail
     generalize ((w.alloc (.cells #[pv m, .int .i64 nx] 88)).alloc (.cells #[.int .i64 kd, .string oa, .string ob, .int .i64 oo, .int .i64 og, .int .i64 on, .string od] 35)).alloc (.cells #[.pointer none, .int .i64 0] 88) = W0 at HB ⊢
     have b0 := HB.out.c2 0 rfl
     have b1 := HB.out.c7 1 rfl
     have b2 := HB.out.c2 2 rfl
     go_wp2_with fail
     refine (HF.out W0 HB.out.below).mono ?_
     rintro e w1 ⟨a, c, rfl, hE, hb⟩
     have hbk := hb
     clear hE
     have HB := Lib.hid (HB.out.kept hbk)
     clear b0 b1 b2
     clear hbk
     have HBp := HB
     have HB := Lib.hid (HB.out.more #[.int .i64 k, .int .i64 mo, .string d, .string t, .slice a es.length c] 43 rfl)
     have b0 := HB.out.c2 0 rfl
     have b1 := HB.out.c7 1 rfl
     have b2 := HB.out.c2 2 rfl
     dsimp only
     go_wp2_with fail
     refine (HLv.out (w1.alloc (.cells #[.int .i64 k, .int .i64 mo, .string d, .string t, .slice a es.length c] 43)) HB.out.below).mono ?_
     rintro e w2 ⟨hb, m5, rfl, hS⟩
     have hbk := hb
     have HS := Lib.hid hS
     clear hS
     have HB := Lib.hid (HB.out.kept hbk)
     clear b0 b1 b2
     clear hbk
     have b0 := HB.out.c2 0 rfl
     have b1 := HB.out.c7 1 rfl
     have b2 := HB.out.c2 2 rfl
     have b3 := HB.out.c5 3 rfl
     dsimp only
     go_wp2_with (first | (refine store_bx HB.out 0 rfl 88 _ _ rfl rfl #[pv m5, .int .i64 nx] rfl rfl (by kernel_rfl) rfl rfl (by decide) (by decide) ?_; intro w3 hS hK hbS hsS; have HBS := Lib.hid hS; have HS := Lib.hid (HS.out.kept hK (HD.out.below hbS)); clear hS hK hbS hsS; have HB := HBS; clear HBS; clear b0 b1 b2 b3; have b0 := HB.out.c2 0 rfl; have b1 := HB.out.c7 1 rfl; have b2 := HB.out.c2 2 rfl; have b3 := HB.out.c5 3 rfl) | fail)
     refine (HNm.out w3 m5 HS.out).mono ?_
     rintro e w4 ⟨rfl, hb⟩
     have hbk := hb
     have HS := Lib.hid (HS.out.below hb)
     have HB := Lib.hid (HB.out.kept hbk)
     clear b0 b1 b2 b3
     clear hbk
     have b0 := HB.out.c2 0 rfl
     have b1 := HB.out.c7 1 rfl
     have b2 := HB.out.c2 2 rfl
     have b3 := HB.out.c5 3 rfl
     dsimp only
     go_wp2_with (first | (refine store_bx HB.out 2 rfl 88 _ _ rfl rfl #[pv m5, .int .i64 nx] rfl rfl (by kernel_rfl) rfl rfl (by decide) (by decide) ?_; intro w5 hS hK hbS hsS; have HBS := Lib.hid hS; have HS := Lib.hid (HS.out.kept hK (HD.out.below hbS)); clear hS hK hbS hsS; have HB := HBS; clear HBS; clear b0 b1 b2 b3; have b0 := HB.out.c2 0 rfl; have b1 := HB.out.c7 1 rfl; have b2 := HB.out.c2 2 rfl; have b3 := HB.out.c5 3 rfl) | fail)
     refine bodyPost_ret_by (results_st rfl _ _ (w.heap.size + 1 + 1) _ _ rfl (HB.out.obj 2 rfl)) rfl ?_
     exact stated_ok HR.out HB.out.below HS.out
set_option maxHeartbeats 16000000 in
theorem pRmdir_any (m : Option Nat) (nx : Int) (l : List Fs.Item) (kd : Int) (oa ob : ByteArray) (oo og on : Int) (od : ByteArray) (w : World) (h : Sv w m l) (G : Fs.Half env ⟨l, nx⟩) (hf9 : l.length ≤ 900) (pa : oa.size ≤ 140737488355328) {na : List ByteArray} (ha : spl oa = some na) : Calls Tryz.prog 93 #[stv m nx, .agg #[.int .i64 kd, .string oa, .string ob, .int .i64 oo, .int .i64 og, .int .i64 on, .string od]] w (Stated (Fs.rmdir ⟨l, nx⟩ na) w) := by
 have hlk := Fs.Half.rmdir_is G (aa := na)
 dsimp only at hlk
 have HLv := Lib.hid (fun W (hbw : Below w.heap.size w W) => pLeave_any m nx l oa na W (h.below hbw) pa ha hf9)
 have HFi := Lib.hid (fun W (hb : Below w.heap.size w W) => pFind_any m nx l oa W (h.below hb) pa)
 have HD := Lib.hid h.dg
 have HSv := Lib.hid (fun W (hb : Below w.heap.size w W) => h.below hb)
 rcases find_cases (l := l) ha with ⟨ec, hne, hw, hf⟩ | ⟨i, hw, hf⟩
 ·have HR := Lib.hid (show Fs.rmdir ⟨l, nx⟩ na = .error ec by rw [hlk, hw])
  have HF := Lib.hid (show ∀ W, Below w.heap.size w W → Calls Tryz.prog 57 #[stv m nx, .string oa] W (Foundy (0, Nd.none0, ec) W) from fun W hb => hf ▸ HFi.out W hb)
  clear HFi hf hw h hlk
  have HB := Lib.hid (show Bxs w [(w.heap.size, #[pv m, .int .i64 nx], 88), (w.heap.size + 1, #[.int .i64 kd, .string oa, .string ob, .int .i64 oo, .int .i64 og, .int .i64 on, .string od], 35), (w.heap.size + 1 + 1, #[.pointer none, .int .i64 0], 88)] (((w.alloc (.cells #[pv m, .int .i64 nx] 88)).alloc (.cells #[.int .i64 kd, .string oa, .string ob, .int .i64 oo, .int .i64 og, .int .i64 on, .string od] 35)).alloc (.cells #[.pointer none, .int .i64 0] 88)) from Bxs.three w _ _ _ _ _ _)
  go_enter Tryz.func93, Tryz.ntmps93
  go_wp2_with fail
  generalize ((w.alloc (.cells #[pv m, .int .i64 nx] 88)).alloc (.cells #[.int .i64 kd, .string oa, .string ob, .int .i64 oo, .int .i64 og, .int .i64 on, .string od] 35)).alloc (.cells #[.pointer none, .int .i64 0] 88) = W0 at HB ⊢
  have b0 := HB.out.c2 0 rfl
  have b1 := HB.out.c7 1 rfl
  have b2 := HB.out.c2 2 rfl
  go_wp2_with fail
  refine (HF.out W0 HB.out.below).mono ?_
  rintro e w1 ⟨ea, eb, rfl, hE, hb⟩
  have hbk := hb
  clear hE
  have HB := Lib.hid (HB.out.kept hbk)
  clear b0 b1 b2
  clear hbk
  have HBp := HB
  have HB := Lib.hid (HB.out.more #[.int .i64 0, .int .i64 0, .string ⟨#[]⟩, .string ⟨#[]⟩, .slice ea 0 eb] 43 rfl)
  have b0 := HB.out.c2 0 rfl
  have b1 := HB.out.c7 1 rfl
  have b2 := HB.out.c2 2 rfl
  dsimp only
  go_wp2_with (first | (refine store_bx HB.out 2 rfl 88 _ _ rfl rfl #[.pointer none, .int .i64 0] rfl rfl (by kernel_rfl) rfl rfl (by decide) (by decide) ?_; intro w2 hS hK hbS hsS; have HBS := Lib.hid hS; clear hS hK hbS hsS; have HB := HBS; clear HBS; clear b0 b1 b2; have b0 := HB.out.c2 0 rfl; have b1 := HB.out.c7 1 rfl; have b2 := HB.out.c2 2 rfl; have b3 := HB.out.c5 3 rfl) | fail)
  refine bodyPost_ret_by (results_st rfl _ _ (w.heap.size + 1 + 1) _ _ rfl (HB.out.obj 2 rfl)) rfl ?_
  exact stated_err HR.out hne HB.out.below
 ·rw [hw] at hlk
  simp only at hlk
  obtain ⟨x, hx, hxD⟩ := G.walk_node hw
  have hxr := h.ok.node hx
  have HXi := hxr.2
  have HXs : (Fs.node l i).isSome = true := by rw [hx]; rfl
  rw [hxD] at hf
  obtain ⟨k, mo, d, t, es⟩ := x
  have HF := Lib.hid (show ∀ W, Below w.heap.size w W → Calls Tryz.prog 57 #[stv m nx, .string oa] W (Foundy (i, (⟨k, mo, d, t, es⟩ : Nd.Node), 0) W) from fun W hb => hf ▸ HFi.out W hb)
  clear hf HFi h
  rw [hxD] at hlk
  clear hx hxD hw hxr
  by_cases hk2 : k = 2
  ·subst hk2
   rw [if_neg (by simp)] at hlk
   by_cases hi1 : i = 1
   ·subst hi1
    have HR := Lib.hid (show Fs.rmdir ⟨l, nx⟩ na = .error 17 by rw [hlk]; rfl)
    clear hlk HLv
    have HB := Lib.hid (show Bxs w [(w.heap.size, #[pv m, .int .i64 nx], 88), (w.heap.size + 1, #[.int .i64 kd, .string oa, .string ob, .int .i64 oo, .int .i64 og, .int .i64 on, .string od], 35), (w.heap.size + 1 + 1, #[.pointer none, .int .i64 0], 88)] (((w.alloc (.cells #[pv m, .int .i64 nx] 88)).alloc (.cells #[.int .i64 kd, .string oa, .string ob, .int .i64 oo, .int .i64 og, .int .i64 on, .string od] 35)).alloc (.cells #[.pointer none, .int .i64 0] 88)) from Bxs.three w _ _ _ _ _ _)
    go_enter Tryz.func93, Tryz.ntmps93
    go_wp2_with fail
    generalize ((w.alloc (.cells #[pv m, .int .i64 nx] 88)).alloc (.cells #[.int .i64 kd, .string oa, .string ob, .int .i64 oo, .int .i64 og, .int .i64 on, .string od] 35)).alloc (.cells #[.pointer none, .int .i64 0] 88) = W0 at HB ⊢
    have b0 := HB.out.c2 0 rfl
    have b1 := HB.out.c7 1 rfl
    have b2 := HB.out.c2 2 rfl
    go_wp2_with fail
    refine (HF.out W0 HB.out.below).mono ?_
    rintro e w1 ⟨a, c, rfl, hE, hb⟩
    have hbk := hb
    clear hE
    have HB := Lib.hid (HB.out.kept hbk)
    clear b0 b1 b2
    clear hbk
    have HBp := HB
    have HB := Lib.hid (HB.out.more #[.int .i64 2, .int .i64 mo, .string d, .string t, .slice a es.length c] 43 rfl)
    have b0 := HB.out.c2 0 rfl
    have b1 := HB.out.c7 1 rfl
    have b2 := HB.out.c2 2 rfl
    dsimp only
    go_wp2_with (first | (refine store_bx HB.out 2 rfl 88 _ _ rfl rfl #[.pointer none, .int .i64 0] rfl rfl (by kernel_rfl) rfl rfl (by decide) (by decide) ?_; intro w2 hS hK hbS hsS; have HBS := Lib.hid hS; clear hS hK hbS hsS; have HB := HBS; clear HBS; clear b0 b1 b2; have b0 := HB.out.c2 0 rfl; have b1 := HB.out.c7 1 rfl; have b2 := HB.out.c2 2 rfl; have b3 := HB.out.c5 3 rfl) | fail)
    refine bodyPost_ret_by (results_st rfl _ _ (w.heap.size + 1 + 1) _ _ rfl (HB.out.obj 2 rfl)) rfl ?_
    exact stated_err HR.out (by decide) HB.out.below
   ·rw [if_neg hi1] at hlk
    by_cases hes : es = []
    ·rw [if_neg (by simp [hes])] at hlk
     subst hes
     cases hen : Fs.leaveP l na with
     | error ce =>
      have HR := Lib.hid (show Fs.rmdir ⟨l, nx⟩ na = .error ce by rw [hlk, hen])
      rw [show wl (Fs.leaveP l na) nx = .error ce by rw [hen]; rfl] at HLv
      clear hlk hen
      have HB := Lib.hid (show Bxs w [(w.heap.size, #[pv m, .int .i64 nx], 88), (w.heap.size + 1, #[.int .i64 kd, .string oa, .string ob, .int .i64 oo, .int .i64 og, .int .i64 on, .string od], 35), (w.heap.size + 1 + 1, #[.pointer none, .int .i64 0], 88)] (((w.alloc (.cells #[pv m, .int .i64 nx] 88)).alloc (.cells #[.int .i64 kd, .string oa, .string ob, .int .i64 oo, .int .i64 og, .int .i64 on, .string od] 35)).alloc (.cells #[.pointer none, .int .i64 0] 88)) from Bxs.three w _ _ _ _ _ _)
      go_enter Tryz.func93, Tryz.ntmps93
      go_wp2_with fail
      generalize ((w.alloc (.cells #[pv m, .int .i64 nx] 88)).alloc (.cells #[.int .i64 kd, .string oa, .string ob, .int .i64 oo, .int .i64 og, .int .i64 on, .string od] 35)).alloc (.cells #[.pointer none, .int .i64 0] 88) = W0 at HB ⊢
      have b0 := HB.out.c2 0 rfl
      have b1 := HB.out.c7 1 rfl
      have b2 := HB.out.c2 2 rfl
      go_wp2_with fail
      refine (HF.out W0 HB.out.below).mono ?_
      rintro e w1 ⟨a, c, rfl, hE, hb⟩
      have hbk := hb
      clear hE
      have HB := Lib.hid (HB.out.kept hbk)
      clear b0 b1 b2
      clear hbk
      have HBp := HB
      have HB := Lib.hid (HB.out.more #[.int .i64 2, .int .i64 mo, .string d, .string t, .slice a 0 c] 43 rfl)
      have b0 := HB.out.c2 0 rfl
      have b1 := HB.out.c7 1 rfl
      have b2 := HB.out.c2 2 rfl
      dsimp only
      go_wp2_with fail
      refine (HLv.out (w1.alloc (.cells #[.int .i64 2, .int .i64 mo, .string d, .string t, .slice a 0 c] 43)) HB.out.below).mono ?_
      rintro e w2 ⟨hb, hne, rfl⟩
      have hbk := hb
      have HB := Lib.hid (HB.out.kept hbk)
      clear b0 b1 b2
      clear hbk
      have b0 := HB.out.c2 0 rfl
      have b1 := HB.out.c7 1 rfl
      have b2 := HB.out.c2 2 rfl
      have b3 := HB.out.c5 3 rfl
      dsimp only
      go_wp2_with (first | (refine store_bx HB.out 0 rfl 88 _ _ rfl rfl #[.pointer none, .int .i64 0] rfl rfl (by kernel_rfl) rfl rfl (by decide) (by decide) ?_; intro w3 hS hK hbS hsS; have HBS := Lib.hid hS; clear hS hK hbS hsS; have HB := HBS; clear HBS; clear b0 b1 b2 b3; have b0 := HB.out.c2 0 rfl; have b1 := HB.out.c7 1 rfl; have b2 := HB.out.c2 2 rfl; have b3 := HB.out.c5 3 rfl) | (refine store_bx HB.out 2 rfl 88 _ _ rfl rfl #[.pointer none, .int .i64 0] rfl rfl (by kernel_rfl) rfl rfl (by decide) (by decide) ?_; intro w4 hS hK hbS hsS; have HBS := Lib.hid hS; clear hS hK hbS hsS; have HB := HBS; clear HBS; clear b0 b1 b2 b3; have b0 := HB.out.c2 0 rfl; have b1 := HB.out.c7 1 rfl; have b2 := HB.out.c2 2 rfl; have b3 := HB.out.c5 3 rfl) | fail)
      refine bodyPost_ret_by (results_st rfl _ _ (w.heap.size + 1 + 1) _ _ rfl (HB.out.obj 2 rfl)) rfl ?_
      exact stated_err HR.out hne HB.out.below
     | ok l2 =>
      have HR := Lib.hid (show Fs.rmdir ⟨l, nx⟩ na = .ok ⟨Fs.dropL l2 i, nx⟩ by rw [hlk, hen])
      rw [show wl (Fs.leaveP l na) nx = .ok ⟨l2, nx⟩ by rw [hen]; rfl] at HLv
      have HWo := Lib.hid (fun W m5 (hS : Sv W m5 l2) => pWithout_any m5 nx l2 i W hS HXi)
      have HLn := Lib.hid (leaveP_len hen hf9)
      clear hlk hen
      have HB := Lib.hid (show Bxs w [(w.heap.size, #[pv m, .int .i64 nx], 88), (w.heap.size + 1, #[.int .i64 kd, .string oa, .string ob, .int .i64 oo, .int .i64 og, .int .i64 on, .string od], 35), (w.heap.size + 1 + 1, #[.pointer none, .int .i64 0], 88)] (((w.alloc (.cells #[pv m, .int .i64 nx] 88)).alloc (.cells #[.int .i64 kd, .string oa, .string ob, .int .i64 oo, .int .i64 og, .int .i64 on, .string od] 35)).alloc (.cells #[.pointer none, .int .i64 0] 88)) from Bxs.three w _ _ _ _ _ _)
      go_enter Tryz.func93, Tryz.ntmps93
      go_wp2_with fail
      generalize ((w.alloc (.cells #[pv m, .int .i64 nx] 88)).alloc (.cells #[.int .i64 kd, .string oa, .string ob, .int .i64 oo, .int .i64 og, .int .i64 on, .string od] 35)).alloc (.cells #[.pointer none, .int .i64 0] 88) = W0 at HB ⊢
      have b0 := HB.out.c2 0 rfl
      have b1 := HB.out.c7 1 rfl
      have b2 := HB.out.c2 2 rfl
      go_wp2_with fail
      refine (HF.out W0 HB.out.below).mono ?_
      rintro e w1 ⟨a, c, rfl, hE, hb⟩
      have hbk := hb
      clear hE
      have HB := Lib.hid (HB.out.kept hbk)
      clear b0 b1 b2
      clear hbk
      have HBp := HB
      have HB := Lib.hid (HB.out.more #[.int .i64 2, .int .i64 mo, .string d, .string t, .slice a 0 c] 43 rfl)
      have b0 := HB.out.c2 0 rfl
      have b1 := HB.out.c7 1 rfl
      have b2 := HB.out.c2 2 rfl
      dsimp only
      go_wp2_with fail
      refine (HLv.out (w1.alloc (.cells #[.int .i64 2, .int .i64 mo, .string d, .string t, .slice a 0 c] 43)) HB.out.below).mono ?_
      rintro e w2 ⟨hb, m5, rfl, hS⟩
      have hbk := hb
      have HS := Lib.hid hS
      clear hS
      have HB := Lib.hid (HB.out.kept hbk)
      clear b0 b1 b2
      clear hbk
      have b0 := HB.out.c2 0 rfl
      have b1 := HB.out.c7 1 rfl
      have b2 := HB.out.c2 2 rfl
      have b3 := HB.out.c5 3 rfl
      dsimp only
      go_wp2_with (first | (refine store_bx HB.out 0 rfl 88 _ _ rfl rfl #[pv m5, .int .i64 nx] rfl rfl (by kernel_rfl) rfl rfl (by decide) (by decide) ?_; intro w3 hS hK hbS hsS; have HBS := Lib.hid hS; have HS := Lib.hid (HS.out.kept hK (HD.out.below hbS)); clear hS hK hbS hsS; have HB := HBS; clear HBS; clear b0 b1 b2 b3; have b0 := HB.out.c2 0 rfl; have b1 := HB.out.c7 1 rfl; have b2 := HB.out.c2 2 rfl; have b3 := HB.out.c5 3 rfl) | fail)
      refine (HWo.out w3 m5 HS.out HLn.out).mono ?_
      rintro e w4 ⟨m6, rfl, hS, hb⟩
      have hbk := hb
      have HS := Lib.hid hS
      clear hS
      have HB := Lib.hid (HB.out.kept hbk)
      clear b0 b1 b2 b3
      clear hbk
      have b0 := HB.out.c2 0 rfl
      have b1 := HB.out.c7 1 rfl
      have b2 := HB.out.c2 2 rfl
      have b3 := HB.out.c5 3 rfl
      dsimp only
      go_wp2_with (first | (refine store_bx HB.out 2 rfl 88 _ _ rfl rfl #[pv m6, .int .i64 nx] rfl rfl (by kernel_rfl) rfl rfl (by decide) (by decide) ?_; intro w5 hS hK hbS hsS; have HBS := Lib.hid hS; have HS := Lib.hid (HS.out.kept hK (HD.out.below hbS)); clear hS hK hbS hsS; have HB := HBS; clear HBS; clear b0 b1 b2 b3; have b0 := HB.out.c2 0 rfl; have b1 := HB.out.c7 1 rfl; have b2 := HB.out.c2 2 rfl; have b3 := HB.out.c5 3 rfl) | fail)
      refine bodyPost_ret_by (results_st rfl _ _ (w.heap.size + 1 + 1) _ _ rfl (HB.out.obj 2 rfl)) rfl ?_
      exact stated_ok HR.out HB.out.below HS.out
    ·rw [if_pos hes] at hlk
     have HR := Lib.hid (show Fs.rmdir ⟨l, nx⟩ na = .error 12 from hlk)
     have hlen : 0 < es.length := by cases es with
      | nil => exact absurd rfl hes
      | cons _ _ => simp
     have hlen : (0 : Int) < (es.length : Int) := by omega
     clear hlk HLv hes
     have HB := Lib.hid (show Bxs w [(w.heap.size, #[pv m, .int .i64 nx], 88), (w.heap.size + 1, #[.int .i64 kd, .string oa, .string ob, .int .i64 oo, .int .i64 og, .int .i64 on, .string od], 35), (w.heap.size + 1 + 1, #[.pointer none, .int .i64 0], 88)] (((w.alloc (.cells #[pv m, .int .i64 nx] 88)).alloc (.cells #[.int .i64 kd, .string oa, .string ob, .int .i64 oo, .int .i64 og, .int .i64 on, .string od] 35)).alloc (.cells #[.pointer none, .int .i64 0] 88)) from Bxs.three w _ _ _ _ _ _)
     go_enter Tryz.func93, Tryz.ntmps93
     go_wp2_with fail
     generalize ((w.alloc (.cells #[pv m, .int .i64 nx] 88)).alloc (.cells #[.int .i64 kd, .string oa, .string ob, .int .i64 oo, .int .i64 og, .int .i64 on, .string od] 35)).alloc (.cells #[.pointer none, .int .i64 0] 88) = W0 at HB ⊢
     have b0 := HB.out.c2 0 rfl
     have b1 := HB.out.c7 1 rfl
     have b2 := HB.out.c2 2 rfl
     go_wp2_with fail
     refine (HF.out W0 HB.out.below).mono ?_
     rintro e w1 ⟨a, c, rfl, hE, hb⟩
     have hbk := hb
     clear hE
     have HB := Lib.hid (HB.out.kept hbk)
     clear b0 b1 b2
     clear hbk
     have HBp := HB
     have HB := Lib.hid (HB.out.more #[.int .i64 2, .int .i64 mo, .string d, .string t, .slice a es.length c] 43 rfl)
     have b0 := HB.out.c2 0 rfl
     have b1 := HB.out.c7 1 rfl
     have b2 := HB.out.c2 2 rfl
     dsimp only
     go_wp2_with (first | (refine store_bx HB.out 2 rfl 88 _ _ rfl rfl #[.pointer none, .int .i64 0] rfl rfl (by kernel_rfl) rfl rfl (by decide) (by decide) ?_; intro w2 hS hK hbS hsS; have HBS := Lib.hid hS; clear hS hK hbS hsS; have HB := HBS; clear HBS; clear b0 b1 b2; have b0 := HB.out.c2 0 rfl; have b1 := HB.out.c7 1 rfl; have b2 := HB.out.c2 2 rfl; have b3 := HB.out.c5 3 rfl) | fail)
     refine bodyPost_ret_by (results_st rfl _ _ (w.heap.size + 1 + 1) _ _ rfl (HB.out.obj 2 rfl)) rfl ?_
     exact stated_err HR.out (by decide) HB.out.below
  ·rw [if_pos hk2] at hlk
   have HR := Lib.hid (show Fs.rmdir ⟨l, nx⟩ na = .error 10 from hlk)
   clear hlk HLv
   have HB := Lib.hid (show Bxs w [(w.heap.size, #[pv m, .int .i64 nx], 88), (w.heap.size + 1, #[.int .i64 kd, .string oa, .string ob, .int .i64 oo, .int .i64 og, .int .i64 on, .string od], 35), (w.heap.size + 1 + 1, #[.pointer none, .int .i64 0], 88)] (((w.alloc (.cells #[pv m, .int .i64 nx] 88)).alloc (.cells #[.int .i64 kd, .string oa, .string ob, .int .i64 oo, .int .i64 og, .int .i64 on, .string od] 35)).alloc (.cells #[.pointer none, .int .i64 0] 88)) from Bxs.three w _ _ _ _ _ _)
   go_enter Tryz.func93, Tryz.ntmps93
   go_wp2_with fail
   generalize ((w.alloc (.cells #[pv m, .int .i64 nx] 88)).alloc (.cells #[.int .i64 kd, .string oa, .string ob, .int .i64 oo, .int .i64 og, .int .i64 on, .string od] 35)).alloc (.cells #[.pointer none, .int .i64 0] 88) = W0 at HB ⊢
   have b0 := HB.out.c2 0 rfl
   have b1 := HB.out.c7 1 rfl
   have b2 := HB.out.c2 2 rfl
   go_wp2_with fail
   refine (HF.out W0 HB.out.below).mono ?_
   rintro e w1 ⟨a, c, rfl, hE, hb⟩
   have hbk := hb
   clear hE
   have HB := Lib.hid (HB.out.kept hbk)
   clear b0 b1 b2
   clear hbk
   have HBp := HB
   have HB := Lib.hid (HB.out.more #[.int .i64 k, .int .i64 mo, .string d, .string t, .slice a es.length c] 43 rfl)
   have b0 := HB.out.c2 0 rfl
   have b1 := HB.out.c7 1 rfl
   have b2 := HB.out.c2 2 rfl
   dsimp only
   go_wp2_with (first | (refine store_bx HB.out 2 rfl 88 _ _ rfl rfl #[.pointer none, .int .i64 0] rfl rfl (by kernel_rfl) rfl rfl (by decide) (by decide) ?_; intro w2 hS hK hbS hsS; have HBS := Lib.hid hS; clear hS hK hbS hsS; have HB := HBS; clear HBS; clear b0 b1 b2; have b0 := HB.out.c2 0 rfl; have b1 := HB.out.c7 1 rfl; have b2 := HB.out.c2 2 rfl; have b3 := HB.out.c5 3 rfl) | fail)
   refine bodyPost_ret_by (results_st rfl _ _ (w.heap.size + 1 + 1) _ _ rfl (HB.out.obj 2 rfl)) rfl ?_
   exact stated_err HR.out (by decide) HB.out.below
end Go.Proofs.YthehblmjloohiaaGreatDoor
