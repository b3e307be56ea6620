/- Layer 11, a part of the proofs: no statement of its own. -/
import Derived.Test.YthehblmjloohiaaGreatDoorM25
namespace Go.Proofs.YthehblmjloohiaaGreatDoor
set_option maxRecDepth 100000
open Go.RowKit Go.Less
open T8 (pv Dg)
attribute [local go_sem 9000] sem_eql sem_neq
def wl (r : Except Int (List Fs.Item)) (nx : Int) : Except Int Fs.FS := match r with
 | .error e => .error e
 | .ok l => .ok ⟨l, nx⟩
theorem stated_err {r : Except Int Fs.FS} {c : Int} (h : r = .error c) (hc : c ≠ 0) {w W : World} (hb : Below w.heap.size w W) : Stated r w (.returned (.tuple #[.agg #[.pointer none, .int .i64 0], .int .i64 c])) W := by
 subst h; exact ⟨hb, hc, rfl⟩
theorem stated_ok {r : Except Int Fs.FS} {f : Fs.FS} (h : r = .ok f) {w W : World} (hb : Below w.heap.size w W) {m : Option Nat} (hS : Sv W m f.l) : Stated r w (.returned (.tuple #[.agg #[pv m, .int .i64 f.next], .int .i64 0])) W := by
 subst h; exact ⟨hb, m, rfl, hS⟩
theorem withE_ok {x y : Nd.Node} {n : ByteArray} {i : Int} (hR : Nd.Right less Nm.right x) (hi : 1 ≤ i ∧ i ≤ 2147483647) (h : Nd.withE less Nm.right x n i = (y, 0)) : Nd.Right less Nm.right y := by
 unfold Nd.withE at h
 split at h
 ·injection h with _ h; omega
 rename_i h1
 split at h
 ·injection h with _ h; omega
 rename_i h2
 split at h
 ·injection h with _ h; omega
 rename_i h3
 split at h
 ·injection h with _ h; omega
 rename_i h4
 injection h with h _
 rw [← h]
 exact Nd.right_ins rising hR (by simpa using h1) (by simpa using h2) (by simpa using h3) (by omega) hi.1 hi.2
theorem withoutE_ok {x y : Nd.Node} {n : ByteArray} (hR : Nd.Right less Nm.right x) (h : Nd.withoutE x n = (y, 0)) : Nd.Right less Nm.right y := by
 unfold Nd.withoutE at h
 split at h
 ·injection h with _ h; omega
 split at h
 ·injection h with _ h; omega
 injection h with h _
 rw [← h]
 exact Fs.right_cut (E := env) rising hR n
theorem place_node {l : List Fs.Item} {ns : List ByteArray} {d : Int} {n : ByteArray} (h : Fs.place l ns = .ok (d, n)) : (Fs.node l d).isSome = true := by
 obtain ⟨x, hx, _⟩ := Fs.nodeD_kind (Fs.place_dir h).1 (by decide)
 rw [hx]; rfl
set_option maxHeartbeats 8000000 in
theorem pEnter_any (m : Option Nat) (nx : Int) (l : List Fs.Item) (p : ByteArray) (ns : List ByteArray) (i : Int) (w : World) (h : Sv w m l) (hp : p.size ≤ 140737488355328) (hs : spl p = some ns) (hi : 1 ≤ i ∧ i ≤ 2147483647) (hf9 : l.length ≤ 900) : Calls Tryz.prog 120 #[stv m nx, .string p, .int .i64 i] w (Stated (wl (Fs.enterP env l ns i) nx) w) := by
 have HPl := Lib.hid (fun W (hb : Below w.heap.size w W) => pPlace_any m nx l p ns W (h.below hb) hp hs)
 have hnm := spl_small hs
 cases hpl : Fs.place l ns with
 | error ec =>
  rw [hpl] at HPl
  have HR := Lib.hid (show wl (Fs.enterP env l ns i) nx = .error ec by unfold Fs.enterP; rw [hpl]; rfl)
  have hne := place_nz hpl
  clear hpl h hs hnm
  have HB := Lib.hid (show Bxs w [(w.heap.size, #[pv m, .int .i64 nx], 88), (w.heap.size + 1, #[.pointer none, .int .i64 0], 88)] ((w.alloc (.cells #[pv m, .int .i64 nx] 88)).alloc (.cells #[.pointer none, .int .i64 0] 88)) from Bxs.two w _ _ _ _)
  go_enter Tryz.func120, Tryz.ntmps120
  go_wp2_with fail
  generalize (w.alloc (.cells #[pv m, .int .i64 nx] 88)).alloc (.cells #[.pointer none, .int .i64 0] 88) = W0 at HB ⊢
  have b0 := HB.out.c2 0 rfl
  have b1 := HB.out.c2 1 rfl
  go_wp2_with fail
  refine (HPl.out W0 HB.out.below).mono ?_
  rintro e w1 ⟨hb, _, rfl⟩
  have hbk := hb
  have HB := Lib.hid (HB.out.kept hbk)
  clear b0 b1
  clear hbk
  have HBp := HB
  have HB := Lib.hid (HB.out.more #[.int .i64 0, .int .i64 0, .int .i64 0, .string ⟨#[]⟩, .string ⟨#[]⟩, .slice none 0 0, .string ⟨#[]⟩] 178 rfl)
  have b0 := HB.out.c2 0 rfl
  have b1 := HB.out.c2 1 rfl
  dsimp only
  go_wp2_with (first | (refine store_bx HB.out 1 rfl 88 _ _ rfl rfl #[.pointer none, .int .i64 0] rfl rfl (by kernel_rfl) rfl rfl (by decide) (by decide) ?_; intro w2 hS hK hbS hsS; have HBS := Lib.hid hS; clear hS hK hbS hsS; have HB := HBS; clear HBS; clear b0 b1; have b0 := HB.out.c2 0 rfl; have b1 := HB.out.c2 1 rfl; have b2 := HB.out.c7 2 rfl) | fail)
  refine bodyPost_ret_by (results_st rfl _ _ (w.heap.size + 1) _ _ rfl (HB.out.obj 1 rfl)) rfl ?_
  exact stated_err HR.out hne HB.out.below
 | ok r =>
  obtain ⟨dn, y⟩ := r
  rw [hpl] at HPl
  have hkd := Fs.place_dir hpl
  have hsome := place_node hpl
  obtain ⟨xx, hxx⟩ := Option.isSome_iff_exists.1 hsome
  have hxD := Fs.nodeD_of hxx
  have hRx := (h.ok.node hxx).1
  have hdi := (h.ok.node hxx).2
  have hy := hnm y hkd.2
  obtain ⟨⟨yy, cc⟩, hyy⟩ : ∃ r, Nd.withE less Nm.right xx y i = r := ⟨_, rfl⟩
  have hPc : wl (Fs.enterP env l ns i) nx = if cc ≠ 0 then .error cc else .ok ⟨Fs.setL l dn yy, nx⟩ := by
   unfold Fs.enterP
   rw [hpl]
   simp only
   rw [hxD]
   rw [show Nd.withE env.lt env.nm xx y i = (yy, cc) from hyy, show Fs.enter env l dn y i = Fs.setL l dn yy by unfold Fs.enter; rw [hxD, show Nd.withE env.lt env.nm xx y i = (yy, cc) from hyy]]
   split <;> rfl
  have HSv := Lib.hid (fun W (hb : Below w.heap.size w W) => h.below hb)
  have HD := Lib.hid h.dg
  rw [hxD] at hkd
  obtain ⟨k, mo, d, t, es⟩ := xx
  have HPo := Lib.hid (show ∀ W, Below w.heap.size w W → Calls Tryz.prog 126 #[stv m nx, .string p] W fun e w' => Below W.heap.size W w' ∧ ∃ a c, e = .returned (.tuple #[.agg #[.int .i64 dn, .int .i64 k, .int .i64 mo, .string d, .string t, .slice a es.length c, .string y], .int .i64 0]) ∧ Ents a es.length es w' from fun W hb => (HPl.out W hb).mono fun e w' hx => by
   obtain ⟨hx1, hx2⟩ := hx
   simp only [hxD] at hx2
   exact ⟨hx1, hx2⟩)
  have hSm := Right.smallS hRx
  dsimp only at hSm
  obtain ⟨k1, m1, d1, t1, e1⟩ := yy
  have HW := Lib.hid (fun W a c (hE : Ents a es.length es W) => q_with (c := c) W hE hSm hy hyy rfl)
  clear HPl
  by_cases hc : cc = 0
  ·subst hc
   have HR := Lib.hid (show wl (Fs.enterP env l ns i) nx = .ok ⟨Fs.setL l dn ⟨k1, m1, d1, t1, e1⟩, nx⟩ by rw [hPc, if_neg (by decide)])
   have hRy := withE_ok hRx hi hyy
   have HWi := Lib.hid (fun W a c (hb : Below w.heap.size w W) (hE : Ents a e1.length e1 W) => pWith_any m nx l dn ⟨k1, m1, d1, t1, e1⟩ a c W (HSv.out W hb) hE hRy hdi (.inl hsome) hf9)
   clear hPc hyy hRx hpl hxx hxD hs h hnm hkd
   have HB := Lib.hid (show Bxs w [(w.heap.size, #[pv m, .int .i64 nx], 88), (w.heap.size + 1, #[.pointer none, .int .i64 0], 88)] ((w.alloc (.cells #[pv m, .int .i64 nx] 88)).alloc (.cells #[.pointer none, .int .i64 0] 88)) from Bxs.two w _ _ _ _)
   go_enter Tryz.func120, Tryz.ntmps120
   go_wp2_with fail
   generalize (w.alloc (.cells #[pv m, .int .i64 nx] 88)).alloc (.cells #[.pointer none, .int .i64 0] 88) = W0 at HB ⊢
   have b0 := HB.out.c2 0 rfl
   have b1 := HB.out.c2 1 rfl
   go_wp2_with fail
   refine (HPo.out W0 HB.out.below).mono ?_
   rintro e w1 ⟨hb, a, c, rfl, hE⟩
   have hbk := hb
   have HEn := Lib.hid (hE.below (below_one w1 (.cells #[.int .i64 dn, .int .i64 k, .int .i64 mo, .string d, .string t, .slice a es.length c, .string y] 178)))
   clear hE
   have HB := Lib.hid (HB.out.kept hbk)
   clear b0 b1
   clear hbk
   have HBp := HB
   have HB := Lib.hid (HB.out.more #[.int .i64 dn, .int .i64 k, .int .i64 mo, .string d, .string t, .slice a es.length c, .string y] 178 rfl)
   have b0 := HB.out.c2 0 rfl
   have b1 := HB.out.c2 1 rfl
   dsimp only
   go_wp2_with fail
   refine (HW.out (w1.alloc (.cells #[.int .i64 dn, .int .i64 k, .int .i64 mo, .string d, .string t, .slice a es.length c, .string y] 178)) a c HEn.out).mono ?_
   rintro e w2 ⟨a1, c1, rfl, hE1, hb⟩
   have hbk := hb
   have HE1 := Lib.hid (hE1.below (below_one w2 (.cells #[.int .i64 k1, .int .i64 m1, .string d1, .string t1, .slice a1 e1.length c1] 43)))
   clear hE1 HEn
   have HB := Lib.hid (HB.out.kept hbk)
   clear b0 b1
   clear hbk
   have HBp := HB
   have HB := Lib.hid (HB.out.more #[.int .i64 k1, .int .i64 m1, .string d1, .string t1, .slice a1 e1.length c1] 43 rfl)
   have b0 := HB.out.c2 0 rfl
   have b1 := HB.out.c2 1 rfl
   have b2 := HB.out.c7 2 rfl
   dsimp only
   go_wp2_with fail
   refine (HWi.out (w2.alloc (.cells #[.int .i64 k1, .int .i64 m1, .string d1, .string t1, .slice a1 e1.length c1] 43)) a1 c1 HB.out.below HE1.out).mono ?_
   rintro e w3 ⟨m7, rfl, hS, hb⟩
   have hbk := hb
   have HS := Lib.hid hS
   clear hS
   have HB := Lib.hid (HB.out.kept hbk)
   clear b0 b1 b2
   clear hbk
   have b0 := HB.out.c2 0 rfl
   have b1 := HB.out.c2 1 rfl
   have b2 := HB.out.c7 2 rfl
   have b3 := HB.out.c5 3 rfl
   dsimp only
   go_wp2_with (first | (refine store_bx HB.out 1 rfl 88 _ _ rfl rfl #[pv m7, .int .i64 nx] rfl rfl (by kernel_rfl) rfl rfl (by decide) (by decide) ?_; intro w4 hS hK hbS hsS; have HBS := Lib.hid hS; have HS := Lib.hid (HS.out.kept hK (HD.out.below hbS)); clear hS hK hbS hsS; have HB := HBS; clear HBS; clear b0 b1 b2 b3; have b0 := HB.out.c2 0 rfl; have b1 := HB.out.c2 1 rfl; have b2 := HB.out.c7 2 rfl; have b3 := HB.out.c5 3 rfl) | fail)
   refine bodyPost_ret_by (results_st rfl _ _ (w.heap.size + 1) _ _ rfl (HB.out.obj 1 rfl)) rfl ?_
   exact stated_ok HR.out HB.out.below HS.out
  ·have HR := Lib.hid (show wl (Fs.enterP env l ns i) nx = .error cc by rw [hPc, if_pos hc])
   clear hPc hyy hRx hpl hxx hxD hs h hnm hkd
   have HB := Lib.hid (show Bxs w [(w.heap.size, #[pv m, .int .i64 nx], 88), (w.heap.size + 1, #[.pointer none, .int .i64 0], 88)] ((w.alloc (.cells #[pv m, .int .i64 nx] 88)).alloc (.cells #[.pointer none, .int .i64 0] 88)) from Bxs.two w _ _ _ _)
   go_enter Tryz.func120, Tryz.ntmps120
   go_wp2_with fail
   generalize (w.alloc (.cells #[pv m, .int .i64 nx] 88)).alloc (.cells #[.pointer none, .int .i64 0] 88) = W0 at HB ⊢
   have b0 := HB.out.c2 0 rfl
   have b1 := HB.out.c2 1 rfl
   go_wp2_with fail
   refine (HPo.out W0 HB.out.below).mono ?_
   rintro e w1 ⟨hb, a, c, rfl, hE⟩
   have hbk := hb
   have HEn := Lib.hid (hE.below (below_one w1 (.cells #[.int .i64 dn, .int .i64 k, .int .i64 mo, .string d, .string t, .slice a es.length c, .string y] 178)))
   clear hE
   have HB := Lib.hid (HB.out.kept hbk)
   clear b0 b1
   clear hbk
   have HBp := HB
   have HB := Lib.hid (HB.out.more #[.int .i64 dn, .int .i64 k, .int .i64 mo, .string d, .string t, .slice a es.length c, .string y] 178 rfl)
   have b0 := HB.out.c2 0 rfl
   have b1 := HB.out.c2 1 rfl
   dsimp only
   go_wp2_with fail
   refine (HW.out (w1.alloc (.cells #[.int .i64 dn, .int .i64 k, .int .i64 mo, .string d, .string t, .slice a es.length c, .string y] 178)) a c HEn.out).mono ?_
   rintro e w2 ⟨a1, c1, rfl, hE1, hb⟩
   have hbk := hb
   have HE1 := Lib.hid (hE1.below (below_one w2 (.cells #[.int .i64 k1, .int .i64 m1, .string d1, .string t1, .slice a1 e1.length c1] 43)))
   clear hE1 HEn
   have HB := Lib.hid (HB.out.kept hbk)
   clear b0 b1
   clear hbk
   have HBp := HB
   have HB := Lib.hid (HB.out.more #[.int .i64 k1, .int .i64 m1, .string d1, .string t1, .slice a1 e1.length c1] 43 rfl)
   have b0 := HB.out.c2 0 rfl
   have b1 := HB.out.c2 1 rfl
   have b2 := HB.out.c7 2 rfl
   dsimp only
   go_wp2_with (first | (refine store_bx HB.out 1 rfl 88 _ _ rfl rfl #[.pointer none, .int .i64 0] rfl rfl (by kernel_rfl) rfl rfl (by decide) (by decide) ?_; intro w3 hS hK hbS hsS; have HBS := Lib.hid hS; clear hS hK hbS hsS; have HB := HBS; clear HBS; clear b0 b1 b2; have b0 := HB.out.c2 0 rfl; have b1 := HB.out.c2 1 rfl; have b2 := HB.out.c7 2 rfl; have b3 := HB.out.c5 3 rfl) | fail)
   refine bodyPost_ret_by (results_st rfl _ _ (w.heap.size + 1) _ _ rfl (HB.out.obj 1 rfl)) rfl ?_
   exact stated_err HR.out hc HB.out.below
set_option maxHeartbeats 8000000 in
theorem pLeave_any (m : Option Nat) (nx : Int) (l : List Fs.Item) (p : ByteArray) (ns : List ByteArray) (w : World) (h : Sv w m l) (hp : p.size ≤ 140737488355328) (hs : spl p = some ns) (hf9 : l.length ≤ 900) : Calls Tryz.prog 121 #[stv m nx, .string p] w (Stated (wl (Fs.leaveP l ns) nx) w) := by
 have HPl := Lib.hid (fun W (hb : Below w.heap.size w W) => pPlace_any m nx l p ns W (h.below hb) hp hs)
 have hnm := spl_small hs
 cases hpl : Fs.place l ns with
 | error ec =>
  rw [hpl] at HPl
  have HR := Lib.hid (show wl (Fs.leaveP l ns) nx = .error ec by unfold Fs.leaveP; rw [hpl]; rfl)
  have hne := place_nz hpl
  clear hpl h hs hnm
  have HB := Lib.hid (show Bxs w [(w.heap.size, #[pv m, .int .i64 nx], 88), (w.heap.size + 1, #[.pointer none, .int .i64 0], 88)] ((w.alloc (.cells #[pv m, .int .i64 nx] 88)).alloc (.cells #[.pointer none, .int .i64 0] 88)) from Bxs.two w _ _ _ _)
  go_enter Tryz.func121, Tryz.ntmps121
  go_wp2_with fail
  generalize (w.alloc (.cells #[pv m, .int .i64 nx] 88)).alloc (.cells #[.pointer none, .int .i64 0] 88) = W0 at HB ⊢
  have b0 := HB.out.c2 0 rfl
  have b1 := HB.out.c2 1 rfl
  go_wp2_with fail
  refine (HPl.out W0 HB.out.below).mono ?_
  rintro e w1 ⟨hb, _, rfl⟩
  have hbk := hb
  have HB := Lib.hid (HB.out.kept hbk)
  clear b0 b1
  clear hbk
  have HBp := HB
  have HB := Lib.hid (HB.out.more #[.int .i64 0, .int .i64 0, .int .i64 0, .string ⟨#[]⟩, .string ⟨#[]⟩, .slice none 0 0, .string ⟨#[]⟩] 178 rfl)
  have b0 := HB.out.c2 0 rfl
  have b1 := HB.out.c2 1 rfl
  dsimp only
  go_wp2_with (first | (refine store_bx HB.out 1 rfl 88 _ _ rfl rfl #[.pointer none, .int .i64 0] rfl rfl (by kernel_rfl) rfl rfl (by decide) (by decide) ?_; intro w2 hS hK hbS hsS; have HBS := Lib.hid hS; clear hS hK hbS hsS; have HB := HBS; clear HBS; clear b0 b1; have b0 := HB.out.c2 0 rfl; have b1 := HB.out.c2 1 rfl; have b2 := HB.out.c7 2 rfl) | fail)
  refine bodyPost_ret_by (results_st rfl _ _ (w.heap.size + 1) _ _ rfl (HB.out.obj 1 rfl)) rfl ?_
  exact stated_err HR.out hne HB.out.below
 | ok r =>
  obtain ⟨dn, y⟩ := r
  rw [hpl] at HPl
  have hkd := Fs.place_dir hpl
  have hsome := place_node hpl
  obtain ⟨xx, hxx⟩ := Option.isSome_iff_exists.1 hsome
  have hxD := Fs.nodeD_of hxx
  have hRx := (h.ok.node hxx).1
  have hdi := (h.ok.node hxx).2
  have hy := hnm y hkd.2
  obtain ⟨⟨yy, cc⟩, hyy⟩ : ∃ r, Nd.withoutE xx y = r := ⟨_, rfl⟩
  have hPc : wl (Fs.leaveP l ns) nx = if cc ≠ 0 then .error cc else .ok ⟨Fs.setL l dn yy, nx⟩ := by
   unfold Fs.leaveP
   rw [hpl]
   simp only
   rw [hxD]
   rw [hyy, show Fs.leave l dn y = Fs.setL l dn yy by unfold Fs.leave; rw [hxD, hyy]]
   split <;> rfl
  have HSv := Lib.hid (fun W (hb : Below w.heap.size w W) => h.below hb)
  have HD := Lib.hid h.dg
  rw [hxD] at hkd
  obtain ⟨k, mo, d, t, es⟩ := xx
  have HPo := Lib.hid (show ∀ W, Below w.heap.size w W → Calls Tryz.prog 126 #[stv m nx, .string p] W fun e w' => Below W.heap.size W w' ∧ ∃ a c, e = .returned (.tuple #[.agg #[.int .i64 dn, .int .i64 k, .int .i64 mo, .string d, .string t, .slice a es.length c, .string y], .int .i64 0]) ∧ Ents a es.length es w' from fun W hb => (HPl.out W hb).mono fun e w' hx => by
   obtain ⟨hx1, hx2⟩ := hx
   simp only [hxD] at hx2
   exact ⟨hx1, hx2⟩)
  have hSm := Right.smallS hRx
  dsimp only at hSm
  obtain ⟨k1, m1, d1, t1, e1⟩ := yy
  have HW := Lib.hid (fun W a c (hE : Ents a es.length es W) => q_wout (c := c) W hE hSm hyy rfl)
  clear HPl
  by_cases hc : cc = 0
  ·subst hc
   have HR := Lib.hid (show wl (Fs.leaveP l ns) nx = .ok ⟨Fs.setL l dn ⟨k1, m1, d1, t1, e1⟩, nx⟩ by rw [hPc, if_neg (by decide)])
   have hRy := withoutE_ok hRx hyy
   have HWi := Lib.hid (fun W a c (hb : Below w.heap.size w W) (hE : Ents a e1.length e1 W) => pWith_any m nx l dn ⟨k1, m1, d1, t1, e1⟩ a c W (HSv.out W hb) hE hRy hdi (.inl hsome) hf9)
   clear hPc hyy hRx hpl hxx hxD hs h hnm hkd
   have HB := Lib.hid (show Bxs w [(w.heap.size, #[pv m, .int .i64 nx], 88), (w.heap.size + 1, #[.pointer none, .int .i64 0], 88)] ((w.alloc (.cells #[pv m, .int .i64 nx] 88)).alloc (.cells #[.pointer none, .int .i64 0] 88)) from Bxs.two w _ _ _ _)
   go_enter Tryz.func121, Tryz.ntmps121
   go_wp2_with fail
   generalize (w.alloc (.cells #[pv m, .int .i64 nx] 88)).alloc (.cells #[.pointer none, .int .i64 0] 88) = W0 at HB ⊢
   have b0 := HB.out.c2 0 rfl
   have b1 := HB.out.c2 1 rfl
   go_wp2_with fail
   refine (HPo.out W0 HB.out.below).mono ?_
   rintro e w1 ⟨hb, a, c, rfl, hE⟩
   have hbk := hb
   have HEn := Lib.hid (hE.below (below_one w1 (.cells #[.int .i64 dn, .int .i64 k, .int .i64 mo, .string d, .string t, .slice a es.length c, .string y] 178)))
   clear hE
   have HB := Lib.hid (HB.out.kept hbk)
   clear b0 b1
   clear hbk
   have HBp := HB
   have HB := Lib.hid (HB.out.more #[.int .i64 dn, .int .i64 k, .int .i64 mo, .string d, .string t, .slice a es.length c, .string y] 178 rfl)
   have b0 := HB.out.c2 0 rfl
   have b1 := HB.out.c2 1 rfl
   dsimp only
   go_wp2_with fail
   refine (HW.out (w1.alloc (.cells #[.int .i64 dn, .int .i64 k, .int .i64 mo, .string d, .string t, .slice a es.length c, .string y] 178)) a c HEn.out).mono ?_
   rintro e w2 ⟨a1, c1, rfl, hE1, hb⟩
   have hbk := hb
   have HE1 := Lib.hid (hE1.below (below_one w2 (.cells #[.int .i64 k1, .int .i64 m1, .string d1, .string t1, .slice a1 e1.length c1] 43)))
   clear hE1 HEn
   have HB := Lib.hid (HB.out.kept hbk)
   clear b0 b1
   clear hbk
   have HBp := HB
   have HB := Lib.hid (HB.out.more #[.int .i64 k1, .int .i64 m1, .string d1, .string t1, .slice a1 e1.length c1] 43 rfl)
   have b0 := HB.out.c2 0 rfl
   have b1 := HB.out.c2 1 rfl
   have b2 := HB.out.c7 2 rfl
   dsimp only
   go_wp2_with fail
   refine (HWi.out (w2.alloc (.cells #[.int .i64 k1, .int .i64 m1, .string d1, .string t1, .slice a1 e1.length c1] 43)) a1 c1 HB.out.below HE1.out).mono ?_
   rintro e w3 ⟨m7, rfl, hS, hb⟩
   have hbk := hb
   have HS := Lib.hid hS
   clear hS
   have HB := Lib.hid (HB.out.kept hbk)
   clear b0 b1 b2
   clear hbk
   have b0 := HB.out.c2 0 rfl
   have b1 := HB.out.c2 1 rfl
   have b2 := HB.out.c7 2 rfl
   have b3 := HB.out.c5 3 rfl
   dsimp only
   go_wp2_with (first | (refine store_bx HB.out 1 rfl 88 _ _ rfl rfl #[pv m7, .int .i64 nx] rfl rfl (by kernel_rfl) rfl rfl (by decide) (by decide) ?_; intro w4 hS hK hbS hsS; have HBS := Lib.hid hS; have HS := Lib.hid (HS.out.kept hK (HD.out.below hbS)); clear hS hK hbS hsS; have HB := HBS; clear HBS; clear b0 b1 b2 b3; have b0 := HB.out.c2 0 rfl; have b1 := HB.out.c2 1 rfl; have b2 := HB.out.c7 2 rfl; have b3 := HB.out.c5 3 rfl) | fail)
   refine bodyPost_ret_by (results_st rfl _ _ (w.heap.size + 1) _ _ rfl (HB.out.obj 1 rfl)) rfl ?_
   exact stated_ok HR.out HB.out.below HS.out
  ·have HR := Lib.hid (show wl (Fs.leaveP l ns) nx = .error cc by rw [hPc, if_pos hc])
   clear hPc hyy hRx hpl hxx hxD hs h hnm hkd
   have HB := Lib.hid (show Bxs w [(w.heap.size, #[pv m, .int .i64 nx], 88), (w.heap.size + 1, #[.pointer none, .int .i64 0], 88)] ((w.alloc (.cells #[pv m, .int .i64 nx] 88)).alloc (.cells #[.pointer none, .int .i64 0] 88)) from Bxs.two w _ _ _ _)
   go_enter Tryz.func121, Tryz.ntmps121
   go_wp2_with fail
   generalize (w.alloc (.cells #[pv m, .int .i64 nx] 88)).alloc (.cells #[.pointer none, .int .i64 0] 88) = W0 at HB ⊢
   have b0 := HB.out.c2 0 rfl
   have b1 := HB.out.c2 1 rfl
   go_wp2_with fail
   refine (HPo.out W0 HB.out.below).mono ?_
   rintro e w1 ⟨hb, a, c, rfl, hE⟩
   have hbk := hb
   have HEn := Lib.hid (hE.below (below_one w1 (.cells #[.int .i64 dn, .int .i64 k, .int .i64 mo, .string d, .string t, .slice a es.length c, .string y] 178)))
   clear hE
   have HB := Lib.hid (HB.out.kept hbk)
   clear b0 b1
   clear hbk
   have HBp := HB
   have HB := Lib.hid (HB.out.more #[.int .i64 dn, .int .i64 k, .int .i64 mo, .string d, .string t, .slice a es.length c, .string y] 178 rfl)
   have b0 := HB.out.c2 0 rfl
   have b1 := HB.out.c2 1 rfl
   dsimp only
   go_wp2_with fail
   refine (HW.out (w1.alloc (.cells #[.int .i64 dn, .int .i64 k, .int .i64 mo, .string d, .string t, .slice a es.length c, .string y] 178)) a c HEn.out).mono ?_
   rintro e w2 ⟨a1, c1, rfl, hE1, hb⟩
   have hbk := hb
   have HE1 := Lib.hid (hE1.below (below_one w2 (.cells #[.int .i64 k1, .int .i64 m1, .string d1, .string t1, .slice a1 e1.length c1] 43)))
   clear hE1 HEn
   have HB := Lib.hid (HB.out.kept hbk)
   clear b0 b1
   clear hbk
   have HBp := HB
   have HB := Lib.hid (HB.out.more #[.int .i64 k1, .int .i64 m1, .string d1, .string t1, .slice a1 e1.length c1] 43 rfl)
   have b0 := HB.out.c2 0 rfl
   have b1 := HB.out.c2 1 rfl
   have b2 := HB.out.c7 2 rfl
   dsimp only
   go_wp2_with (first | (refine store_bx HB.out 1 rfl 88 _ _ rfl rfl #[.pointer none, .int .i64 0] rfl rfl (by kernel_rfl) rfl rfl (by decide) (by decide) ?_; intro w3 hS hK hbS hsS; have HBS := Lib.hid hS; clear hS hK hbS hsS; have HB := HBS; clear HBS; clear b0 b1 b2; have b0 := HB.out.c2 0 rfl; have b1 := HB.out.c2 1 rfl; have b2 := HB.out.c7 2 rfl; have b3 := HB.out.c5 3 rfl) | fail)
   refine bodyPost_ret_by (results_st rfl _ _ (w.heap.size + 1) _ _ rfl (HB.out.obj 1 rfl)) rfl ?_
   exact stated_err HR.out hc HB.out.below
end Go.Proofs.YthehblmjloohiaaGreatDoor

namespace Go.Proofs.YthehblmjloohiaaGreatDoor
set_option maxRecDepth 100000
open Go.RowKit Go.Less
attribute [local go_sem 9000] sem_eql sem_neq
set_option maxHeartbeats 1000000 in
theorem isFull_any (k mo : Int) (d t : ByteArray) (a : Option Addr) (n c : Nat) (w : World) (hn : n ≤ 1000000) : Calls Tryz.prog 127 #[nv k mo d t a n c] w fun e w' => e = .returned (.bool (decide ((64 : Int) ≤ (n : Int)))) ∧ Below w.heap.size w w' := by
 have hni : (n : Int) ≤ 1000000 := by omega
 go_enter Tryz.func127, Tryz.ntmps127
 go_wp2_with fail
 go_ret
 exact ⟨rfl, below_one _ _⟩
set_option maxHeartbeats 1000000 in
theorem isPath_any (p : ByteArray) (w : World) (hp : p.size ≤ 140737488355328) : Calls Tryz.prog 55 #[.string p] w fun e w' => e = .returned (.bool (spl p).isSome) ∧ Below w.heap.size w w' := by
 have HS := Lib.hid (fun W => split_any p W hp)
 have HR := Lib.hid (show (spl p).isSome = (Nm.split p.data.toList).isSome from by unfold spl; rw [Option.isSome_map])
 go_enter Tryz.func55, Tryz.ntmps55
 go_wp2_with fail
 refine (HS.out _).mono ?_
 rintro e w1 hX
 have HB := Lib.hid hX.below
 cases hsp : Nm.split p.data.toList with
 | none =>
  obtain rfl := hX.no hsp
  rw [hsp] at HR
  clear hX hsp
  dsimp only
  go_wp2_with fail
  go_ret
  rw [HR.out]
  exact ⟨rfl, HB.out⟩
 | some ns =>
  obtain ⟨ao, cap, rfl, hT⟩ := hX.yes ns hsp
  rw [hsp] at HR
  clear hX hsp hT
  dsimp only
  go_wp2_with fail
  go_ret
  rw [HR.out]
  exact ⟨rfl, HB.out⟩
def twoB (k : Int) : Bool := decide (k = 4) || decide (k = 7) || decide (k = 10)
set_option maxHeartbeats 1000000 in
theorem two_any (k : Int) (w : World) : Calls Tryz.prog 56 #[.int .i64 k] w fun e w' => e = .returned (.bool (twoB k)) ∧ Below w.heap.size w w' := by
 by_cases h4 : k = 4
 ·subst h4
  go_enter Tryz.func56, Tryz.ntmps56
  go_wp2_with fail
  go_ret
  exact ⟨rfl, Below.refl _ _⟩
 by_cases h7 : k = 7
 ·subst h7
  go_enter Tryz.func56, Tryz.ntmps56
  go_wp2_with fail
  go_ret
  exact ⟨rfl, Below.refl _ _⟩
 by_cases h10 : k = 10
 ·subst h10
  go_enter Tryz.func56, Tryz.ntmps56
  go_wp2_with fail
  go_ret
  exact ⟨rfl, Below.refl _ _⟩
 have HR := Lib.hid (show twoB k = false by unfold twoB; simp [h4, h7, h10])
 go_enter Tryz.func56, Tryz.ntmps56
 go_wp2_with fail
 go_ret
 rw [HR.out]
 refine ⟨?_, Below.refl _ _⟩
 show Ending.returned (.bool (k == 4 || k == 7 || k == 10)) = _
 simp [h4, h7, h10]
def inoR (s : ByteArray) : Int × Bool := if s.size = 4 then (vl s.data.toList, decide (1 ≤ vl s.data.toList) && decide (vl s.data.toList ≤ 2147483647)) else (0, false)
attribute [local go_sem 9000] sem_shlsv run_c32 run_c64
set_option maxHeartbeats 2000000 in
theorem inoOf_any (s : ByteArray) (w : World) : Calls Tryz.prog 105 #[.string s] w fun e w' => e = .returned (.tuple #[.int .i64 (inoR s).1, .bool (inoR s).2]) ∧ w' = w := by
 by_cases h4 : s.size = 4
 ·have HL := Lib.hid (show s.data.toList.length = 4 from Array.length_toList.trans h4)
  have HR := Lib.hid (show inoR s = (vl s.data.toList, decide (1 ≤ vl s.data.toList) && decide (vl s.data.toList ≤ 2147483647)) from if_pos h4)
  have hsz : s.size = 4 := h4
  have hsi : (s.size : Int) = 4 := by omega
  clear h4
  go_enter Tryz.func105, Tryz.ntmps105
  go_wp2_with fail
  go_loopw [4, 5, 11] (fun v _ i wr => (∃ z : Nat, z ≤ 4 ∧ i = .int .i64 z ∧ v = .int .u32 (sv s.data.toList z)) ∧ wr = w) (fun _ _ i _ => 4 - (intOf i).toNat)
  case atStart => exact ⟨⟨0, Nat.zero_le _, rfl, rfl⟩, rfl⟩
  case round =>
   obtain ⟨⟨z, hz, rfl, rfl⟩, rfl⟩ := hrel
   have z0i : (0 : Int) ≤ (z : Int) := by omega
   by_cases hz4 : z < 4
   ·have hz4i : (z : Int) < 4 := by omega
    have hzs : z < s.size := by omega
    have hor := or_sv s.data.toList z hz4 s[z] (by rw [HL.out]; exact hz4) (b_at s hzs)
    have hzd : z < s.data.size := hzs
    go_wp2_with fail
    go_roundw
    case rel => exact ⟨⟨z + 1, by omega, by go_num, by first | rfl | rw [hor]⟩, by first | rfl | trivial⟩
    case measure => simp [intOf]; omega
   ·obtain rfl : z = 4 := by omega
    have h0 : 0 ≤ sv s.data.toList 4 := vl_lo _
    have h1 := sv_top HL.out
    have HV := Lib.hid (show sv s.data.toList 4 = vl s.data.toList by unfold sv; rw [List.take_of_length_le (by rw [HL.out]; exact Nat.le_refl _)])
    rw [← HV.out] at HR
    generalize sv s.data.toList 4 = V at *
    by_cases hV : 1 ≤ V
    ·by_cases hW : V ≤ 2147483647
     ·have HR := Lib.hid (show inoR s = (V, true) by rw [HR.out, decide_eq_true hV, decide_eq_true hW]; rfl)
      go_wp2_with fail
      go_ret2
      rw [HR.out]
      exact ⟨rfl, rfl⟩
     ·have HR := Lib.hid (show inoR s = (V, false) by rw [HR.out, decide_eq_false hW, Bool.and_false])
      go_wp2_with fail
      go_ret2
      rw [HR.out]
      exact ⟨rfl, rfl⟩
    ·have HR := Lib.hid (show inoR s = (V, false) by rw [HR.out, decide_eq_false hV]; rfl)
     go_wp2_with fail
     go_ret2
     rw [HR.out]
     exact ⟨rfl, rfl⟩
 ·have HR := Lib.hid (show inoR s = (0, false) from if_neg h4)
  have hsi : ¬ (s.size : Int) = 4 := by omega
  clear h4
  go_enter Tryz.func105, Tryz.ntmps105
  go_wp2_with fail
  go_ret2
  rw [HR.out]
  exact ⟨rfl, rfl⟩
end Go.Proofs.YthehblmjloohiaaGreatDoor

namespace Go.Proofs.YthehblmjloohiaaGreatDoor
set_option maxRecDepth 100000
open Go.RowKit Go.Less
open T8 (pv Dg Rp keysOf mkeys_any Keyed)
attribute [local go_sem 9000] sem_eql sem_neq
theorem ino_key {i : Int} (h : 1 ≤ i ∧ i ≤ 2147483647) : inoR (Fs.key i) = (i, true) := by
 unfold inoR
 rw [if_pos (Fs.key_size i)]
 have e : vl (Fs.key i).data.toList = i := by
  show ((Nd.val (Nd.n4 i.toNat) : Nat) : Int) = i
  rw [← Nd.v4_val rfl, Nd.v4_n4 (by omega)]; omega
 rw [e, decide_eq_true h.1, decide_eq_true h.2]; rfl
theorem info3 : (Tryz.prog.info? 3).map (fun i => (i.zero, i.size, i.bytes)) = some (some (.int .i64 0), 1, 8) := by kernel_rfl
theorem run_make67 (n : Nat) (hn : n ≤ 1000000) (w : World) : (Instr.makeSlice 67 (.int .i64 0) (.int .i64 (n : Int))).run Tryz.prog w = .ok (.slice (some ⟨w.heap.size, 0, none⟩) 0 n) (w.alloc (.cells (madeCells #[.int .i64 0] n) 3)) := by
 obtain ⟨i0, hi, hz0, hz1, hz2⟩ := info_parts info3
 have h := run_make (P := Tryz.prog) w 67 3 i0 _ Tryz.underlying67 hi hz0 .i64 .i64 0 (n : Int) (by omega) (by omega) (by rw [hz2]; omega) (by omega)
 rw [hz1, Nat.mul_one, Int.toNat_natCast] at h
 exact h
abbrev Irow (base : Nat) (v : Value) (l : List Int) (w : World) : Prop := w.ownsRow base 3 1 v l.length (l.map fun i => .int .i64 i)
theorem at_int {ops : Array Oper} {rest : List Oper} {o : Oper} {a : Act} {Q : Exit → Act → World → Prop} {w : World} (hgd : o.guard = none) (s x : Operand)
  (ho : o.op = .call { callee := .builtin .append, args := #[s, x], argTypes := #[67, 67] })
  (base : Nat) (v : Value) (l : List Int) (hs : a.eval s = v) (hown : Irow base v l w)
  (b : Nat) (u : Int) (hx : a.eval x = .slice (some ⟨b, 0, none⟩) 1 1) (hc : w.cell? ⟨b, 0, none⟩ = some (.int .i64 u)) (hn : l.length ≤ 1000000) (hbase : base ≤ w.heap.size)
  (h : ∀ ao' cap' w', Irow base (.slice ao' (l.length + 1) cap') (l ++ [u]) w' → w.grownBy w' v.ownBlock → wpList Tryz.prog ops Q rest (a.put o.dst (.slice ao' (l.length + 1) cap')) w') :
  wpList Tryz.prog ops Q (o :: rest) a w := by
 obtain ⟨i0, hi, hz0, hz1, hz2⟩ := info_parts info3
 refine wpList_append_own w hgd s x 67 ho base 3 i0 (.int .i64 0) 1 8 Tryz.underlying67 hi hz0 hz1 hz2 rfl (by decide) v l.length _ hs hown ⟨b, 0, none⟩ 1 1 [.int .i64 u] hx rfl ?_ ?_ (by unfold maxLen; omega) (by omega) hbase ?_
 ·intro j y hj
  match j with
  | 0 => simp at hj; subst hj; simpa [Addr.add] using hc
  | j + 1 => simp at hj
 ·intro y hy; simp at hy; subst hy; rfl
 ·intro v' w' hown' hg _
  obtain ⟨ao', cap', rfl⟩ := owns_form hown'
  refine h ao' cap' w' ?_ hg
  unfold Irow
  rw [List.length_append, List.map_append]
  exact hown'
theorem irow_mono {b b' : Nat} {v : Value} {l : List Int} {w : World} (h : Irow b v l w) (hb : b' ≤ b) : Irow b' v l w := by
 refine ⟨h.1, ?_⟩
 rcases h.2 with h1 | ⟨g, cap, cur, e, h2, r⟩
 ·exact .inl h1
 ·exact .inr ⟨g, cap, cur, e, Nat.le_trans hb h2, r⟩
def inosL (l : List Fs.Item) : List Int := l.map (·.1)
def Numbered (l : List Int) (w : World) (e : Ending) (w' : World) : Prop := ∃ ao cap, e = .returned (.slice ao l.length cap) ∧ Irow w.heap.size (.slice ao l.length cap) l w' ∧ Below w.heap.size w w'
theorem keys_at {l : List Fs.Item} {j : Nat} {y : Fs.Item} (h : l[j]? = some y) : (keysOf (Fs.kv l)).getD j ByteArray.empty = Fs.key y.1 := by
 have e : keysOf (Fs.kv l) = l.map fun y => Fs.key y.1 := Fs.kv_keys l
 rw [e, List.getD, List.getElem?_map, h]; rfl
theorem inos_more {l : List Fs.Item} {j : Nat} {y : Fs.Item} (h : l[j]? = some y) : inosL (l.take (j + 1)) = inosL (l.take j) ++ [y.1] := by
 unfold inosL; rw [take_succ_some h, List.map_append]; rfl
theorem irow_start (w : World) (n : Nat) (hn : n ≤ 1000000) : Irow w.heap.size (.slice (some ⟨w.heap.size, 0, none⟩) 0 n) [] (w.alloc (.cells (madeCells #[.int .i64 0] n) 3)) :=
 World.ownsRow_made (e := 3) (size := 1) (base := w.heap.size) w (madeCells #[.int .i64 0] n) n (by simp) (by unfold maxLen; omega) (by rw [size_madeCells]; omega)
set_option maxHeartbeats 8000000 in
theorem inos_any (m : Option Nat) (nx : Int) (l : List Fs.Item) (w : World) (h : Sv w m l) : Calls Tryz.prog 73 #[stv m nx] w (Numbered (inosL l) w) := by
 have hl : l.length ≤ 1000 := h.ok.few
 have hlen : (keysOf (Fs.kv l)).length = l.length := by unfold keysOf; rw [List.length_map, Fs.kv_len]
 have HKy := Lib.hid (fun W (hb : Below w.heap.size w W) => mkeys_any (h.rp.below hb) (by rw [Fs.kv_len]; omega))
 have HPo := Lib.hid h.ok.pos
 have HB := Lib.hid (Bxs.one w #[pv m, .int .i64 nx] 88)
 clear h
 go_enter Tryz.func73, Tryz.ntmps73
 go_wp2_with fail
 refine (HKy.out _ HB.out.below).mono ?_
 rintro e w1 ⟨ao, cap, rfl, hrow, hb⟩
 rw [hlen] at hrow ⊢
 have hS : Strs ao l.length (keysOf (Fs.kv l)) w1 := by
  have hT : Trow (w.alloc (.cells #[pv m, .int .i64 nx] 88)).heap.size (.slice ao l.length cap) ((keysOf (Fs.kv l)).map fun b => b.data.toList) w1 := by
   unfold Trow
   rw [List.length_map, hlen, List.map_map]
   exact hrow
  have := trow_strs hT (by rw [List.length_map, hlen])
  rwa [List.map_map, show (lstr ∘ fun b : ByteArray => b.data.toList) = id from rfl, List.map_id] at this
 have HS := Lib.hid (fun W (hb : Below w1.heap.size w1 W) => hS.below hb)
 have HB1 := Lib.hid (HB.out.below.trans (hb.mono HB.out.below.size))
 have hmk := run_make67 l.length (by omega) w1
 have HR0 := Lib.hid (irow_start w1 l.length (by omega))
 have HBa := Lib.hid (below_one w1 (.cells (madeCells #[.int .i64 0] l.length) 3))
 obtain ⟨n, hn⟩ : ∃ n, n = l.length := ⟨_, rfl⟩
 have HN := Lib.hid hn
 rw [← hn] at hmk HR0 HBa hl HS ⊢
 have hni : (n : Int) ≤ 1000 := by omega
 clear hrow hS hb HB HKy hlen hn
 dsimp only
 go_wp2_with fail
 generalize w1.alloc (.cells (madeCells #[.int .i64 0] n) 3) = W2 at HR0 HBa ⊢
 go_loopw [4, 6, 7, 8, 17] (fun x4 _ _ _ x17 wr => ∃ (j : Nat) (a4 : Option Addr) (c4 : Nat), j ≤ n ∧ x17 = .int .i64 j ∧ x4 = .slice a4 j c4 ∧ Irow w1.heap.size (.slice a4 j c4) (inosL (l.take j)) wr ∧ Below w1.heap.size w1 wr) (fun _ _ _ _ x17 _ => n - (intOf x17).toNat)
 case atStart => exact ⟨0, _, _, Nat.zero_le _, rfl, rfl, HR0.out, HBa.out⟩
 case round =>
  clear HR0 HBa hmk
  obtain ⟨j, a4, c4, hj, rfl, rfl, hR, hW1⟩ := hrel
  by_cases hlt : j < n
  ·have j0 : (j : Int) < (n : Int) := by omega
   have hj0 : (0 : Int) ≤ (j : Int) := by omega
   have hjl : j < l.length := by rw [← HN.out]; exact hlt
   obtain ⟨y, hy⟩ : ∃ y, l[j]? = some y := ⟨_, List.getElem?_eq_getElem hjl⟩
   obtain ⟨b1, o1, rfl, nc⟩ := (HS.out wr hW1).cell j hlt
   rw [keys_at hy] at nc
   have HI := Lib.hid (fun W => inoOf_any (Fs.key y.1) W)
   rw [ino_key (HPo.out y (List.mem_of_getElem? hy))] at HI
   have HM := Lib.hid (inos_more hy)
   have HRo := Lib.hid hR
   have HW1 := Lib.hid hW1
   have hlen9 : (inosL (l.take j)).length = j := by unfold inosL; rw [List.length_map, List.length_take]; omega
   have HL9 := Lib.hid hlen9
   generalize Fs.key y.1 = ky at *
   clear hR hW1 hy hlen9
   go_wp2_with fail
   refine (HI.out wr).mono ?_
   rintro e w' ⟨rfl, rfl⟩
   dsimp only
   have HOa := Lib.hid (owned_below HRo.out (below_one w' (.cells #[.int .i64 y.1] 3)))
   have hcz : (w'.alloc (.cells #[.int .i64 y.1] 3)).cell? ⟨w'.heap.size, 0, none⟩ = some (.int .i64 y.1) := World.cell?_alloc_new _ _ _ _
   have hsz9 : w1.heap.size ≤ (w'.alloc (.cells #[.int .i64 y.1] 3)).heap.size := by have := HW1.out.size; rw [size1]; omega
   go_wp2_with (first | (refine at_int rfl _ _ rfl w1.heap.size _ (inosL (l.take j)) (by rfl) HOa.out w'.heap.size y.1 (by rfl) hcz (by rw [HL9.out]; omega) hsz9 ?_; intro ao5 cap5 w5 hown5 hgrow5; have HO5 := Lib.hid (show Irow w1.heap.size (.slice ao5 (j + 1) cap5) (inosL (l.take j) ++ [y.1]) w5 from by have := hown5; rw [HL9.out] at this; exact this); have HB5 := Lib.hid ((HW1.out.trans ((below_one w' (.cells #[.int .i64 y.1] 3)).mono HW1.out.size)).grown hgrow5 (Nat.le_trans HW1.out.size (by rw [size1]; omega)) (fun k hk => (World.ownsRow.lt HOa.out k hk).1)); clear hown5 hgrow5) | fail)
   go_roundw
   case rel => exact ⟨j + 1, ao5, cap5, by omega, by go_num, by rw [HL9.out], by rw [HM.out]; exact HO5.out, HB5.out⟩
   case measure => simp [intOf]; omega
  ·obtain rfl : j = n := by omega
   have HRo := Lib.hid hR
   have HW1 := Lib.hid hW1
   clear hR hW1
   go_wp2_with fail
   go_ret
   have hR : Irow w1.heap.size (.slice a4 j c4) (inosL l) wr := by have := HRo.out; rwa [List.take_of_length_le (by rw [HN.out]; exact Nat.le_refl _)] at this
   have hlen9 : (inosL l).length = j := by unfold inosL; rw [List.length_map, ← HN.out]
   refine ⟨a4, c4, by rw [hlen9]; rfl, ?_, HB1.out.trans (HW1.out.mono HB1.out.size)⟩
   rw [hlen9]
   exact irow_mono hR HB1.out.size
end Go.Proofs.YthehblmjloohiaaGreatDoor
