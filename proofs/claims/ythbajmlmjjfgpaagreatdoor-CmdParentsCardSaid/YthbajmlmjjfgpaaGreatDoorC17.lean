/- A part of the proofs. -/
import Derived.Test.YthbajmlmjjfgpaaGreatDoorC16
set_option maxRecDepth 1000000
set_option maxHeartbeats 16000000
open Go.Lib (hid)
open Go.Proofs.Tryz
namespace Go.Proofs.YthbajmlmjjfgpaaGreatDoor
open Go.RowKit Go.Less
open T8 (pv Dg Mapped mput_any mdel_any)
attribute [local go_sem 9000] sem_eql sem_neq
theorem spl_some {p : ByteArray} {ns : List ByteArray} (h : spl p = some ns) : ∃ us, Nm.split p.data.toList = some us /\ ns = us.map lstr := by
 unfold spl at h
 cases hq : Nm.split p.data.toList with
 | none => rw [hq] at h; cases h
 | some us => rw [hq] at h; injection h with h; exact ⟨us, rfl, h.symm⟩
theorem spl_path {us : List (List UInt8)} (h8 : us.length <= 8) (hr : us.all Nm.right = true) : spl (lstr (Nm.pathOf us)) = some (us.map lstr) := by
 unfold spl
 rw [show (lstr (Nm.pathOf us)).data.toList = Nm.pathOf us from rfl, Nm.path_split h8 hr]; rfl
theorem path_size {us : List (List UInt8)} (h8 : us.length <= 8) (hr : us.all Nm.right = true) : (lstr (Nm.pathOf us)).size <= 100000 := by
 rw [lstr_size, path_betw, List.length_cons]
 have := betw_len h8 hr
 omega
theorem place_nz {l : List Fs.Item} {ns : List ByteArray} {e : Int} (h : Fs.place l ns = .error e) : e ≠ 0 := by
 rcases place_code l ns with ⟨r, hp⟩ | hp | hp | hp
 ·rw [hp] at h; cases h
 all_goals (rw [hp] at h; injection h with h; omega)
theorem plced_err {l : List Fs.Item} {ns : List ByteArray} {e : Int} (h : Fs.place l ns = .error e) {w W : World} (hb : Below w.heap.size w W) :
  Plced (Fs.place l ns) l w (.returned (.tuple #[.agg #[.int .i64 0, .int .i64 0, .int .i64 0, .string ⟨#[]⟩, .string ⟨#[]⟩, .slice none 0 0, .string ⟨#[]⟩], .int .i64 e])) W := by
 refine ⟨hb, ?_⟩
 rw [h]
 exact ⟨place_nz h, rfl⟩
theorem pPlace_any (m : Option Nat) (nx : Int) (l : List Fs.Item) (p : ByteArray) (ns : List ByteArray) (w : World) (h : Sv w m l) (hp : p.size <= 140737488355328) (hs : spl p = some ns) : Calls prog 158 #[stv m nx, .string p] w (Plced (Fs.place l ns) l w) := by
 obtain ⟨us, hus, rfl⟩ := spl_some hs
 obtain ⟨h8, hr⟩ := split_shape hus
 have HPa := hid (λW => parent_any p W hp)
 rcases Gr.snoc_cases (us.map lstr) with hnil | ⟨_, _, hsn⟩
 ·have hu0 : us = [] := by simpa using hnil
  subst hu0
  have hPR : parentR p.data.toList = ([], [], 17) := by unfold parentR; rw [hus]; rfl
  have HPo := hid (show ∀ W, Calls prog 188 #[.string p] W λe w' => e = .returned (.tuple #[.string ⟨#[]⟩, .string ⟨#[]⟩, .int .i64 17]) /\ Below W.heap.size W w' from λW => (HPa.out W).mono λe w' hx => by unfold ParentPost at hx; rw [hPR] at hx; exact hx)
  have HR := hid (show Fs.place l (List.map lstr []) = .error 5 from rfl)
  clear h hPR HPa hus hs hr h8 hnil
  have HB := hid (show Bxs w [(w.heap.size, #[pv m, .int .i64 nx], 108), (w.heap.size + 1, #[.int .i64 0, .int .i64 0, .int .i64 0, .string ⟨#[]⟩, .string ⟨#[]⟩, .slice none 0 0, .string ⟨#[]⟩], 216)] ((w.alloc (.cells #[pv m, .int .i64 nx] 108)).alloc (.cells #[.int .i64 0, .int .i64 0, .int .i64 0, .string ⟨#[]⟩, .string ⟨#[]⟩, .slice none 0 0, .string ⟨#[]⟩] 216)) from Bxs.two w _ _ _ _)
  go_enter func158, ntmps158
  go_wp2_with fail
  generalize (w.alloc (.cells #[pv m, .int .i64 nx] 108)).alloc (.cells #[.int .i64 0, .int .i64 0, .int .i64 0, .string ⟨#[]⟩, .string ⟨#[]⟩, .slice none 0 0, .string ⟨#[]⟩] 216) = W0 at HB |-
  go_wp2_with fail
  refine (HPo.out W0).mono ?_
  rintro e w1 ⟨rfl, hb⟩
  have hbk := hb
  have HB := hid (HB.out.kept hbk)
  clear hbk
  dsimp only
  go_wp2_with (first | (refine store_bx HB.out 1 rfl 216 _ _ rfl rfl #[.int .i64 0, .int .i64 0, .int .i64 0, .string ⟨#[]⟩, .string ⟨#[]⟩, .slice none 0 0, .string ⟨#[]⟩] rfl rfl (by kernel_rfl) rfl rfl (by decide) (by decide) ?_; intro w2 hS hK hbS hsS; have HBS := hid hS; clear hS hK hbS hsS; have HB := HBS; clear HBS) | fail)
  refine bodyPost_ret_by (results_pl rfl _ _ (w.heap.size + 1) _ _ _ _ _ _ _ rfl (HB.out.obj 1 rfl)) rfl ?_
  exact plced_err HR.out HB.out.below
 ·rcases List.eq_nil_or_concat us with rfl | ⟨vs, x, rfl⟩
  ·simp at hsn
  clear hsn
  rw [List.concat_eq_append] at *
  have hPR : parentR p.data.toList = (Nm.pathOf vs, x, 0) := by
   unfold parentR
   rw [hus]
   show (if _ then _ else _) = _
   rw [if_neg (by simp), List.dropLast_concat, List.getLastD_concat]
  have HPo := hid (show ∀ W, Calls prog 188 #[.string p] W λe w' => e = .returned (.tuple #[.string (lstr (Nm.pathOf vs)), .string (lstr x), .int .i64 0]) /\ Below W.heap.size W w' from λW => (HPa.out W).mono λe w' hx => by unfold ParentPost at hx; rw [hPR] at hx; exact hx)
  have hv8 : vs.length <= 8 := by rw [List.length_append] at h8; omega
  have hvr : vs.all Nm.right = true := by rw [List.all_append, Bool.and_eq_true] at hr; exact hr.1
  have HFi := hid (λW (hb : Below w.heap.size w W) => pFind_any m nx l (lstr (Nm.pathOf vs)) W (h.below hb) (Nat.le_trans (path_size hv8 hvr) (by decide)))
  have hsp := spl_path hv8 hvr
  have HPl := hid (show Fs.place l ((vs ++ [x]).map lstr) = match Fs.walk l 1 (vs.map lstr) with
   | .error e => .error e
   | .ok d => if (Fs.nodeD l d).kind ≠ 2 then .error 10 else .ok (d, lstr x) by rw [List.map_append]; exact Fs.place_snoc l _ _)
  rw [show Fs.place l ((vs ++ [x]).map lstr) = Fs.place l ((vs ++ [x]).map lstr) from rfl]
  generalize lstr (Nm.pathOf vs) = pp at *
  generalize (vs ++ [x]).map lstr = nn at *
  generalize lstr x = y at *
  generalize vs.map lstr = vv at *
  clear h hPR HPa hus hs hr h8 hv8 hvr
  rcases find_cases hsp with ⟨ec, hne, hw, hf⟩ | ⟨i, hw, hf⟩
  ·have HR := hid (show Fs.place l nn = .error ec by rw [HPl.out, hw])
   have HF := hid (show ∀ W, Below w.heap.size w W -> Calls prog 134 #[stv m nx, .string pp] W (Foundy (0, Nd.none0, ec) W) from λW hb => hf ▸ HFi.out W hb)
   clear HFi hf hw HPl hsp
   have HB := hid (show Bxs w [(w.heap.size, #[pv m, .int .i64 nx], 108), (w.heap.size + 1, #[.int .i64 0, .int .i64 0, .int .i64 0, .string ⟨#[]⟩, .string ⟨#[]⟩, .slice none 0 0, .string ⟨#[]⟩], 216)] ((w.alloc (.cells #[pv m, .int .i64 nx] 108)).alloc (.cells #[.int .i64 0, .int .i64 0, .int .i64 0, .string ⟨#[]⟩, .string ⟨#[]⟩, .slice none 0 0, .string ⟨#[]⟩] 216)) from Bxs.two w _ _ _ _)
   go_enter func158, ntmps158
   go_wp2_with fail
   generalize (w.alloc (.cells #[pv m, .int .i64 nx] 108)).alloc (.cells #[.int .i64 0, .int .i64 0, .int .i64 0, .string ⟨#[]⟩, .string ⟨#[]⟩, .slice none 0 0, .string ⟨#[]⟩] 216) = W0 at HB |-
   go_wp2_with fail
   refine (HPo.out W0).mono ?_
   rintro e w1 ⟨rfl, hb⟩
   have hbk := hb
   have HB := hid (HB.out.kept hbk)
   clear hbk
   have b0 := HB.out.c2 0 rfl
   dsimp only
   go_wp2_with fail
   refine (HF.out w1 HB.out.below).mono ?_
   rintro e w2 ⟨ea, eb, rfl, hE, hb⟩
   have hbk := hb
   clear hE
   have HB := hid (HB.out.kept hbk)
   clear b0
   clear hbk
   have HB := hid (HB.out.more #[.int .i64 0, .int .i64 0, .string ⟨#[]⟩, .string ⟨#[]⟩, .slice ea 0 eb] 67 rfl)
   dsimp only
   go_wp2_with (first | (refine store_bx HB.out 1 rfl 216 _ _ rfl rfl #[.int .i64 0, .int .i64 0, .int .i64 0, .string ⟨#[]⟩, .string ⟨#[]⟩, .slice none 0 0, .string ⟨#[]⟩] rfl rfl (by kernel_rfl) rfl rfl (by decide) (by decide) ?_; intro w3 hS hK hbS hsS; have HBS := hid hS; clear hS hK hbS hsS; have HB := HBS; clear HBS) | fail)
   refine bodyPost_ret_by (results_pl rfl _ _ (w.heap.size + 1) _ _ _ _ _ _ _ rfl (HB.out.obj 1 rfl)) rfl ?_
   exact plced_err HR.out HB.out.below
  ·by_cases hk2 : (Fs.nodeD l i).kind = 2
   ·have HR := hid (show Fs.place l nn = .ok (i, y) by rw [HPl.out, hw]; simp [hk2])
    have HF := hid (show ∀ W, Below w.heap.size w W -> Calls prog 134 #[stv m nx, .string pp] W (Foundy (i, Fs.nodeD l i, 0) W) from λW hb => hf ▸ HFi.out W hb)
    clear HFi hf hw HPl hsp
    obtain ⟨xx, hxx⟩ : ∃ xx, Fs.nodeD l i = xx := ⟨_, rfl⟩
    rw [hxx] at hk2 HF
    have HX := hid hxx
    clear hxx
    obtain ⟨k, mo, d, t, es⟩ := xx
    dsimp only at hk2
    subst hk2
    have HB := hid (show Bxs w [(w.heap.size, #[pv m, .int .i64 nx], 108), (w.heap.size + 1, #[.int .i64 0, .int .i64 0, .int .i64 0, .string ⟨#[]⟩, .string ⟨#[]⟩, .slice none 0 0, .string ⟨#[]⟩], 216)] ((w.alloc (.cells #[pv m, .int .i64 nx] 108)).alloc (.cells #[.int .i64 0, .int .i64 0, .int .i64 0, .string ⟨#[]⟩, .string ⟨#[]⟩, .slice none 0 0, .string ⟨#[]⟩] 216)) from Bxs.two w _ _ _ _)
    go_enter func158, ntmps158
    go_wp2_with fail
    generalize (w.alloc (.cells #[pv m, .int .i64 nx] 108)).alloc (.cells #[.int .i64 0, .int .i64 0, .int .i64 0, .string ⟨#[]⟩, .string ⟨#[]⟩, .slice none 0 0, .string ⟨#[]⟩] 216) = W0 at HB |-
    go_wp2_with fail
    refine (HPo.out W0).mono ?_
    rintro e w1 ⟨rfl, hb⟩
    have hbk := hb
    have HB := hid (HB.out.kept hbk)
    clear hbk
    have b0 := HB.out.c2 0 rfl
    dsimp only
    go_wp2_with fail
    refine (HF.out w1 HB.out.below).mono ?_
    rintro e w2 ⟨a, c, rfl, hE, hb⟩
    have hbk := hb
    have HEn := hid (hE.below (below_one w2 (.cells #[.int .i64 2, .int .i64 mo, .string d, .string t, .slice a es.length c] 67)))
    clear hE
    have HB := hid (HB.out.kept hbk)
    clear b0
    clear hbk
    have HB := hid (HB.out.more #[.int .i64 2, .int .i64 mo, .string d, .string t, .slice a es.length c] 67 rfl)
    dsimp only
    go_wp2_with (first | (refine store_bx HB.out 1 rfl 216 _ _ rfl rfl #[.int .i64 i, .int .i64 2, .int .i64 mo, .string d, .string t, .slice a es.length c, .string y] rfl rfl (by kernel_rfl) rfl rfl (by decide) (by decide) ?_; intro w3 hS hK hbS hsS; have HBS := hid hS; have HEn := hid (hK.ents (HB.out.obj 1 rfl) (noEnt178 _ _ _ _ _ _ _ _ _) HEn.out); clear hS hK hbS hsS; have HB := HBS; clear HBS) | fail)
    refine bodyPost_ret_by (results_pl rfl _ _ (w.heap.size + 1) _ _ _ _ _ _ _ rfl (HB.out.obj 1 rfl)) rfl ?_
    exact ⟨HB.out.below, by rw [HR.out]; simp only [HX.out]; exact ⟨a, c, rfl, HEn.out⟩⟩
   ·have HR := hid (show Fs.place l nn = .error 10 by rw [HPl.out, hw]; simp [hk2])
    have HF := hid (show ∀ W, Below w.heap.size w W -> Calls prog 134 #[stv m nx, .string pp] W (Foundy (i, Fs.nodeD l i, 0) W) from λW hb => hf ▸ HFi.out W hb)
    clear HFi hf hw HPl hsp
    obtain ⟨xx, hxx⟩ : ∃ xx, Fs.nodeD l i = xx := ⟨_, rfl⟩
    rw [hxx] at hk2 HF
    have HX := hid hxx
    clear hxx
    obtain ⟨k, mo, d, t, es⟩ := xx
    dsimp only at hk2
    have HB := hid (show Bxs w [(w.heap.size, #[pv m, .int .i64 nx], 108), (w.heap.size + 1, #[.int .i64 0, .int .i64 0, .int .i64 0, .string ⟨#[]⟩, .string ⟨#[]⟩, .slice none 0 0, .string ⟨#[]⟩], 216)] ((w.alloc (.cells #[pv m, .int .i64 nx] 108)).alloc (.cells #[.int .i64 0, .int .i64 0, .int .i64 0, .string ⟨#[]⟩, .string ⟨#[]⟩, .slice none 0 0, .string ⟨#[]⟩] 216)) from Bxs.two w _ _ _ _)
    go_enter func158, ntmps158
    go_wp2_with fail
    generalize (w.alloc (.cells #[pv m, .int .i64 nx] 108)).alloc (.cells #[.int .i64 0, .int .i64 0, .int .i64 0, .string ⟨#[]⟩, .string ⟨#[]⟩, .slice none 0 0, .string ⟨#[]⟩] 216) = W0 at HB |-
    go_wp2_with fail
    refine (HPo.out W0).mono ?_
    rintro e w1 ⟨rfl, hb⟩
    have hbk := hb
    have HB := hid (HB.out.kept hbk)
    clear hbk
    have b0 := HB.out.c2 0 rfl
    dsimp only
    go_wp2_with fail
    refine (HF.out w1 HB.out.below).mono ?_
    rintro e w2 ⟨a, c, rfl, hE, hb⟩
    have hbk := hb
    clear hE
    have HB := hid (HB.out.kept hbk)
    clear b0
    clear hbk
    have HB := hid (HB.out.more #[.int .i64 k, .int .i64 mo, .string d, .string t, .slice a es.length c] 67 rfl)
    dsimp only
    go_wp2_with (first | (refine store_bx HB.out 1 rfl 216 _ _ rfl rfl #[.int .i64 0, .int .i64 0, .int .i64 0, .string ⟨#[]⟩, .string ⟨#[]⟩, .slice none 0 0, .string ⟨#[]⟩] rfl rfl (by kernel_rfl) rfl rfl (by decide) (by decide) ?_; intro w3 hS hK hbS hsS; have HBS := hid hS; clear hS hK hbS hsS; have HB := HBS; clear HBS) | fail)
    refine bodyPost_ret_by (results_pl rfl _ _ (w.heap.size + 1) _ _ _ _ _ _ _ rfl (HB.out.obj 1 rfl)) rfl ?_
    exact plced_err HR.out HB.out.below
theorem fresh_nz {l : List Fs.Item} {ns : List ByteArray} {e : Int} (h : Fs.fresh l ns = .error e) : e ≠ 0 := by
 unfold Fs.fresh at h
 cases hp : Fs.place l ns with
 | error e' => rw [hp] at h; injection h with h; rw [<- h]; exact place_nz hp
 | ok r =>
  rw [hp] at h
  simp only at h
  split at h
  ·injection h with h; omega
  ·cases h
theorem gapped_err {l : List Fs.Item} {ns : List ByteArray} {e : Int} (h : Fs.fresh l ns = .error e) {w W : World} (hb : Below w.heap.size w W) :
  Plced (Fs.fresh l ns) l w (.returned (.tuple #[.agg #[.int .i64 0, .int .i64 0, .int .i64 0, .string ⟨#[]⟩, .string ⟨#[]⟩, .slice none 0 0, .string ⟨#[]⟩], .int .i64 e])) W := by
 refine ⟨hb, ?_⟩
 rw [h]
 exact ⟨fresh_nz h, rfl⟩
theorem pGap_any (m : Option Nat) (nx : Int) (l : List Fs.Item) (p : ByteArray) (ns : List ByteArray) (w : World) (h : Sv w m l) (hp : p.size <= 140737488355328) (hs : spl p = some ns) : Calls prog 157 #[stv m nx, .string p] w (Plced (Fs.fresh l ns) l w) := by
 have HPl := hid (λW (hb : Below w.heap.size w W) => pPlace_any m nx l p ns W (h.below hb) hp hs)
 have HSm := hid h.ok.small
 clear h
 have hfr : Fs.fresh l ns = match Fs.place l ns with
  | .error e => .error e
  | .ok (d, n) => if (Nd.find (Fs.nodeD l d).ents n).isSome = true then .error 5 else .ok (d, n) := rfl
 cases hpl : Fs.place l ns with
 | error ec =>
  rw [hpl] at HPl hfr
  have HR := hid hfr
  clear hfr hpl hs
  have HB := hid (show Bxs w [(w.heap.size, #[pv m, .int .i64 nx], 108), (w.heap.size + 1, #[.int .i64 0, .int .i64 0, .int .i64 0, .string ⟨#[]⟩, .string ⟨#[]⟩, .slice none 0 0, .string ⟨#[]⟩], 216)] ((w.alloc (.cells #[pv m, .int .i64 nx] 108)).alloc (.cells #[.int .i64 0, .int .i64 0, .int .i64 0, .string ⟨#[]⟩, .string ⟨#[]⟩, .slice none 0 0, .string ⟨#[]⟩] 216)) from Bxs.two w _ _ _ _)
  go_enter func157, ntmps157
  go_wp2_with fail
  generalize (w.alloc (.cells #[pv m, .int .i64 nx] 108)).alloc (.cells #[.int .i64 0, .int .i64 0, .int .i64 0, .string ⟨#[]⟩, .string ⟨#[]⟩, .slice none 0 0, .string ⟨#[]⟩] 216) = W0 at HB |-
  go_wp2_with fail
  refine (HPl.out W0 HB.out.below).mono ?_
  rintro e w1 ⟨hb, _, rfl⟩
  have hbk := hb
  have HB := hid (HB.out.kept hbk)
  clear hbk
  have HB := hid (HB.out.more #[.int .i64 0, .int .i64 0, .int .i64 0, .string ⟨#[]⟩, .string ⟨#[]⟩, .slice none 0 0, .string ⟨#[]⟩] 216 rfl)
  dsimp only
  go_wp2_with (first | (refine store_bx HB.out 1 rfl 216 _ _ rfl rfl #[.int .i64 0, .int .i64 0, .int .i64 0, .string ⟨#[]⟩, .string ⟨#[]⟩, .slice none 0 0, .string ⟨#[]⟩] rfl rfl (by kernel_rfl) rfl rfl (by decide) (by decide) ?_; intro w2 hS hK hbS hsS; have HBS := hid hS; clear hS hK hbS hsS; have HB := HBS; clear HBS) | fail)
  refine bodyPost_ret_by (results_pl rfl _ _ (w.heap.size + 1) _ _ _ _ _ _ _ rfl (HB.out.obj 1 rfl)) rfl ?_
  exact gapped_err HR.out HB.out.below
 | ok r =>
  obtain ⟨dn, y⟩ := r
  rw [hpl] at HPl hfr
  have HR := hid (show Fs.fresh l ns = if (Nd.find (Fs.nodeD l dn).ents y).isSome = true then .error 5 else .ok (dn, y) from hfr)
  have HFi := hid (HSm.out dn)
  clear hfr hpl hs
  obtain ⟨xx, hxx⟩ : ∃ xx, Fs.nodeD l dn = xx := ⟨_, rfl⟩
  have HX := hid hxx
  obtain ⟨k, mo, d, t, es⟩ := xx
  have HPo := hid (show ∀ W, Below w.heap.size w W -> Calls prog 158 #[stv m nx, .string p] W λe w' => Below W.heap.size W w' /\ ∃ a c, e = .returned (.tuple #[.agg #[.int .i64 dn, .int .i64 k, .int .i64 mo, .string d, .string t, .slice a es.length c, .string y], .int .i64 0]) /\ Ents a es.length es w' from λW hb => (HPl.out W hb).mono λe w' hx => by
   obtain ⟨hx1, hx2⟩ := hx
   simp only [hxx] at hx2
   exact ⟨hx1, hx2⟩)
  have HFd := hid (λW a c (h : Ents a es.length es W) => find_any k mo d t a es.length c es y W h (Nat.le_trans (by have := HFi.out; rw [hxx] at this; exact this) (by decide)))
  unfold Found at HFd
  rw [hxx] at HR
  clear HPl hxx HFi
  dsimp only at HR
  cases hf : Nd.find es y with
  | some k2 =>
   rw [hf] at HFd HR
   have HR := hid (show Fs.fresh l ns = .error 5 from HR.out)
   dsimp only [Option.getD, Option.isSome] at HFd
   clear hf
   have HB := hid (show Bxs w [(w.heap.size, #[pv m, .int .i64 nx], 108), (w.heap.size + 1, #[.int .i64 0, .int .i64 0, .int .i64 0, .string ⟨#[]⟩, .string ⟨#[]⟩, .slice none 0 0, .string ⟨#[]⟩], 216)] ((w.alloc (.cells #[pv m, .int .i64 nx] 108)).alloc (.cells #[.int .i64 0, .int .i64 0, .int .i64 0, .string ⟨#[]⟩, .string ⟨#[]⟩, .slice none 0 0, .string ⟨#[]⟩] 216)) from Bxs.two w _ _ _ _)
   go_enter func157, ntmps157
   go_wp2_with fail
   generalize (w.alloc (.cells #[pv m, .int .i64 nx] 108)).alloc (.cells #[.int .i64 0, .int .i64 0, .int .i64 0, .string ⟨#[]⟩, .string ⟨#[]⟩, .slice none 0 0, .string ⟨#[]⟩] 216) = W0 at HB |-
   go_wp2_with fail
   refine (HPo.out W0 HB.out.below).mono ?_
   rintro e w1 ⟨hb, a, c, rfl, hE⟩
   have hbk := hb
   have HEn := hid (hE.below (below_one w1 (.cells #[.int .i64 dn, .int .i64 k, .int .i64 mo, .string d, .string t, .slice a es.length c, .string y] 216)))
   clear hE
   have HB := hid (HB.out.kept hbk)
   clear hbk
   have HB := hid (HB.out.more #[.int .i64 dn, .int .i64 k, .int .i64 mo, .string d, .string t, .slice a es.length c, .string y] 216 rfl)
   dsimp only
   go_wp2_with fail
   refine (HFd.out (w1.alloc (.cells #[.int .i64 dn, .int .i64 k, .int .i64 mo, .string d, .string t, .slice a es.length c, .string y] 216)) a c HEn.out).mono ?_
   rintro e w2 ⟨rfl, hb⟩
   have hbk := hb
   have HB := hid (HB.out.kept hbk)
   clear hbk
   dsimp only
   go_wp2_with (first | (refine store_bx HB.out 1 rfl 216 _ _ rfl rfl #[.int .i64 0, .int .i64 0, .int .i64 0, .string ⟨#[]⟩, .string ⟨#[]⟩, .slice none 0 0, .string ⟨#[]⟩] rfl rfl (by kernel_rfl) rfl rfl (by decide) (by decide) ?_; intro w3 hS hK hbS hsS; have HBS := hid hS; clear hS hK hbS hsS; have HB := HBS; clear HBS) | fail)
   refine bodyPost_ret_by (results_pl rfl _ _ (w.heap.size + 1) _ _ _ _ _ _ _ rfl (HB.out.obj 1 rfl)) rfl ?_
   exact gapped_err HR.out HB.out.below
  | none =>
   rw [hf] at HFd HR
   have HR := hid (show Fs.fresh l ns = .ok (dn, y) from HR.out)
   dsimp only [Option.getD, Option.isSome] at HFd
   clear hf
   have HB := hid (show Bxs w [(w.heap.size, #[pv m, .int .i64 nx], 108), (w.heap.size + 1, #[.int .i64 0, .int .i64 0, .int .i64 0, .string ⟨#[]⟩, .string ⟨#[]⟩, .slice none 0 0, .string ⟨#[]⟩], 216)] ((w.alloc (.cells #[pv m, .int .i64 nx] 108)).alloc (.cells #[.int .i64 0, .int .i64 0, .int .i64 0, .string ⟨#[]⟩, .string ⟨#[]⟩, .slice none 0 0, .string ⟨#[]⟩] 216)) from Bxs.two w _ _ _ _)
   go_enter func157, ntmps157
   go_wp2_with fail
   generalize (w.alloc (.cells #[pv m, .int .i64 nx] 108)).alloc (.cells #[.int .i64 0, .int .i64 0, .int .i64 0, .string ⟨#[]⟩, .string ⟨#[]⟩, .slice none 0 0, .string ⟨#[]⟩] 216) = W0 at HB |-
   go_wp2_with fail
   refine (HPo.out W0 HB.out.below).mono ?_
   rintro e w1 ⟨hb, a, c, rfl, hE⟩
   have hbk := hb
   have HEn := hid (hE.below (below_one w1 (.cells #[.int .i64 dn, .int .i64 k, .int .i64 mo, .string d, .string t, .slice a es.length c, .string y] 216)))
   clear hE
   have HB := hid (HB.out.kept hbk)
   clear hbk
   have HB := hid (HB.out.more #[.int .i64 dn, .int .i64 k, .int .i64 mo, .string d, .string t, .slice a es.length c, .string y] 216 rfl)
   dsimp only
   go_wp2_with fail
   refine (HFd.out (w1.alloc (.cells #[.int .i64 dn, .int .i64 k, .int .i64 mo, .string d, .string t, .slice a es.length c, .string y] 216)) a c HEn.out).mono ?_
   rintro e w2 ⟨rfl, hb⟩
   have hbk := hb
   have HEn := hid (HEn.out.below hb)
   have HB := hid (HB.out.kept hbk)
   clear hbk
   have b2 := HB.out.c7 2 rfl
   dsimp only
   go_wp2_with (first | (refine store_bx HB.out 1 rfl 216 _ _ rfl rfl #[.int .i64 dn, .int .i64 k, .int .i64 mo, .string d, .string t, .slice a es.length c, .string y] rfl rfl (by kernel_rfl) rfl rfl (by decide) (by decide) ?_; intro w3 hS hK hbS hsS; have HBS := hid hS; have HEn := hid (hK.ents (HB.out.obj 1 rfl) (noEnt178 _ _ _ _ _ _ _ _ _) HEn.out); clear hS hK hbS hsS; have HB := HBS; clear HBS; clear b2) | fail)
   refine bodyPost_ret_by (results_pl rfl _ _ (w.heap.size + 1) _ _ _ _ _ _ _ rfl (HB.out.obj 1 rfl)) rfl ?_
   exact ⟨HB.out.below, by rw [HR.out]; simp only [HX.out]; exact ⟨a, c, rfl, HEn.out⟩⟩
end Go.Proofs.YthbajmlmjjfgpaaGreatDoor
namespace Go.Proofs.YthbajmlmjjfgpaaGreatDoor
open Go.RowKit Go.Less
open T8 (pv Dg Mapped mput_any mdel_any Rp)
attribute [local go_sem 9000] sem_eql sem_neq
def Mapt (l : List Fs.Item) (nx : Int) (w : World) (e : Ending) (w' : World) : Prop := ∃ m, e = .returned (stv m nx) /\ Sv w' m l /\ Below w.heap.size w w'
theorem Right.smallS {x : Nd.Node} (h : Nd.Right less Nm.right x) : Small x.data x.target x.ents.length x.ents := by
 refine ⟨Nat.le_trans h.len (by decide), λe he => ?_, ?_, ?_⟩
 ·have := nm_len (h.ok e he).1
  rw [Nd.len_bs] at this
  omega
 ·rcases h.kinds with ⟨_, _, _, e⟩ | ⟨_, _, e⟩ | ⟨_, e, _⟩
  ·omega
  ·rw [e]; decide
  ·rw [e]; decide
 ·rcases h.kinds with ⟨_, e, _⟩ | ⟨_, e, _⟩ | ⟨_, _, _, _, e⟩
  ·rw [e]; decide
  ·rw [e]; decide
  ·omega
theorem pWith_any (m : Option Nat) (nx : Int) (l : List Fs.Item) (i : Int) (x : Nd.Node) (a : Option Addr) (c : Nat) (w : World) (h : Sv w m l) (hE : Ents a x.ents.length x.ents w) (hR : Nd.Right less Nm.right x) (hi : 1 <= i /\ i <= 2147483647)
  (hin : (Fs.node l i).isSome = true \/ ∀ y ∈ l, y.1 < i) (hf : l.length <= 900) : Calls prog 88 #[stv m nx, .int .i64 i, nv x.kind x.mode x.data x.target a x.ents.length c] w (Mapt (Fs.setL l i x) nx w) := by
 have HPr := hid (λW (hb : Below w.heap.size w W) => q_print (k := x.kind) (m := x.mode) (c := c) W (hE.below hb) (Right.smallS hR) (prt_txt hR))
 have HK := hid (λW => keyOf_any i W (by omega) (by omega))
 have HPu := hid (show ∀ W, Below w.heap.size w W -> Calls prog 133 #[pv m, .string (Fs.key i), .string (Fs.txt x)] W (Mapped (Fs.kv (Fs.setL l i x)) W) from λW hb => by
  rw [<- Fs.put_kv h.ok.ub h.ok.inos (by omega) x hin]
  exact mput_any (h.rp.below hb) (h.dg.below hb) (by rw [Fs.kv_len]; omega) _ _ (by rw [Fs.key_size]; decide) (txt_size hR))
 have HOk := hid (h.ok.set hi hR hin (by omega))
 have HD := hid h.dg
 clear h hE hin hf
 have HB := hid (show Bxs w [(w.heap.size, #[pv m, .int .i64 nx], 108), (w.heap.size + 1, #[.int .i64 x.kind, .int .i64 x.mode, .string x.data, .string x.target, .slice a x.ents.length c], 67), (w.heap.size + 1 + 1, #[.pointer none, .int .i64 0], 108)] (((w.alloc (.cells #[pv m, .int .i64 nx] 108)).alloc (.cells #[.int .i64 x.kind, .int .i64 x.mode, .string x.data, .string x.target, .slice a x.ents.length c] 67)).alloc (.cells #[.pointer none, .int .i64 0] 108)) from Bxs.three w _ _ _ _ _ _)
 go_enter func88, ntmps88
 go_wp2_with fail
 generalize ((w.alloc (.cells #[pv m, .int .i64 nx] 108)).alloc (.cells #[.int .i64 x.kind, .int .i64 x.mode, .string x.data, .string x.target, .slice a x.ents.length c] 67)).alloc (.cells #[.pointer none, .int .i64 0] 108) = W0 at HB |-
 go_wp2_with fail
 refine (HPr.out W0 HB.out.below).mono ?_
 rintro e w1 ⟨rfl, hb⟩
 have hbk := hb
 have HB := hid (HB.out.kept hbk)
 clear hbk
 obtain ⟨b0_0, b0_1⟩ := HB.out.c2 0 rfl
 dsimp only
 have HSx := hid (show ∀ W, Below w1.heap.size w1 W -> Bxs w [(w.heap.size, #[pv m, .int .i64 nx], 108), (w.heap.size + 1, #[.int .i64 x.kind, .int .i64 x.mode, .string x.data, .string x.target, .slice a x.ents.length c], 67), (w.heap.size + 1 + 1, #[.pointer none, .int .i64 0], 108)] W from λW hb => HB.out.kept hb)
 have hBd := (Below.refl w1.heap.size w1).drew
 go_wp2_with fail
 go_region_law (first
  | (go_simp; (with_reducible refine (HPu.out _ (HSx.out _ (by assumption)).below).mono ?_); rintro e w5 ⟨m5, rfl, hrp, hb5⟩; have hB5 := T8.btrans hb5 (by assumption); have b0_0 := (HSx.out _ hB5).cell 0 rfl 0; have q5 := (HSx.out _ hB5).free 0 rfl 0)
  | (go_simp; (with_reducible refine (HK.out _).mono ?_); rintro e w4 ⟨rfl, hb4⟩; have hB4 := T8.btrans hb4 (by assumption); have b0_0 := (HSx.out _ hB4).cell 0 rfl 0))
 all_goals
  have HB6 := hid (show Bxs w [(w.heap.size, #[pv m5, .int .i64 nx], 108), (w.heap.size + 1, #[.int .i64 x.kind, .int .i64 x.mode, .string x.data, .string x.target, .slice a x.ents.length c], 67), (w.heap.size + 1 + 1, #[.pointer none, .int .i64 0], 108)] (w5.setCell ⟨w.heap.size, 0, none⟩ (pv m5)) from (HSx.out _ hB5).put 0 rfl 0 _)
  have HS6 := hid (Sv.kept (⟨hrp, HOk.out, HD.out.below (HSx.out _ hB5).below⟩ : Sv w5 m5 (Fs.setL l i x)) (Kept.cell ((HSx.out _ hB5).obj 0 rfl) (by decide) (by decide) 0 (pv m5)) (HD.out.below HB6.out.below))
  clear q5 hrp hb5 hB5
  have HB := HB6
  clear HB6
  generalize w5.setCell ⟨w.heap.size, 0, none⟩ (.pointer (T8.ap m5)) = W6 at HB HS6 |-
  obtain ⟨b0_0, b0_1⟩ := HB.out.c2 0 rfl
  go_wp2_with (first | (refine store_bx HB.out 2 rfl 108 _ _ rfl rfl #[pv m5, .int .i64 nx] rfl rfl (by kernel_rfl) rfl rfl (by decide) (by decide) ?_; intro w2 hS hK hbS hsS; have HBS := hid hS; have HS6 := hid (HS6.out.kept hK (HD.out.below hbS)); clear hS hK hbS hsS; have HB := HBS; clear HBS; clear b0_0 b0_1) | fail)
  refine bodyPost_ret_by (results_st1 rfl _ _ (w.heap.size + 1 + 1) _ _ rfl (HB.out.obj 2 rfl)) rfl ?_
  exact ⟨m5, rfl, HS6.out, HB.out.below⟩
theorem pWithout_any (m : Option Nat) (nx : Int) (l : List Fs.Item) (i : Int) (w : World) (h : Sv w m l) (hi : 1 <= i /\ i <= 2147483647) (hf : l.length <= 900) : Calls prog 155 #[stv m nx, .int .i64 i] w (Mapt (Fs.dropL l i) nx w) := by
 have HK := hid (λW => keyOf_any i W (by omega) (by omega))
 have HPu := hid (show ∀ W, Below w.heap.size w W -> Calls prog 112 #[pv m, .string (Fs.key i)] W (Mapped (Fs.kv (Fs.dropL l i)) W) from λW hb => by
  rw [<- Fs.del_kv h.ok.ub (by omega)]
  exact mdel_any (h.rp.below hb) (h.dg.below hb) (by rw [Fs.kv_len]; omega) _)
 have HOk := hid (h.ok.drop i)
 have HD := hid h.dg
 clear h hf
 have HB := hid (show Bxs w [(w.heap.size, #[pv m, .int .i64 nx], 108), (w.heap.size + 1, #[.pointer none, .int .i64 0], 108)] ((w.alloc (.cells #[pv m, .int .i64 nx] 108)).alloc (.cells #[.pointer none, .int .i64 0] 108)) from Bxs.two w _ _ _ _)
 go_enter func155, ntmps155
 go_wp2_with fail
 generalize (w.alloc (.cells #[pv m, .int .i64 nx] 108)).alloc (.cells #[.pointer none, .int .i64 0] 108) = W0 at HB |-
 obtain ⟨b0_0, b0_1⟩ := HB.out.c2 0 rfl
 go_wp2_with fail
 have HSx := hid (show ∀ W, Below W0.heap.size W0 W -> Bxs w [(w.heap.size, #[pv m, .int .i64 nx], 108), (w.heap.size + 1, #[.pointer none, .int .i64 0], 108)] W from λW hb => HB.out.kept hb)
 have hBd := (Below.refl W0.heap.size W0).drew
 go_region_law (first
  | (go_simp; (with_reducible refine (HPu.out _ (HSx.out _ (by assumption)).below).mono ?_); rintro e w5 ⟨m5, rfl, hrp, hb5⟩; have hB5 := T8.btrans hb5 (by assumption); have b0_0 := (HSx.out _ hB5).cell 0 rfl 0; have q5 := (HSx.out _ hB5).free 0 rfl 0)
  | (go_simp; (with_reducible refine (HK.out _).mono ?_); rintro e w4 ⟨rfl, hb4⟩; have hB4 := T8.btrans hb4 (by assumption); have b0_0 := (HSx.out _ hB4).cell 0 rfl 0))
 all_goals
  have HB6 := hid (show Bxs w [(w.heap.size, #[pv m5, .int .i64 nx], 108), (w.heap.size + 1, #[.pointer none, .int .i64 0], 108)] (w5.setCell ⟨w.heap.size, 0, none⟩ (pv m5)) from (HSx.out _ hB5).put 0 rfl 0 _)
  have HS6 := hid (Sv.kept (⟨hrp, HOk.out, HD.out.below (HSx.out _ hB5).below⟩ : Sv w5 m5 (Fs.dropL l i)) (Kept.cell ((HSx.out _ hB5).obj 0 rfl) (by decide) (by decide) 0 (pv m5)) (HD.out.below HB6.out.below))
  clear q5 hrp hb5 hB5
  have HB := HB6
  clear HB6
  generalize w5.setCell ⟨w.heap.size, 0, none⟩ (.pointer (T8.ap m5)) = W6 at HB HS6 |-
  obtain ⟨b0_0, b0_1⟩ := HB.out.c2 0 rfl
  go_wp2_with (first | (refine store_bx HB.out 1 rfl 108 _ _ rfl rfl #[pv m5, .int .i64 nx] rfl rfl (by kernel_rfl) rfl rfl (by decide) (by decide) ?_; intro w1 hS hK hbS hsS; have HBS := hid hS; have HS6 := hid (HS6.out.kept hK (HD.out.below hbS)); clear hS hK hbS hsS; have HB := HBS; clear HBS; clear b0_0 b0_1) | fail)
  refine bodyPost_ret_by (results_st1 rfl _ _ (w.heap.size + 1) _ _ rfl (HB.out.obj 1 rfl)) rfl ?_
  exact ⟨m5, rfl, HS6.out, HB.out.below⟩
end Go.Proofs.YthbajmlmjjfgpaaGreatDoor
namespace Go.Proofs.YthbajmlmjjfgpaaGreatDoor
open Go.RowKit Go.Less
open T8 (pv Dg)
attribute [local go_sem 9000] sem_eql sem_neq
def wl (r : Except Int (List Fs.Item)) (nx : Int) : Except Int Fs.FS := match r with
 | .error e => .error e
 | .ok l => .ok ⟨l, nx⟩
theorem stated_err {r : Except Int Fs.FS} {c : Int} (h : r = .error c) (hc : c ≠ 0) {w W : World} (hb : Below w.heap.size w W) : Stated r w (.returned (.tuple #[.agg #[.pointer none, .int .i64 0], .int .i64 c])) W := by
 subst h; exact ⟨hb, hc, rfl⟩
theorem stated_ok {r : Except Int Fs.FS} {f : Fs.FS} (h : r = .ok f) {w W : World} (hb : Below w.heap.size w W) {m : Option Nat} (hS : Sv W m f.l) : Stated r w (.returned (.tuple #[.agg #[pv m, .int .i64 f.next], .int .i64 0])) W := by
 subst h; exact ⟨hb, m, rfl, hS⟩
theorem withE_ok {x y : Nd.Node} {n : ByteArray} {i : Int} (hR : Nd.Right less Nm.right x) (hi : 1 <= i /\ i <= 2147483647) (h : Nd.withE less Nm.right x n i = (y, 0)) : Nd.Right less Nm.right y := by
 unfold Nd.withE at h
 split at h
 ·injection h with _ h; omega
 rename_i h1
 split at h
 ·injection h with _ h; omega
 rename_i h2
 split at h
 ·injection h with _ h; omega
 rename_i h3
 split at h
 ·injection h with _ h; omega
 rename_i h4
 injection h with h _
 rw [<- h]
 exact Nd.right_ins rising hR (by simpa using h1) (by simpa using h2) (by simpa using h3) (by omega) hi.1 hi.2
theorem withoutE_ok {x y : Nd.Node} {n : ByteArray} (hR : Nd.Right less Nm.right x) (h : Nd.withoutE x n = (y, 0)) : Nd.Right less Nm.right y := by
 unfold Nd.withoutE at h
 split at h
 ·injection h with _ h; omega
 split at h
 ·injection h with _ h; omega
 injection h with h _
 rw [<- h]
 exact Fs.right_cut (E := env) rising hR n
theorem place_node {l : List Fs.Item} {ns : List ByteArray} {d : Int} {n : ByteArray} (h : Fs.place l ns = .ok (d, n)) : (Fs.node l d).isSome = true := by
 obtain ⟨x, hx, _⟩ := Fs.nodeD_kind (Fs.place_dir h).1 (by decide)
 rw [hx]; rfl
theorem pEnter_any (m : Option Nat) (nx : Int) (l : List Fs.Item) (p : ByteArray) (ns : List ByteArray) (i : Int) (w : World) (h : Sv w m l) (hp : p.size <= 140737488355328) (hs : spl p = some ns) (hi : 1 <= i /\ i <= 2147483647) (hf9 : l.length <= 900) : Calls prog 152 #[stv m nx, .string p, .int .i64 i] w (Stated (wl (Fs.enterP env l ns i) nx) w) := by
 have HPl := hid (λW (hb : Below w.heap.size w W) => pPlace_any m nx l p ns W (h.below hb) hp hs)
 have hnm := spl_small hs
 cases hpl : Fs.place l ns with
 | error ec =>
  rw [hpl] at HPl
  have HR := hid (show wl (Fs.enterP env l ns i) nx = .error ec by unfold Fs.enterP; rw [hpl]; rfl)
  have hne := place_nz hpl
  clear hpl h hs hnm
  have HB := hid (show Bxs w [(w.heap.size, #[pv m, .int .i64 nx], 108), (w.heap.size + 1, #[.pointer none, .int .i64 0], 108)] ((w.alloc (.cells #[pv m, .int .i64 nx] 108)).alloc (.cells #[.pointer none, .int .i64 0] 108)) from Bxs.two w _ _ _ _)
  go_enter func152, ntmps152
  go_wp2_with fail
  generalize (w.alloc (.cells #[pv m, .int .i64 nx] 108)).alloc (.cells #[.pointer none, .int .i64 0] 108) = W0 at HB |-
  go_wp2_with fail
  refine (HPl.out W0 HB.out.below).mono ?_
  rintro e w1 ⟨hb, _, rfl⟩
  have hbk := hb
  have HB := hid (HB.out.kept hbk)
  clear hbk
  have HB := hid (HB.out.more #[.int .i64 0, .int .i64 0, .int .i64 0, .string ⟨#[]⟩, .string ⟨#[]⟩, .slice none 0 0, .string ⟨#[]⟩] 216 rfl)
  dsimp only
  go_wp2_with (first | (refine store_bx HB.out 1 rfl 108 _ _ rfl rfl #[.pointer none, .int .i64 0] rfl rfl (by kernel_rfl) rfl rfl (by decide) (by decide) ?_; intro w2 hS hK hbS hsS; have HBS := hid hS; clear hS hK hbS hsS; have HB := HBS; clear HBS) | fail)
  refine bodyPost_ret_by (results_st rfl _ _ (w.heap.size + 1) _ _ rfl (HB.out.obj 1 rfl)) rfl ?_
  exact stated_err HR.out hne HB.out.below
 | ok r =>
  obtain ⟨dn, y⟩ := r
  rw [hpl] at HPl
  have hkd := Fs.place_dir hpl
  have hsome := place_node hpl
  obtain ⟨xx, hxx⟩ := Option.isSome_iff_exists.1 hsome
  have hxD := Fs.nodeD_of hxx
  have hRx := (h.ok.node hxx).1
  have hdi := (h.ok.node hxx).2
  have hy := hnm y hkd.2
  obtain ⟨⟨yy, cc⟩, hyy⟩ : ∃ r, Nd.withE less Nm.right xx y i = r := ⟨_, rfl⟩
  have hPc : wl (Fs.enterP env l ns i) nx = if cc ≠ 0 then .error cc else .ok ⟨Fs.setL l dn yy, nx⟩ := by
   unfold Fs.enterP
   rw [hpl]
   simp only
   rw [hxD]
   rw [show Nd.withE env.lt env.nm xx y i = (yy, cc) from hyy, show Fs.enter env l dn y i = Fs.setL l dn yy by unfold Fs.enter; rw [hxD, show Nd.withE env.lt env.nm xx y i = (yy, cc) from hyy]]
   split <;> rfl
  have HSv := hid (λW (hb : Below w.heap.size w W) => h.below hb)
  have HD := hid h.dg
  rw [hxD] at hkd
  obtain ⟨k, mo, d, t, es⟩ := xx
  have HPo := hid (show ∀ W, Below w.heap.size w W -> Calls prog 158 #[stv m nx, .string p] W λe w' => Below W.heap.size W w' /\ ∃ a c, e = .returned (.tuple #[.agg #[.int .i64 dn, .int .i64 k, .int .i64 mo, .string d, .string t, .slice a es.length c, .string y], .int .i64 0]) /\ Ents a es.length es w' from λW hb => (HPl.out W hb).mono λe w' hx => by
   obtain ⟨hx1, hx2⟩ := hx
   simp only [hxD] at hx2
   exact ⟨hx1, hx2⟩)
  have hSm := Right.smallS hRx
  dsimp only at hSm
  obtain ⟨k1, m1, d1, t1, e1⟩ := yy
  have HW := hid (λW a c (hE : Ents a es.length es W) => q_with (c := c) W hE hSm hy hyy rfl)
  clear HPl
  by_cases hc : cc = 0
  ·subst hc
   have HR := hid (show wl (Fs.enterP env l ns i) nx = .ok ⟨Fs.setL l dn ⟨k1, m1, d1, t1, e1⟩, nx⟩ by rw [hPc, if_neg (by decide)])
   have hRy := withE_ok hRx hi hyy
   have HWi := hid (λW a c (hb : Below w.heap.size w W) (hE : Ents a e1.length e1 W) => pWith_any m nx l dn ⟨k1, m1, d1, t1, e1⟩ a c W (HSv.out W hb) hE hRy hdi (.inl hsome) hf9)
   clear hPc hyy hRx hpl hxx hxD hs h hnm hkd
   have HB := hid (show Bxs w [(w.heap.size, #[pv m, .int .i64 nx], 108), (w.heap.size + 1, #[.pointer none, .int .i64 0], 108)] ((w.alloc (.cells #[pv m, .int .i64 nx] 108)).alloc (.cells #[.pointer none, .int .i64 0] 108)) from Bxs.two w _ _ _ _)
   go_enter func152, ntmps152
   go_wp2_with fail
   generalize (w.alloc (.cells #[pv m, .int .i64 nx] 108)).alloc (.cells #[.pointer none, .int .i64 0] 108) = W0 at HB |-
   go_wp2_with fail
   refine (HPo.out W0 HB.out.below).mono ?_
   rintro e w1 ⟨hb, a, c, rfl, hE⟩
   have hbk := hb
   have HEn := hid (hE.below (below_one w1 (.cells #[.int .i64 dn, .int .i64 k, .int .i64 mo, .string d, .string t, .slice a es.length c, .string y] 216)))
   clear hE
   have HB := hid (HB.out.kept hbk)
   clear hbk
   have HB := hid (HB.out.more #[.int .i64 dn, .int .i64 k, .int .i64 mo, .string d, .string t, .slice a es.length c, .string y] 216 rfl)
   dsimp only
   go_wp2_with fail
   refine (HW.out (w1.alloc (.cells #[.int .i64 dn, .int .i64 k, .int .i64 mo, .string d, .string t, .slice a es.length c, .string y] 216)) a c HEn.out).mono ?_
   rintro e w2 ⟨a1, c1, rfl, hE1, hb⟩
   have hbk := hb
   have HE1 := hid (hE1.below (below_one w2 (.cells #[.int .i64 k1, .int .i64 m1, .string d1, .string t1, .slice a1 e1.length c1] 67)))
   clear hE1 HEn
   have HB := hid (HB.out.kept hbk)
   clear hbk
   have HB := hid (HB.out.more #[.int .i64 k1, .int .i64 m1, .string d1, .string t1, .slice a1 e1.length c1] 67 rfl)
   have b0 := HB.out.c2 0 rfl
   have b2 := HB.out.c7 2 rfl
   dsimp only
   go_wp2_with fail
   refine (HWi.out (w2.alloc (.cells #[.int .i64 k1, .int .i64 m1, .string d1, .string t1, .slice a1 e1.length c1] 67)) a1 c1 HB.out.below HE1.out).mono ?_
   rintro e w3 ⟨m7, rfl, hS, hb⟩
   have hbk := hb
   have HS := hid hS
   clear hS
   have HB := hid (HB.out.kept hbk)
   clear b0 b2
   clear hbk
   dsimp only
   go_wp2_with (first | (refine store_bx HB.out 1 rfl 108 _ _ rfl rfl #[pv m7, .int .i64 nx] rfl rfl (by kernel_rfl) rfl rfl (by decide) (by decide) ?_; intro w4 hS hK hbS hsS; have HBS := hid hS; have HS := hid (HS.out.kept hK (HD.out.below hbS)); clear hS hK hbS hsS; have HB := HBS; clear HBS) | fail)
   refine bodyPost_ret_by (results_st rfl _ _ (w.heap.size + 1) _ _ rfl (HB.out.obj 1 rfl)) rfl ?_
   exact stated_ok HR.out HB.out.below HS.out
  ·have HR := hid (show wl (Fs.enterP env l ns i) nx = .error cc by rw [hPc, if_pos hc])
   clear hPc hyy hRx hpl hxx hxD hs h hnm hkd
   have HB := hid (show Bxs w [(w.heap.size, #[pv m, .int .i64 nx], 108), (w.heap.size + 1, #[.pointer none, .int .i64 0], 108)] ((w.alloc (.cells #[pv m, .int .i64 nx] 108)).alloc (.cells #[.pointer none, .int .i64 0] 108)) from Bxs.two w _ _ _ _)
   go_enter func152, ntmps152
   go_wp2_with fail
   generalize (w.alloc (.cells #[pv m, .int .i64 nx] 108)).alloc (.cells #[.pointer none, .int .i64 0] 108) = W0 at HB |-
   go_wp2_with fail
   refine (HPo.out W0 HB.out.below).mono ?_
   rintro e w1 ⟨hb, a, c, rfl, hE⟩
   have hbk := hb
   have HEn := hid (hE.below (below_one w1 (.cells #[.int .i64 dn, .int .i64 k, .int .i64 mo, .string d, .string t, .slice a es.length c, .string y] 216)))
   clear hE
   have HB := hid (HB.out.kept hbk)
   clear hbk
   have HB := hid (HB.out.more #[.int .i64 dn, .int .i64 k, .int .i64 mo, .string d, .string t, .slice a es.length c, .string y] 216 rfl)
   dsimp only
   go_wp2_with fail
   refine (HW.out (w1.alloc (.cells #[.int .i64 dn, .int .i64 k, .int .i64 mo, .string d, .string t, .slice a es.length c, .string y] 216)) a c HEn.out).mono ?_
   rintro e w2 ⟨a1, c1, rfl, hE1, hb⟩
   have hbk := hb
   clear hE1 HEn
   have HB := hid (HB.out.kept hbk)
   clear hbk
   have HB := hid (HB.out.more #[.int .i64 k1, .int .i64 m1, .string d1, .string t1, .slice a1 e1.length c1] 67 rfl)
   dsimp only
   go_wp2_with (first | (refine store_bx HB.out 1 rfl 108 _ _ rfl rfl #[.pointer none, .int .i64 0] rfl rfl (by kernel_rfl) rfl rfl (by decide) (by decide) ?_; intro w3 hS hK hbS hsS; have HBS := hid hS; clear hS hK hbS hsS; have HB := HBS; clear HBS) | fail)
   refine bodyPost_ret_by (results_st rfl _ _ (w.heap.size + 1) _ _ rfl (HB.out.obj 1 rfl)) rfl ?_
   exact stated_err HR.out hc HB.out.below
theorem pLeave_any (m : Option Nat) (nx : Int) (l : List Fs.Item) (p : ByteArray) (ns : List ByteArray) (w : World) (h : Sv w m l) (hp : p.size <= 140737488355328) (hs : spl p = some ns) (hf9 : l.length <= 900) : Calls prog 153 #[stv m nx, .string p] w (Stated (wl (Fs.leaveP l ns) nx) w) := by
 have HPl := hid (λW (hb : Below w.heap.size w W) => pPlace_any m nx l p ns W (h.below hb) hp hs)
 cases hpl : Fs.place l ns with
 | error ec =>
  rw [hpl] at HPl
  have HR := hid (show wl (Fs.leaveP l ns) nx = .error ec by unfold Fs.leaveP; rw [hpl]; rfl)
  have hne := place_nz hpl
  clear hpl h hs
  have HB := hid (show Bxs w [(w.heap.size, #[pv m, .int .i64 nx], 108), (w.heap.size + 1, #[.pointer none, .int .i64 0], 108)] ((w.alloc (.cells #[pv m, .int .i64 nx] 108)).alloc (.cells #[.pointer none, .int .i64 0] 108)) from Bxs.two w _ _ _ _)
  go_enter func153, ntmps153
  go_wp2_with fail
  generalize (w.alloc (.cells #[pv m, .int .i64 nx] 108)).alloc (.cells #[.pointer none, .int .i64 0] 108) = W0 at HB |-
  go_wp2_with fail
  refine (HPl.out W0 HB.out.below).mono ?_
  rintro e w1 ⟨hb, _, rfl⟩
  have hbk := hb
  have HB := hid (HB.out.kept hbk)
  clear hbk
  have HB := hid (HB.out.more #[.int .i64 0, .int .i64 0, .int .i64 0, .string ⟨#[]⟩, .string ⟨#[]⟩, .slice none 0 0, .string ⟨#[]⟩] 216 rfl)
  dsimp only
  go_wp2_with (first | (refine store_bx HB.out 1 rfl 108 _ _ rfl rfl #[.pointer none, .int .i64 0] rfl rfl (by kernel_rfl) rfl rfl (by decide) (by decide) ?_; intro w2 hS hK hbS hsS; have HBS := hid hS; clear hS hK hbS hsS; have HB := HBS; clear HBS) | fail)
  refine bodyPost_ret_by (results_st rfl _ _ (w.heap.size + 1) _ _ rfl (HB.out.obj 1 rfl)) rfl ?_
  exact stated_err HR.out hne HB.out.below
 | ok r =>
  obtain ⟨dn, y⟩ := r
  rw [hpl] at HPl
  have hkd := Fs.place_dir hpl
  have hsome := place_node hpl
  obtain ⟨xx, hxx⟩ := Option.isSome_iff_exists.1 hsome
  have hxD := Fs.nodeD_of hxx
  have hRx := (h.ok.node hxx).1
  have hdi := (h.ok.node hxx).2
  obtain ⟨⟨yy, cc⟩, hyy⟩ : ∃ r, Nd.withoutE xx y = r := ⟨_, rfl⟩
  have hPc : wl (Fs.leaveP l ns) nx = if cc ≠ 0 then .error cc else .ok ⟨Fs.setL l dn yy, nx⟩ := by
   unfold Fs.leaveP
   rw [hpl]
   simp only
   rw [hxD]
   rw [hyy, show Fs.leave l dn y = Fs.setL l dn yy by unfold Fs.leave; rw [hxD, hyy]]
   split <;> rfl
  have HSv := hid (λW (hb : Below w.heap.size w W) => h.below hb)
  have HD := hid h.dg
  rw [hxD] at hkd
  obtain ⟨k, mo, d, t, es⟩ := xx
  have HPo := hid (show ∀ W, Below w.heap.size w W -> Calls prog 158 #[stv m nx, .string p] W λe w' => Below W.heap.size W w' /\ ∃ a c, e = .returned (.tuple #[.agg #[.int .i64 dn, .int .i64 k, .int .i64 mo, .string d, .string t, .slice a es.length c, .string y], .int .i64 0]) /\ Ents a es.length es w' from λW hb => (HPl.out W hb).mono λe w' hx => by
   obtain ⟨hx1, hx2⟩ := hx
   simp only [hxD] at hx2
   exact ⟨hx1, hx2⟩)
  have hSm := Right.smallS hRx
  dsimp only at hSm
  obtain ⟨k1, m1, d1, t1, e1⟩ := yy
  have HW := hid (λW a c (hE : Ents a es.length es W) => q_wout (c := c) W hE hSm hyy rfl)
  clear HPl
  by_cases hc : cc = 0
  ·subst hc
   have HR := hid (show wl (Fs.leaveP l ns) nx = .ok ⟨Fs.setL l dn ⟨k1, m1, d1, t1, e1⟩, nx⟩ by rw [hPc, if_neg (by decide)])
   have hRy := withoutE_ok hRx hyy
   have HWi := hid (λW a c (hb : Below w.heap.size w W) (hE : Ents a e1.length e1 W) => pWith_any m nx l dn ⟨k1, m1, d1, t1, e1⟩ a c W (HSv.out W hb) hE hRy hdi (.inl hsome) hf9)
   clear hPc hyy hRx hpl hxx hxD hs h hkd
   have HB := hid (show Bxs w [(w.heap.size, #[pv m, .int .i64 nx], 108), (w.heap.size + 1, #[.pointer none, .int .i64 0], 108)] ((w.alloc (.cells #[pv m, .int .i64 nx] 108)).alloc (.cells #[.pointer none, .int .i64 0] 108)) from Bxs.two w _ _ _ _)
   go_enter func153, ntmps153
   go_wp2_with fail
   generalize (w.alloc (.cells #[pv m, .int .i64 nx] 108)).alloc (.cells #[.pointer none, .int .i64 0] 108) = W0 at HB |-
   go_wp2_with fail
   refine (HPo.out W0 HB.out.below).mono ?_
   rintro e w1 ⟨hb, a, c, rfl, hE⟩
   have hbk := hb
   have HEn := hid (hE.below (below_one w1 (.cells #[.int .i64 dn, .int .i64 k, .int .i64 mo, .string d, .string t, .slice a es.length c, .string y] 216)))
   clear hE
   have HB := hid (HB.out.kept hbk)
   clear hbk
   have HB := hid (HB.out.more #[.int .i64 dn, .int .i64 k, .int .i64 mo, .string d, .string t, .slice a es.length c, .string y] 216 rfl)
   dsimp only
   go_wp2_with fail
   refine (HW.out (w1.alloc (.cells #[.int .i64 dn, .int .i64 k, .int .i64 mo, .string d, .string t, .slice a es.length c, .string y] 216)) a c HEn.out).mono ?_
   rintro e w2 ⟨a1, c1, rfl, hE1, hb⟩
   have hbk := hb
   have HE1 := hid (hE1.below (below_one w2 (.cells #[.int .i64 k1, .int .i64 m1, .string d1, .string t1, .slice a1 e1.length c1] 67)))
   clear hE1 HEn
   have HB := hid (HB.out.kept hbk)
   clear hbk
   have HB := hid (HB.out.more #[.int .i64 k1, .int .i64 m1, .string d1, .string t1, .slice a1 e1.length c1] 67 rfl)
   have b0 := HB.out.c2 0 rfl
   have b2 := HB.out.c7 2 rfl
   dsimp only
   go_wp2_with fail
   refine (HWi.out (w2.alloc (.cells #[.int .i64 k1, .int .i64 m1, .string d1, .string t1, .slice a1 e1.length c1] 67)) a1 c1 HB.out.below HE1.out).mono ?_
   rintro e w3 ⟨m7, rfl, hS, hb⟩
   have hbk := hb
   have HS := hid hS
   clear hS
   have HB := hid (HB.out.kept hbk)
   clear b0 b2
   clear hbk
   dsimp only
   go_wp2_with (first | (refine store_bx HB.out 1 rfl 108 _ _ rfl rfl #[pv m7, .int .i64 nx] rfl rfl (by kernel_rfl) rfl rfl (by decide) (by decide) ?_; intro w4 hS hK hbS hsS; have HBS := hid hS; have HS := hid (HS.out.kept hK (HD.out.below hbS)); clear hS hK hbS hsS; have HB := HBS; clear HBS) | fail)
   refine bodyPost_ret_by (results_st rfl _ _ (w.heap.size + 1) _ _ rfl (HB.out.obj 1 rfl)) rfl ?_
   exact stated_ok HR.out HB.out.below HS.out
  ·have HR := hid (show wl (Fs.leaveP l ns) nx = .error cc by rw [hPc, if_pos hc])
   clear hPc hyy hRx hpl hxx hxD hs h hkd
   have HB := hid (show Bxs w [(w.heap.size, #[pv m, .int .i64 nx], 108), (w.heap.size + 1, #[.pointer none, .int .i64 0], 108)] ((w.alloc (.cells #[pv m, .int .i64 nx] 108)).alloc (.cells #[.pointer none, .int .i64 0] 108)) from Bxs.two w _ _ _ _)
   go_enter func153, ntmps153
   go_wp2_with fail
   generalize (w.alloc (.cells #[pv m, .int .i64 nx] 108)).alloc (.cells #[.pointer none, .int .i64 0] 108) = W0 at HB |-
   go_wp2_with fail
   refine (HPo.out W0 HB.out.below).mono ?_
   rintro e w1 ⟨hb, a, c, rfl, hE⟩
   have hbk := hb
   have HEn := hid (hE.below (below_one w1 (.cells #[.int .i64 dn, .int .i64 k, .int .i64 mo, .string d, .string t, .slice a es.length c, .string y] 216)))
   clear hE
   have HB := hid (HB.out.kept hbk)
   clear hbk
   have HB := hid (HB.out.more #[.int .i64 dn, .int .i64 k, .int .i64 mo, .string d, .string t, .slice a es.length c, .string y] 216 rfl)
   dsimp only
   go_wp2_with fail
   refine (HW.out (w1.alloc (.cells #[.int .i64 dn, .int .i64 k, .int .i64 mo, .string d, .string t, .slice a es.length c, .string y] 216)) a c HEn.out).mono ?_
   rintro e w2 ⟨a1, c1, rfl, hE1, hb⟩
   have hbk := hb
   clear hE1 HEn
   have HB := hid (HB.out.kept hbk)
   clear hbk
   have HB := hid (HB.out.more #[.int .i64 k1, .int .i64 m1, .string d1, .string t1, .slice a1 e1.length c1] 67 rfl)
   dsimp only
   go_wp2_with (first | (refine store_bx HB.out 1 rfl 108 _ _ rfl rfl #[.pointer none, .int .i64 0] rfl rfl (by kernel_rfl) rfl rfl (by decide) (by decide) ?_; intro w3 hS hK hbS hsS; have HBS := hid hS; clear hS hK hbS hsS; have HB := HBS; clear HBS) | fail)
   refine bodyPost_ret_by (results_st rfl _ _ (w.heap.size + 1) _ _ rfl (HB.out.obj 1 rfl)) rfl ?_
   exact stated_err HR.out hc HB.out.below
end Go.Proofs.YthbajmlmjjfgpaaGreatDoor
