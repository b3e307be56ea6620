/- A part of the proofs. -/
import Derived.Test.YthbajmlmjjfgpaaGreatDoorC19
set_option maxRecDepth 1000000
set_option maxHeartbeats 16000000
open Go.Lib (hid)
open Go.Proofs.Tryz
namespace Go.Proofs.YthbajmlmjjfgpaaGreatDoor
open Go.RowKit Go.Less
open T8 (pv Dg mlen_any)
attribute [local go_sem 9000] sem_eql sem_neq
theorem enterP_set {l l1 : List Fs.Item} {ns : List ByteArray} {i : Int} (h : Fs.enterP env l ns i = .ok l1) : ∃ d y, (Fs.node l d).isSome = true /\ l1 = Fs.setL l d y := by
 unfold Fs.enterP at h
 cases hp : Fs.place l ns with
 | error e => rw [hp] at h; cases h
 | ok r =>
  obtain ⟨d, n⟩ := r
  rw [hp] at h
  simp only at h
  split at h
  ·cases h
  ·injection h with h
   exact ⟨d, _, place_node hp, h.symm⟩
theorem enterP_len {l l1 : List Fs.Item} {ns : List ByteArray} {i : Int} (h : Fs.enterP env l ns i = .ok l1) (hl : l.length <= 900) : l1.length <= 900 := by
 obtain ⟨d, y, hd, rfl⟩ := enterP_set h
 rw [Fs.len_set, if_pos hd]; exact hl
theorem enterP_lt {l l1 : List Fs.Item} {ns : List ByteArray} {i k : Int} (h : Fs.enterP env l ns i = .ok l1) (hl : ∀ y ∈ l, y.1 < k) : ∀ y ∈ l1, y.1 < k := by
 obtain ⟨d, y, hd, rfl⟩ := enterP_set h
 intro z hz
 unfold Fs.setL at hz
 rw [if_pos hd, List.append_nil] at hz
 obtain ⟨u, hu, rfl⟩ := List.mem_map.1 hz
 split
 ·rename_i e; exact e ▸ hl u hu
 ·exact hl u hu
theorem pCreate_any (m : Option Nat) (nx : Int) (l : List Fs.Item) (p : ByteArray) (k mo : Int) (d t : ByteArray) (w : World) (h : Sv w m l) (hf9 : l.length <= 900) (pp : p.size <= 140737488355328) {ns : List ByteArray} (hs : spl p = some ns) (hnx : 1 <= nx /\ nx <= 2147483646) (hin : ∀ y ∈ l, y.1 < nx) {R : Except Int Fs.FS} (hR : R = match Fs.fresh l ns with
   | .error e => .error e
   | .ok (dn, _) => if ndr k mo d t [] = false then .error 1 else if 64 <= (Fs.nodeD l dn).ents.length then .error 3 else if 256 <= l.length then .error 6 else match Fs.enterP env l ns nx with
    | .error e => .error e
    | .ok l1 => .ok ⟨Fs.setL l1 nx ⟨k, mo, d, t, []⟩, nx + 1⟩) : Calls prog 151 #[stv m nx, .string p, nv k mo d t none 0 0] w (Stated R w) := by
 have HGp := hid (λW (hbw : Below w.heap.size w W) => pGap_any m nx l p ns W (h.below hbw) pp hs)
 have HEnt := hid (λW (hbw : Below w.heap.size w W) => pEnter_any m nx l p ns nx W (h.below hbw) pp hs ⟨hnx.1, by omega⟩ hf9)
 have HLe := hid (λW (hbw : Below w.heap.size w W) => mlen_any (h.rp.below hbw))
 rw [Fs.kv_len] at HLe
 have HNd := hid (λW => node_any k mo d t none 0 0 [] W (ents_nil W) (by decide) (by intro j hj; omega))
 have HD := hid h.dg
 have HSm := hid h.ok.small
 cases hfr : Fs.fresh l ns with
 | error ec =>
  rw [hfr] at HGp hR
  have HR := hid hR
  have hne := fresh_nz hfr
  clear hR hfr HEnt HLe HNd HD HSm h hs hin
  have HB := hid (show Bxs w [(w.heap.size, #[pv m, .int .i64 nx], 108), (w.heap.size + 1, #[.int .i64 k, .int .i64 mo, .string d, .string t, .slice none 0 0], 67), (w.heap.size + 1 + 1, #[.pointer none, .int .i64 0], 108)] (((w.alloc (.cells #[pv m, .int .i64 nx] 108)).alloc (.cells #[.int .i64 k, .int .i64 mo, .string d, .string t, .slice none 0 0] 67)).alloc (.cells #[.pointer none, .int .i64 0] 108)) from Bxs.three w _ _ _ _ _ _)
  go_enter func151, ntmps151
  go_wp2_with fail
  generalize ((w.alloc (.cells #[pv m, .int .i64 nx] 108)).alloc (.cells #[.int .i64 k, .int .i64 mo, .string d, .string t, .slice none 0 0] 67)).alloc (.cells #[.pointer none, .int .i64 0] 108) = W0 at HB |-
  go_wp2_with fail
  refine (HGp.out W0 HB.out.below).mono ?_
  rintro e w1 ⟨hb, _, rfl⟩
  have hbk := hb
  have HB := hid (HB.out.kept hbk)
  clear hbk
  have HB := hid (HB.out.more #[.int .i64 0, .int .i64 0, .int .i64 0, .string ⟨#[]⟩, .string ⟨#[]⟩, .slice none 0 0, .string ⟨#[]⟩] 216 rfl)
  dsimp only
  go_wp2_with (first | (refine store_bx HB.out 2 rfl 108 _ _ rfl rfl #[.pointer none, .int .i64 0] rfl rfl (by kernel_rfl) rfl rfl (by decide) (by decide) ?_; intro w2 hS hK hbS hsS; have HBS := hid hS; clear hS hK hbS hsS; have HB := HBS; clear HBS) | fail)
  refine bodyPost_ret_by (results_st rfl _ _ (w.heap.size + 1 + 1) _ _ rfl (HB.out.obj 2 rfl)) rfl ?_
  exact stated_err HR.out hne HB.out.below
 | ok r =>
  obtain ⟨dn, y1⟩ := r
  rw [hfr] at HGp hR
  simp only at hR
  obtain ⟨x1, hx1⟩ : ∃ x, Fs.nodeD l dn = x := ⟨_, rfl⟩
  have hs1 := HSm.out dn
  rw [hx1] at hR hs1
  have HGo := hid (show ∀ W, Below w.heap.size w W -> Calls prog 157 #[stv m nx, .string p] W λe w' => Below W.heap.size W w' /\ ∃ a c, e = .returned (.tuple #[.agg #[.int .i64 dn, .int .i64 x1.kind, .int .i64 x1.mode, .string x1.data, .string x1.target, .slice a x1.ents.length c, .string y1], .int .i64 0]) /\ Ents a x1.ents.length x1.ents w' from λW hb => (HGp.out W hb).mono λe w' hx => by
   obtain ⟨hx3, hx4⟩ := hx
   simp only [hx1] at hx4
   exact ⟨hx3, hx4⟩)
  clear HGp hfr hs HSm
  obtain ⟨k1, m1, d1, t1, e1⟩ := x1
  dsimp only at HGo hR hs1
  have HFu := hid (λ(a : Option Addr) (c : Nat) W => isFull_any k1 m1 d1 t1 a e1.length c W (by omega))
  clear hx1
  cases hnd : ndr k mo d t [] with
  | false =>
   rw [hnd] at HNd
   have HR := hid (show R = .error 1 by rw [hR, if_pos hnd])
   clear hR HEnt HLe HFu hnd h hin
   have HB := hid (show Bxs w [(w.heap.size, #[pv m, .int .i64 nx], 108), (w.heap.size + 1, #[.int .i64 k, .int .i64 mo, .string d, .string t, .slice none 0 0], 67), (w.heap.size + 1 + 1, #[.pointer none, .int .i64 0], 108)] (((w.alloc (.cells #[pv m, .int .i64 nx] 108)).alloc (.cells #[.int .i64 k, .int .i64 mo, .string d, .string t, .slice none 0 0] 67)).alloc (.cells #[.pointer none, .int .i64 0] 108)) from Bxs.three w _ _ _ _ _ _)
   go_enter func151, ntmps151
   go_wp2_with fail
   generalize ((w.alloc (.cells #[pv m, .int .i64 nx] 108)).alloc (.cells #[.int .i64 k, .int .i64 mo, .string d, .string t, .slice none 0 0] 67)).alloc (.cells #[.pointer none, .int .i64 0] 108) = W0 at HB |-
   go_wp2_with fail
   refine (HGo.out W0 HB.out.below).mono ?_
   rintro e w1 ⟨hb, a1, c1, rfl, hE1⟩
   have hbk := hb
   clear hE1
   have HB := hid (HB.out.kept hbk)
   clear hbk
   have HB := hid (HB.out.more #[.int .i64 dn, .int .i64 k1, .int .i64 m1, .string d1, .string t1, .slice a1 e1.length c1, .string y1] 216 rfl)
   have b1 := HB.out.c5 1 rfl
   dsimp only
   go_wp2_with fail
   refine (HNd.out (w1.alloc (.cells #[.int .i64 dn, .int .i64 k1, .int .i64 m1, .string d1, .string t1, .slice a1 e1.length c1, .string y1] 216))).mono ?_
   rintro e w2 ⟨rfl, hb⟩
   have hbk := hb
   have HB := hid (HB.out.kept hbk)
   clear b1
   clear hbk
   dsimp only
   go_wp2_with (first | (refine store_bx HB.out 2 rfl 108 _ _ rfl rfl #[.pointer none, .int .i64 0] rfl rfl (by kernel_rfl) rfl rfl (by decide) (by decide) ?_; intro w3 hS hK hbS hsS; have HBS := hid hS; clear hS hK hbS hsS; have HB := HBS; clear HBS) | fail)
   refine bodyPost_ret_by (results_st rfl _ _ (w.heap.size + 1 + 1) _ _ rfl (HB.out.obj 2 rfl)) rfl ?_
   exact stated_err HR.out (by decide) HB.out.below
  | true =>
   rw [hnd] at HNd
   rw [if_neg (by rw [hnd]; decide)] at hR
   by_cases hfull : 64 <= e1.length
   ·rw [show decide ((64 : Int) <= (e1.length : Int)) = true from decide_eq_true (by omega)] at HFu
    have HR := hid (show R = .error 3 by rw [hR, if_pos hfull])
    clear hR HEnt HLe hnd h hin
    have HB := hid (show Bxs w [(w.heap.size, #[pv m, .int .i64 nx], 108), (w.heap.size + 1, #[.int .i64 k, .int .i64 mo, .string d, .string t, .slice none 0 0], 67), (w.heap.size + 1 + 1, #[.pointer none, .int .i64 0], 108)] (((w.alloc (.cells #[pv m, .int .i64 nx] 108)).alloc (.cells #[.int .i64 k, .int .i64 mo, .string d, .string t, .slice none 0 0] 67)).alloc (.cells #[.pointer none, .int .i64 0] 108)) from Bxs.three w _ _ _ _ _ _)
    go_enter func151, ntmps151
    go_wp2_with fail
    generalize ((w.alloc (.cells #[pv m, .int .i64 nx] 108)).alloc (.cells #[.int .i64 k, .int .i64 mo, .string d, .string t, .slice none 0 0] 67)).alloc (.cells #[.pointer none, .int .i64 0] 108) = W0 at HB |-
    go_wp2_with fail
    refine (HGo.out W0 HB.out.below).mono ?_
    rintro e w1 ⟨hb, a1, c1, rfl, hE1⟩
    have hbk := hb
    clear hE1
    have HB := hid (HB.out.kept hbk)
    clear hbk
    have HB := hid (HB.out.more #[.int .i64 dn, .int .i64 k1, .int .i64 m1, .string d1, .string t1, .slice a1 e1.length c1, .string y1] 216 rfl)
    have b1 := HB.out.c5 1 rfl
    dsimp only
    go_wp2_with fail
    refine (HNd.out (w1.alloc (.cells #[.int .i64 dn, .int .i64 k1, .int .i64 m1, .string d1, .string t1, .slice a1 e1.length c1, .string y1] 216))).mono ?_
    rintro e w2 ⟨rfl, hb⟩
    have hbk := hb
    have HB := hid (HB.out.kept hbk)
    clear b1
    clear hbk
    have b3 := HB.out.c7 3 rfl
    dsimp only
    go_wp2_with fail
    refine (HFu.out a1 c1 w2).mono ?_
    rintro e w3 ⟨rfl, hb⟩
    have hbk := hb
    have HB := hid (HB.out.kept hbk)
    clear b3
    clear hbk
    dsimp only
    go_wp2_with (first | (refine store_bx HB.out 2 rfl 108 _ _ rfl rfl #[.pointer none, .int .i64 0] rfl rfl (by kernel_rfl) rfl rfl (by decide) (by decide) ?_; intro w4 hS hK hbS hsS; have HBS := hid hS; clear hS hK hbS hsS; have HB := HBS; clear HBS) | fail)
    refine bodyPost_ret_by (results_st rfl _ _ (w.heap.size + 1 + 1) _ _ rfl (HB.out.obj 2 rfl)) rfl ?_
    exact stated_err HR.out (by decide) HB.out.below
   ·rw [show decide ((64 : Int) <= (e1.length : Int)) = false from decide_eq_false (by omega)] at HFu
    rw [if_neg hfull] at hR
    by_cases hmany : 256 <= l.length
    ·have hmi : (256 : Int) <= (l.length : Int) := by omega
     have HR := hid (show R = .error 6 by rw [hR, if_pos hmany])
     clear hR HEnt hnd h hin hfull hs1
     have HB := hid (show Bxs w [(w.heap.size, #[pv m, .int .i64 nx], 108), (w.heap.size + 1, #[.int .i64 k, .int .i64 mo, .string d, .string t, .slice none 0 0], 67), (w.heap.size + 1 + 1, #[.pointer none, .int .i64 0], 108)] (((w.alloc (.cells #[pv m, .int .i64 nx] 108)).alloc (.cells #[.int .i64 k, .int .i64 mo, .string d, .string t, .slice none 0 0] 67)).alloc (.cells #[.pointer none, .int .i64 0] 108)) from Bxs.three w _ _ _ _ _ _)
     go_enter func151, ntmps151
     go_wp2_with fail
     generalize ((w.alloc (.cells #[pv m, .int .i64 nx] 108)).alloc (.cells #[.int .i64 k, .int .i64 mo, .string d, .string t, .slice none 0 0] 67)).alloc (.cells #[.pointer none, .int .i64 0] 108) = W0 at HB |-
     go_wp2_with fail
     refine (HGo.out W0 HB.out.below).mono ?_
     rintro e w1 ⟨hb, a1, c1, rfl, hE1⟩
     have hbk := hb
     clear hE1
     have HB := hid (HB.out.kept hbk)
     clear hbk
     have HB := hid (HB.out.more #[.int .i64 dn, .int .i64 k1, .int .i64 m1, .string d1, .string t1, .slice a1 e1.length c1, .string y1] 216 rfl)
     have b1 := HB.out.c5 1 rfl
     dsimp only
     go_wp2_with fail
     refine (HNd.out (w1.alloc (.cells #[.int .i64 dn, .int .i64 k1, .int .i64 m1, .string d1, .string t1, .slice a1 e1.length c1, .string y1] 216))).mono ?_
     rintro e w2 ⟨rfl, hb⟩
     have hbk := hb
     have HB := hid (HB.out.kept hbk)
     clear b1
     clear hbk
     have b3 := HB.out.c7 3 rfl
     dsimp only
     go_wp2_with fail
     refine (HFu.out a1 c1 w2).mono ?_
     rintro e w3 ⟨rfl, hb⟩
     have hbk := hb
     have HB := hid (HB.out.kept hbk)
     clear b3
     clear hbk
     have b0 := HB.out.c2 0 rfl
     dsimp only
     go_wp2_with fail
     refine (HLe.out w3 HB.out.below).mono ?_
     rintro e w4 ⟨rfl, hb⟩
     have hbk := hb
     have HB := hid (HB.out.kept hbk)
     clear b0
     clear hbk
     dsimp only
     go_wp2_with (first | (refine store_bx HB.out 2 rfl 108 _ _ rfl rfl #[.pointer none, .int .i64 0] rfl rfl (by kernel_rfl) rfl rfl (by decide) (by decide) ?_; intro w5 hS hK hbS hsS; have HBS := hid hS; clear hS hK hbS hsS; have HB := HBS; clear HBS) | fail)
     refine bodyPost_ret_by (results_st rfl _ _ (w.heap.size + 1 + 1) _ _ rfl (HB.out.obj 2 rfl)) rfl ?_
     exact stated_err HR.out (by decide) HB.out.below
    ·have hmi : ¬ ((256 : Int) <= (l.length : Int)) := by omega
     rw [if_neg hmany] at hR
     cases hen : Fs.enterP env l ns nx with
     | error ec =>
      rw [hen] at hR
      have HR := hid hR
      rw [show wl (Fs.enterP env l ns nx) nx = .error ec by rw [hen]; rfl] at HEnt
      clear hR hnd h hin hfull hs1 hen hmany
      have HB := hid (show Bxs w [(w.heap.size, #[pv m, .int .i64 nx], 108), (w.heap.size + 1, #[.int .i64 k, .int .i64 mo, .string d, .string t, .slice none 0 0], 67), (w.heap.size + 1 + 1, #[.pointer none, .int .i64 0], 108)] (((w.alloc (.cells #[pv m, .int .i64 nx] 108)).alloc (.cells #[.int .i64 k, .int .i64 mo, .string d, .string t, .slice none 0 0] 67)).alloc (.cells #[.pointer none, .int .i64 0] 108)) from Bxs.three w _ _ _ _ _ _)
      go_enter func151, ntmps151
      go_wp2_with fail
      generalize ((w.alloc (.cells #[pv m, .int .i64 nx] 108)).alloc (.cells #[.int .i64 k, .int .i64 mo, .string d, .string t, .slice none 0 0] 67)).alloc (.cells #[.pointer none, .int .i64 0] 108) = W0 at HB |-
      go_wp2_with fail
      refine (HGo.out W0 HB.out.below).mono ?_
      rintro e w1 ⟨hb, a1, c1, rfl, hE1⟩
      have hbk := hb
      clear hE1
      have HB := hid (HB.out.kept hbk)
      clear hbk
      have HB := hid (HB.out.more #[.int .i64 dn, .int .i64 k1, .int .i64 m1, .string d1, .string t1, .slice a1 e1.length c1, .string y1] 216 rfl)
      have b1 := HB.out.c5 1 rfl
      dsimp only
      go_wp2_with fail
      refine (HNd.out (w1.alloc (.cells #[.int .i64 dn, .int .i64 k1, .int .i64 m1, .string d1, .string t1, .slice a1 e1.length c1, .string y1] 216))).mono ?_
      rintro e w2 ⟨rfl, hb⟩
      have hbk := hb
      have HB := hid (HB.out.kept hbk)
      clear b1
      clear hbk
      have b3 := HB.out.c7 3 rfl
      dsimp only
      go_wp2_with fail
      refine (HFu.out a1 c1 w2).mono ?_
      rintro e w3 ⟨rfl, hb⟩
      have hbk := hb
      have HB := hid (HB.out.kept hbk)
      clear b3
      clear hbk
      have b0 := HB.out.c2 0 rfl
      dsimp only
      go_wp2_with fail
      refine (HLe.out w3 HB.out.below).mono ?_
      rintro e w4 ⟨rfl, hb⟩
      have hbk := hb
      have HB := hid (HB.out.kept hbk)
      clear b0
      clear hbk
      have b0 := HB.out.c2 0 rfl
      dsimp only
      go_wp2_with fail
      refine (HEnt.out w4 HB.out.below).mono ?_
      rintro e w5 ⟨hb, hne, rfl⟩
      have hbk := hb
      have HB := hid (HB.out.kept hbk)
      clear b0
      clear hbk
      dsimp only
      go_wp2_with (first | (refine store_bx HB.out 0 rfl 108 _ _ rfl rfl #[.pointer none, .int .i64 0] rfl rfl (by kernel_rfl) rfl rfl (by decide) (by decide) ?_; intro w6 hS hK hbS hsS; have HBS := hid hS; clear hS hK hbS hsS; have HB := HBS; clear HBS) | (refine store_bx HB.out 2 rfl 108 _ _ rfl rfl #[.pointer none, .int .i64 0] rfl rfl (by kernel_rfl) rfl rfl (by decide) (by decide) ?_; intro w7 hS hK hbS hsS; have HBS := hid hS; clear hS hK hbS hsS; have HB := HBS; clear HBS) | fail)
      refine bodyPost_ret_by (results_st rfl _ _ (w.heap.size + 1 + 1) _ _ rfl (HB.out.obj 2 rfl)) rfl ?_
      exact stated_err HR.out hne HB.out.below
     | ok l1 =>
      rw [hen] at hR
      have HR := hid hR
      rw [show wl (Fs.enterP env l ns nx) nx = .ok ⟨l1, nx⟩ by rw [hen]; rfl] at HEnt
      have hln := enterP_len hen hf9
      have hlt := enterP_lt hen hin
      have hRx := ndr_right.1 hnd
      have HWi := hid (λm5 W (hS : Sv W m5 l1) => pWith_any m5 nx l1 nx ⟨k, mo, d, t, []⟩ none 0 W hS (ents_nil W) hRx ⟨hnx.1, by omega⟩ (.inr hlt) hln)
      have hwr : IntKind.i64.wrap (nx + 1) = nx + 1 := IntWalk.i64_in _ (by omega)
      clear hR hnd h hin hfull hs1 hen hmany hlt hRx
      have HB := hid (show Bxs w [(w.heap.size, #[pv m, .int .i64 nx], 108), (w.heap.size + 1, #[.int .i64 k, .int .i64 mo, .string d, .string t, .slice none 0 0], 67), (w.heap.size + 1 + 1, #[.pointer none, .int .i64 0], 108)] (((w.alloc (.cells #[pv m, .int .i64 nx] 108)).alloc (.cells #[.int .i64 k, .int .i64 mo, .string d, .string t, .slice none 0 0] 67)).alloc (.cells #[.pointer none, .int .i64 0] 108)) from Bxs.three w _ _ _ _ _ _)
      go_enter func151, ntmps151
      go_wp2_with fail
      generalize ((w.alloc (.cells #[pv m, .int .i64 nx] 108)).alloc (.cells #[.int .i64 k, .int .i64 mo, .string d, .string t, .slice none 0 0] 67)).alloc (.cells #[.pointer none, .int .i64 0] 108) = W0 at HB |-
      go_wp2_with fail
      refine (HGo.out W0 HB.out.below).mono ?_
      rintro e w1 ⟨hb, a1, c1, rfl, hE1⟩
      have hbk := hb
      clear hE1
      have HB := hid (HB.out.kept hbk)
      clear hbk
      have HB := hid (HB.out.more #[.int .i64 dn, .int .i64 k1, .int .i64 m1, .string d1, .string t1, .slice a1 e1.length c1, .string y1] 216 rfl)
      have b1 := HB.out.c5 1 rfl
      dsimp only
      go_wp2_with fail
      refine (HNd.out (w1.alloc (.cells #[.int .i64 dn, .int .i64 k1, .int .i64 m1, .string d1, .string t1, .slice a1 e1.length c1, .string y1] 216))).mono ?_
      rintro e w2 ⟨rfl, hb⟩
      have hbk := hb
      have HB := hid (HB.out.kept hbk)
      clear b1
      clear hbk
      have b3 := HB.out.c7 3 rfl
      dsimp only
      go_wp2_with fail
      refine (HFu.out a1 c1 w2).mono ?_
      rintro e w3 ⟨rfl, hb⟩
      have hbk := hb
      have HB := hid (HB.out.kept hbk)
      clear b3
      clear hbk
      have b0 := HB.out.c2 0 rfl
      dsimp only
      go_wp2_with fail
      refine (HLe.out w3 HB.out.below).mono ?_
      rintro e w4 ⟨rfl, hb⟩
      have hbk := hb
      have HB := hid (HB.out.kept hbk)
      clear b0
      clear hbk
      have b0 := HB.out.c2 0 rfl
      dsimp only
      go_wp2_with fail
      refine (HEnt.out w4 HB.out.below).mono ?_
      rintro e w5 ⟨hb, m5, rfl, hS⟩
      have hbk := hb
      have HS := hid hS
      clear hS
      have HB := hid (HB.out.kept hbk)
      clear b0
      clear hbk
      have b0 := HB.out.c2 0 rfl
      have b1 := HB.out.c5 1 rfl
      dsimp only
      go_wp2_with (first | (refine store_bx HB.out 0 rfl 108 _ _ rfl rfl #[pv m5, .int .i64 nx] rfl rfl (by kernel_rfl) rfl rfl (by decide) (by decide) ?_; intro w6 hS hK hbS hsS; have HBS := hid hS; have HS := hid (HS.out.kept hK (HD.out.below hbS)); clear hS hK hbS hsS; have HB := HBS; clear HBS; clear b0 b1; have b0 := HB.out.c2 0 rfl; have b1 := HB.out.c5 1 rfl) | fail)
      refine (HWi.out m5 w6 HS.out).mono ?_
      rintro e w7 ⟨m6, rfl, hS, hb⟩
      have hbk := hb
      have HS := hid hS
      clear hS
      have HB := hid (HB.out.kept hbk)
      clear b0 b1
      clear hbk
      have b0 := HB.out.c2 0 rfl
      dsimp only
      go_wp2_with (first | (refine store_bx HB.out 0 rfl 108 _ _ rfl rfl #[pv m6, .int .i64 nx] rfl rfl (by kernel_rfl) rfl rfl (by decide) (by decide) ?_; intro w8 hS hK hbS hsS; have HBS := hid hS; have HS := hid (HS.out.kept hK (HD.out.below hbS)); clear hS hK hbS hsS; have HB := HBS; clear HBS; clear b0; have b0 := HB.out.c2 0 rfl; have fz0_1 : w8.frozen? ⟨w.heap.size, 1, none⟩ = false := HB.out.free 0 rfl 1; have HBq := HB; have HB := hid (show Bxs w [(w.heap.size, #[pv m6, .int .i64 (nx + 1)], 108), (w.heap.size + 1, #[.int .i64 k, .int .i64 mo, .string d, .string t, .slice none 0 0], 67), (w.heap.size + 1 + 1, #[.pointer none, .int .i64 0], 108), (w1.heap.size, #[.int .i64 dn, .int .i64 k1, .int .i64 m1, .string d1, .string t1, .slice a1 e1.length c1, .string y1], 216)] (w8.setCell ⟨w.heap.size, 1, none⟩ (.int .i64 (nx + 1))) from HBq.out.put 0 rfl 1 (.int .i64 (nx + 1))); have HS := hid (HS.out.kept (Kept.cell (HBq.out.obj 0 rfl) (by decide) (by decide) 1 (.int .i64 (nx + 1))) (HD.out.below HB.out.below)); have c0_0 : (w8.setCell ⟨w.heap.size, 1, none⟩ (.int .i64 (nx + 1))).cell? ⟨w.heap.size, 0, none⟩ = some (pv m6) := HB.out.cell 0 rfl 0; have c0_1 : (w8.setCell ⟨w.heap.size, 1, none⟩ (.int .i64 (nx + 1))).cell? ⟨w.heap.size, 1, none⟩ = some (.int .i64 (nx + 1)) := HB.out.cell 0 rfl 1) | (refine store_bx HB.out 2 rfl 108 _ _ rfl rfl #[pv m6, .int .i64 (nx + 1)] rfl rfl (by kernel_rfl) rfl rfl (by decide) (by decide) ?_; intro w9 hS hK hbS hsS; have HBS := hid hS; have HS := hid (HS.out.kept hK (HD.out.below hbS)); clear hS hK hbS hsS; have HB := HBS; clear HBS; clear b0 c0_0 c0_1 fz0_1; have b0 := HB.out.c2 0 rfl) | fail)
      refine bodyPost_ret_by (results_st rfl _ _ (w.heap.size + 1 + 1) _ _ rfl (HB.out.obj 2 rfl)) rfl ?_
      exact stated_ok HR.out HB.out.below HS.out
theorem pMakeFile_any (m : Option Nat) (nx : Int) (kd : Int) (oa ob : ByteArray) (oo og on : Int) (od : ByteArray) (w : World) {R : Except Int Fs.FS} (hC : ∀ W, Below w.heap.size w W -> Calls prog 151 #[stv m nx, .string oa, nv 1 on ⟨#[]⟩ ⟨#[]⟩ none 0 0] W (Stated R W)) (hD : Dg w) : Calls prog 118 #[stv m nx, .agg #[.int .i64 kd, .string oa, .string ob, .int .i64 oo, .int .i64 og, .int .i64 on, .string od]] w (Stated R w) := by
 have HC := hid hC
 have HD := hid hD
 clear hC hD
 cases R with
 | error ec =>
  go_enter func118, ntmps118
  go_wp2_with fail
  obtain ⟨W0, hW, HB⟩ := bx3 w m nx kd oa ob oo og on od; rw [hW]; clear hW
  go_wp2_with fail
  refine (HC.out W0 HB.out.below).mono ?_
  rintro e w1 ⟨hb, hne, rfl⟩
  have hbk := hb
  have HB := hid (HB.out.kept hbk)
  clear hbk
  dsimp only
  go_wp2_with (first | (refine store_bx HB.out 2 rfl 108 _ _ rfl rfl #[.pointer none, .int .i64 0] rfl rfl (by kernel_rfl) rfl rfl (by decide) (by decide) ?_; intro w2 hS hK hbS hsS; have HBS := hid hS; clear hS hK hbS hsS; have HB := HBS; clear HBS) | fail)
  refine bodyPost_ret_by (results_st rfl _ _ (w.heap.size + 1 + 1) _ _ rfl (HB.out.obj 2 rfl)) rfl ?_
  exact stated_err rfl hne HB.out.below
 | ok f =>
  obtain ⟨l2, n2⟩ := f
  go_enter func118, ntmps118
  go_wp2_with fail
  obtain ⟨W0, hW, HB⟩ := bx3 w m nx kd oa ob oo og on od; rw [hW]; clear hW
  go_wp2_with fail
  refine (HC.out W0 HB.out.below).mono ?_
  rintro e w1 ⟨hb, m6, rfl, hS⟩
  have hbk := hb
  have HS := hid hS
  clear hS
  have HB := hid (HB.out.kept hbk)
  clear hbk
  dsimp only
  go_wp2_with (first | (refine store_bx HB.out 2 rfl 108 _ _ rfl rfl #[pv m6, .int .i64 n2] rfl rfl (by kernel_rfl) rfl rfl (by decide) (by decide) ?_; intro w2 hS hK hbS hsS; have HBS := hid hS; have HS := hid (HS.out.kept hK (HD.out.below hbS)); clear hS hK hbS hsS; have HB := HBS; clear HBS) | fail)
  refine bodyPost_ret_by (results_st rfl _ _ (w.heap.size + 1 + 1) _ _ rfl (HB.out.obj 2 rfl)) rfl ?_
  exact stated_ok rfl HB.out.below HS.out
theorem pMakeDir_any (m : Option Nat) (nx : Int) (kd : Int) (oa ob : ByteArray) (oo og on : Int) (od : ByteArray) (w : World) {R : Except Int Fs.FS} (hC : ∀ W, Below w.heap.size w W -> Calls prog 151 #[stv m nx, .string oa, nv 2 on ⟨#[]⟩ ⟨#[]⟩ none 0 0] W (Stated R W)) (hD : Dg w) : Calls prog 119 #[stv m nx, .agg #[.int .i64 kd, .string oa, .string ob, .int .i64 oo, .int .i64 og, .int .i64 on, .string od]] w (Stated R w) := by
 have HC := hid hC
 have HD := hid hD
 clear hC hD
 cases R with
 | error ec =>
  go_enter func119, ntmps119
  go_wp2_with fail
  obtain ⟨W0, hW, HB⟩ := bx3 w m nx kd oa ob oo og on od; rw [hW]; clear hW
  go_wp2_with fail
  refine (HC.out W0 HB.out.below).mono ?_
  rintro e w1 ⟨hb, hne, rfl⟩
  have hbk := hb
  have HB := hid (HB.out.kept hbk)
  clear hbk
  dsimp only
  go_wp2_with (first | (refine store_bx HB.out 2 rfl 108 _ _ rfl rfl #[.pointer none, .int .i64 0] rfl rfl (by kernel_rfl) rfl rfl (by decide) (by decide) ?_; intro w2 hS hK hbS hsS; have HBS := hid hS; clear hS hK hbS hsS; have HB := HBS; clear HBS) | fail)
  refine bodyPost_ret_by (results_st rfl _ _ (w.heap.size + 1 + 1) _ _ rfl (HB.out.obj 2 rfl)) rfl ?_
  exact stated_err rfl hne HB.out.below
 | ok f =>
  obtain ⟨l2, n2⟩ := f
  go_enter func119, ntmps119
  go_wp2_with fail
  obtain ⟨W0, hW, HB⟩ := bx3 w m nx kd oa ob oo og on od; rw [hW]; clear hW
  go_wp2_with fail
  refine (HC.out W0 HB.out.below).mono ?_
  rintro e w1 ⟨hb, m6, rfl, hS⟩
  have hbk := hb
  have HS := hid hS
  clear hS
  have HB := hid (HB.out.kept hbk)
  clear hbk
  dsimp only
  go_wp2_with (first | (refine store_bx HB.out 2 rfl 108 _ _ rfl rfl #[pv m6, .int .i64 n2] rfl rfl (by kernel_rfl) rfl rfl (by decide) (by decide) ?_; intro w2 hS hK hbS hsS; have HBS := hid hS; have HS := hid (HS.out.kept hK (HD.out.below hbS)); clear hS hK hbS hsS; have HB := HBS; clear HBS) | fail)
  refine bodyPost_ret_by (results_st rfl _ _ (w.heap.size + 1 + 1) _ _ rfl (HB.out.obj 2 rfl)) rfl ?_
  exact stated_ok rfl HB.out.below HS.out
theorem pMakeSym_any (m : Option Nat) (nx : Int) (kd : Int) (oa ob : ByteArray) (oo og on : Int) (od : ByteArray) (w : World) {R : Except Int Fs.FS} (hC : ∀ W, Below w.heap.size w W -> Calls prog 151 #[stv m nx, .string oa, nv 3 511 ⟨#[]⟩ od none 0 0] W (Stated R W)) (hD : Dg w) : Calls prog 120 #[stv m nx, .agg #[.int .i64 kd, .string oa, .string ob, .int .i64 oo, .int .i64 og, .int .i64 on, .string od]] w (Stated R w) := by
 have HC := hid hC
 have HD := hid hD
 clear hC hD
 cases R with
 | error ec =>
  go_enter func120, ntmps120
  go_wp2_with fail
  obtain ⟨W0, hW, HB⟩ := bx3 w m nx kd oa ob oo og on od; rw [hW]; clear hW
  go_wp2_with fail
  refine (HC.out W0 HB.out.below).mono ?_
  rintro e w1 ⟨hb, hne, rfl⟩
  have hbk := hb
  have HB := hid (HB.out.kept hbk)
  clear hbk
  dsimp only
  go_wp2_with (first | (refine store_bx HB.out 2 rfl 108 _ _ rfl rfl #[.pointer none, .int .i64 0] rfl rfl (by kernel_rfl) rfl rfl (by decide) (by decide) ?_; intro w2 hS hK hbS hsS; have HBS := hid hS; clear hS hK hbS hsS; have HB := HBS; clear HBS) | fail)
  refine bodyPost_ret_by (results_st rfl _ _ (w.heap.size + 1 + 1) _ _ rfl (HB.out.obj 2 rfl)) rfl ?_
  exact stated_err rfl hne HB.out.below
 | ok f =>
  obtain ⟨l2, n2⟩ := f
  go_enter func120, ntmps120
  go_wp2_with fail
  obtain ⟨W0, hW, HB⟩ := bx3 w m nx kd oa ob oo og on od; rw [hW]; clear hW
  go_wp2_with fail
  refine (HC.out W0 HB.out.below).mono ?_
  rintro e w1 ⟨hb, m6, rfl, hS⟩
  have hbk := hb
  have HS := hid hS
  clear hS
  have HB := hid (HB.out.kept hbk)
  clear hbk
  dsimp only
  go_wp2_with (first | (refine store_bx HB.out 2 rfl 108 _ _ rfl rfl #[pv m6, .int .i64 n2] rfl rfl (by kernel_rfl) rfl rfl (by decide) (by decide) ?_; intro w2 hS hK hbS hsS; have HBS := hid hS; have HS := hid (HS.out.kept hK (HD.out.below hbS)); clear hS hK hbS hsS; have HB := HBS; clear HBS) | fail)
  refine bodyPost_ret_by (results_st rfl _ _ (w.heap.size + 1 + 1) _ _ rfl (HB.out.obj 2 rfl)) rfl ?_
  exact stated_ok rfl HB.out.below HS.out
end Go.Proofs.YthbajmlmjjfgpaaGreatDoor
