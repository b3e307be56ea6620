/- A part of the proofs. -/
import Derived.Maps.OwnSet
import Derived.Test.YthbajmlmjjfgpaaGreatDoorC20
set_option maxRecDepth 1000000
set_option maxHeartbeats 16000000
open Go.Lib (hid)
open Go.Proofs.Tryz
namespace Go.Proofs.YthbajmlmjjfgpaaGreatDoor
open T6
open Go.RowKit Go.Less
open T8 (pv Dg)
attribute [local go_sem 9000] sem_eql sem_neq
theorem file_cases {l : List Fs.Item} {p : ByteArray} {ns : List ByteArray} (hs : spl p = some ns) : (∃ ec, ec ≠ 0 /\ Fs.file l ns = .error ec /\ fileR l p = (0, Nd.none0, ec)) \/ ∃ i, Fs.walk l 1 ns = .ok i /\ Fs.file l ns = .ok (i, Fs.nodeD l i) /\ fileR l p = (i, Fs.nodeD l i, 0) /\ (Fs.nodeD l i).kind ≠ 2 /\ (Fs.nodeD l i).kind ≠ 3 := by
 rcases find_cases (l := l) hs with ⟨ec, hne, hw, hf⟩ | ⟨i, hw, hf⟩
 ·exact .inl ⟨ec, hne, by unfold Fs.file; rw [hw], by unfold fileR; rw [hf, if_pos hne]⟩
 ·by_cases h2 : (Fs.nodeD l i).kind = 2
  ·exact .inl ⟨11, by decide, by unfold Fs.file; rw [hw]; simp only; rw [if_pos h2], by unfold fileR; rw [hf, if_neg (by simp), if_pos h2]⟩
  ·by_cases h3 : (Fs.nodeD l i).kind = 3
   ·exact .inl ⟨16, by decide, by unfold Fs.file; rw [hw]; simp only; rw [if_neg h2, if_pos h3], by unfold fileR; rw [hf, if_neg (by simp), if_neg h2, if_pos h3]⟩
   ·exact .inr ⟨i, hw, by unfold Fs.file; rw [hw]; simp only; rw [if_neg h2, if_neg h3], by unfold fileR; rw [hf, if_neg (by simp), if_neg h2, if_neg h3], h2, h3⟩
theorem kinds_of {f : Fs.FS} (G : Fs.Half env f) {p : ByteArray} {i : Int} {x : Nd.Node} (h : findR f.l p = (i, x, 0)) : x.kind = 1 \/ x.kind = 2 \/ x.kind = 3 := by
 rcases find_cases2 f.l p with ⟨e, hne, hf⟩ | ⟨ns, j, hs, hw, hf⟩
 ·rw [hf] at h
  injection h with _ h
  injection h with _ h
  exact absurd h hne
 ·rw [hf] at h
  injection h with _ h
  injection h with h _
  obtain ⟨y, hy, hyD⟩ := G.walk_node hw
  rw [<- h, hyD]
  rcases (G.right hy).kinds with ⟨hk, _⟩ | ⟨hk, _⟩ | ⟨hk, _⟩
  ·exact .inl hk
  ·exact .inr (.inl hk)
  ·exact .inr (.inr hk)
theorem right_data {x : Nd.Node} (h : Nd.Right less Nm.right x) (h2 : x.kind ≠ 2) (h3 : x.kind ≠ 3) {s : ByteArray} (hs : s.size <= 4096) : Nd.Right less Nm.right { x with data := s } := by
 refine ⟨h.m0, h.m1, h.len, h.ok, h.rise, ?_⟩
 rcases h.kinds with ⟨a, b, c, _⟩ | ⟨a, _⟩ | ⟨a, _⟩
 ·exact .inl ⟨a, b, c, hs⟩
 ·exact absurd a h2
 ·exact absurd a h3
theorem data_size {x : Nd.Node} (h : Nd.Right less Nm.right x) : x.data.size <= 4096 := by
 rcases h.kinds with ⟨_, _, _, e⟩ | ⟨_, _, e⟩ | ⟨_, e, _⟩
 ·exact e
 ·rw [e]; decide
 ·rw [e]; decide
theorem change_any (gk : Nat) (lb : Array Value) (eg : ∀ args w, (callFunc gk args).run prog w = .ok (.enter gk args) w) (Gf : ByteArray -> ByteArray × Int) (m : Option Nat) (nx : Int) (l : List Fs.Item) (p : ByteArray) (w : World) (h : Sv w m l) (G : Fs.Half env ⟨l, nx⟩) (hf9 : l.length <= 900) (pp : p.size <= 140737488355328) {ns : List ByteArray} (hs : spl p = some ns)
  (HC0 : ∀ s, s.size <= 4096 -> ∀ W, Below w.heap.size w W -> Calls prog gk (#[.string s] ++ lb) W λe w' => e = .returned (.tuple #[.string (Gf s).1, .int .i64 (Gf s).2]) /\ Below W.heap.size W w')
  (hG : ∀ s, s.size <= 4096 -> (Gf s).2 = 0 -> (Gf s).1.size <= 4096) {R : Except Int Fs.FS} (hR : R = match Fs.file l ns with
   | .error e => .error e
   | .ok (i, x) => match Fs.asked (Gf x.data) with
    | .error e => .error e
    | .ok s => .ok ⟨Fs.setL l i { x with data := s }, nx⟩) : Calls prog 162 #[stv m nx, .string p, .func (.func gk) #[] lb] w (Stated R w) := by
 have HFi := hid (λW (hbw : Below w.heap.size w W) => pFile_any m nx l p W (h.below hbw) pp (λi x hx => kinds_of G hx))
 have HD := hid h.dg
 have HSv := hid (λW (hb : Below w.heap.size w W) => h.below hb)
 rcases file_cases (l := l) hs with ⟨ec, hne, hf, hfr⟩ | ⟨i, hw, hf, hfr, hk2, hk3⟩
 ·rw [hf] at hR
  rw [hfr] at HFi
  have HR := hid hR
  clear hR hf hfr h G hs HC0 hG
  have HB := hid (show Bxs w [(w.heap.size, #[pv m, .int .i64 nx], 108), (w.heap.size + 1, #[.pointer none, .int .i64 0], 108)] ((w.alloc (.cells #[pv m, .int .i64 nx] 108)).alloc (.cells #[.pointer none, .int .i64 0] 108)) from Bxs.two w _ _ _ _)
  go_enter func162, ntmps162
  go_wp2_with fail
  generalize (w.alloc (.cells #[pv m, .int .i64 nx] 108)).alloc (.cells #[.pointer none, .int .i64 0] 108) = W0 at HB |-
  go_wp2_with fail
  refine (HFi.out W0 HB.out.below).mono ?_
  rintro e w1 ⟨ea, eb, rfl, hE, hb⟩
  have hbk := hb
  clear hE
  have HB := hid (HB.out.kept hbk)
  clear hbk
  have HB := hid (HB.out.more #[.int .i64 0, .int .i64 0, .string ⟨#[]⟩, .string ⟨#[]⟩, .slice ea 0 eb] 67 rfl)
  dsimp only
  go_wp2_with (first | (refine store_bx HB.out 1 rfl 108 _ _ rfl rfl #[.pointer none, .int .i64 0] rfl rfl (by kernel_rfl) rfl rfl (by decide) (by decide) ?_; intro w2 hS hK hbS hsS; have HBS := hid hS; clear hS hK hbS hsS; have HB := HBS; clear HBS) | fail)
  refine bodyPost_ret_by (results_st rfl _ _ (w.heap.size + 1) _ _ rfl (HB.out.obj 1 rfl)) rfl ?_
  exact stated_err HR.out hne HB.out.below
 ·obtain ⟨x, hx, hxD⟩ := G.walk_node hw
  have hxr := h.ok.node hx
  have hXi := hxr.2
  have hXs : (Fs.node l i).isSome = true := by rw [hx]; rfl
  have hds := data_size hxr.1
  rw [hxD] at hf hfr hk2 hk3
  rw [hf] at hR
  rw [hfr] at HFi
  obtain ⟨k, mo, d, t, es⟩ := x
  have hRd := λs hs => right_data hxr.1 hk2 hk3 (s := s) hs
  have HC := hid (HC0 d hds)
  have hGd := hG d hds
  simp only at hR
  obtain ⟨⟨s2, c2⟩, hg⟩ : ∃ r, Gf d = r := ⟨_, rfl⟩
  rw [hg] at HC hR hGd
  unfold Fs.asked at hR
  clear HC0 hG hf hfr hk2 hk3 hx hxD hxr hg h G hs hw hds
  by_cases hc : c2 = 0
  ·subst hc
   rw [if_neg (by simp)] at hR
   have HR := hid hR
   have hRs := hRd s2 (hGd rfl)
   have HWi := hid (λa c W (hb : Below w.heap.size w W) (hE : Ents a es.length es W) => pWith_any m nx l i ⟨k, mo, s2, t, es⟩ a c W (HSv.out W hb) hE hRs hXi (.inl hXs) hf9)
   clear hR hRd hGd hRs
   have HB := hid (show Bxs w [(w.heap.size, #[pv m, .int .i64 nx], 108), (w.heap.size + 1, #[.pointer none, .int .i64 0], 108)] ((w.alloc (.cells #[pv m, .int .i64 nx] 108)).alloc (.cells #[.pointer none, .int .i64 0] 108)) from Bxs.two w _ _ _ _)
   go_enter func162, ntmps162
   go_wp2_with fail
   generalize (w.alloc (.cells #[pv m, .int .i64 nx] 108)).alloc (.cells #[.pointer none, .int .i64 0] 108) = W0 at HB |-
   go_wp2_with fail
   refine (HFi.out W0 HB.out.below).mono ?_
   rintro e w1 ⟨a, c, rfl, hE, hb⟩
   have hbk := hb
   have HEn := hid (hE.below (below_one w1 (.cells #[.int .i64 k, .int .i64 mo, .string d, .string t, .slice a es.length c] 67)))
   clear hE
   have HB := hid (HB.out.kept hbk)
   clear hbk
   have HB := hid (HB.out.more #[.int .i64 k, .int .i64 mo, .string d, .string t, .slice a es.length c] 67 rfl)
   dsimp only
   go_wp2_with fail
   refine (HC.out (w1.alloc (.cells #[.int .i64 k, .int .i64 mo, .string d, .string t, .slice a es.length c] 67)) HB.out.below).mono ?_
   rintro e w2 ⟨rfl, hb⟩
   have hbk := hb
   have HEn := hid (HEn.out.below hb)
   have HB := hid (HB.out.kept hbk)
   clear hbk
   have b2 := HB.out.c5 2 rfl
   dsimp only
   have fz2_2 : w2.frozen? ⟨w1.heap.size, 2, none⟩ = false := HB.out.free 2 rfl 2
   have HBq := HB
   have HB := hid (show Bxs w [(w.heap.size, #[pv m, .int .i64 nx], 108), (w.heap.size + 1, #[.pointer none, .int .i64 0], 108), (w1.heap.size, #[.int .i64 k, .int .i64 mo, .string s2, .string t, .slice a es.length c], 67)] (w2.setCell ⟨w1.heap.size, 2, none⟩ (.string s2)) from HBq.out.put 2 rfl 2 (.string s2))
   have c0_0 : (w2.setCell ⟨w1.heap.size, 2, none⟩ (.string s2)).cell? ⟨w.heap.size, 0, none⟩ = some (pv m) := HB.out.cell 0 rfl 0
   have c0_1 : (w2.setCell ⟨w1.heap.size, 2, none⟩ (.string s2)).cell? ⟨w.heap.size, 1, none⟩ = some (.int .i64 nx) := HB.out.cell 0 rfl 1
   have c2_0 : (w2.setCell ⟨w1.heap.size, 2, none⟩ (.string s2)).cell? ⟨w1.heap.size, 0, none⟩ = some (.int .i64 k) := HB.out.cell 2 rfl 0
   have c2_1 : (w2.setCell ⟨w1.heap.size, 2, none⟩ (.string s2)).cell? ⟨w1.heap.size, 1, none⟩ = some (.int .i64 mo) := HB.out.cell 2 rfl 1
   have c2_2 : (w2.setCell ⟨w1.heap.size, 2, none⟩ (.string s2)).cell? ⟨w1.heap.size, 2, none⟩ = some (.string s2) := HB.out.cell 2 rfl 2
   have c2_3 : (w2.setCell ⟨w1.heap.size, 2, none⟩ (.string s2)).cell? ⟨w1.heap.size, 3, none⟩ = some (.string t) := HB.out.cell 2 rfl 3
   have c2_4 : (w2.setCell ⟨w1.heap.size, 2, none⟩ (.string s2)).cell? ⟨w1.heap.size, 4, none⟩ = some (.slice a es.length c) := HB.out.cell 2 rfl 4
   have HEn := hid ((Kept.cell (HBq.out.obj 2 rfl) (by decide) (by decide) 2 (.string s2)).ents (HBq.out.obj 2 rfl) (noEnt43 _ _ _ _ _ _ _) HEn.out)
   go_wp2_with fail
   refine (HWi.out a c (w2.setCell ⟨w1.heap.size, 2, none⟩ (.string s2)) HB.out.below HEn.out).mono ?_
   rintro e w3 ⟨m6, rfl, hS, hb⟩
   have hbk := hb
   have HS := hid hS
   clear hS
   have HB := hid (HB.out.kept hbk)
   clear b2 c0_0 c0_1 c2_0 c2_1 c2_2 c2_3 c2_4 fz2_2
   clear hbk
   dsimp only
   go_wp2_with (first | (refine store_bx HB.out 1 rfl 108 _ _ rfl rfl #[pv m6, .int .i64 nx] rfl rfl (by kernel_rfl) rfl rfl (by decide) (by decide) ?_; intro w4 hS hK hbS hsS; have HBS := hid hS; have HS := hid (HS.out.kept hK (HD.out.below hbS)); clear hS hK hbS hsS; have HB := HBS; clear HBS) | fail)
   refine bodyPost_ret_by (results_st rfl _ _ (w.heap.size + 1) _ _ rfl (HB.out.obj 1 rfl)) rfl ?_
   exact stated_ok HR.out HB.out.below HS.out
  ·rw [if_pos hc] at hR
   have HR := hid hR
   clear hR hRd hGd
   have HB := hid (show Bxs w [(w.heap.size, #[pv m, .int .i64 nx], 108), (w.heap.size + 1, #[.pointer none, .int .i64 0], 108)] ((w.alloc (.cells #[pv m, .int .i64 nx] 108)).alloc (.cells #[.pointer none, .int .i64 0] 108)) from Bxs.two w _ _ _ _)
   go_enter func162, ntmps162
   go_wp2_with fail
   generalize (w.alloc (.cells #[pv m, .int .i64 nx] 108)).alloc (.cells #[.pointer none, .int .i64 0] 108) = W0 at HB |-
   go_wp2_with fail
   refine (HFi.out W0 HB.out.below).mono ?_
   rintro e w1 ⟨a, c, rfl, hE, hb⟩
   have hbk := hb
   clear hE
   have HB := hid (HB.out.kept hbk)
   clear hbk
   have HB := hid (HB.out.more #[.int .i64 k, .int .i64 mo, .string d, .string t, .slice a es.length c] 67 rfl)
   dsimp only
   go_wp2_with fail
   refine (HC.out (w1.alloc (.cells #[.int .i64 k, .int .i64 mo, .string d, .string t, .slice a es.length c] 67)) HB.out.below).mono ?_
   rintro e w2 ⟨rfl, hb⟩
   have hbk := hb
   have HB := hid (HB.out.kept hbk)
   clear hbk
   have b2 := HB.out.c5 2 rfl
   dsimp only
   have fz2_2 : w2.frozen? ⟨w1.heap.size, 2, none⟩ = false := HB.out.free 2 rfl 2
   have HBq := HB
   have HB := hid (show Bxs w [(w.heap.size, #[pv m, .int .i64 nx], 108), (w.heap.size + 1, #[.pointer none, .int .i64 0], 108), (w1.heap.size, #[.int .i64 k, .int .i64 mo, .string s2, .string t, .slice a es.length c], 67)] (w2.setCell ⟨w1.heap.size, 2, none⟩ (.string s2)) from HBq.out.put 2 rfl 2 (.string s2))
   go_wp2_with (first | (refine store_bx HB.out 1 rfl 108 _ _ rfl rfl #[.pointer none, .int .i64 0] rfl rfl (by kernel_rfl) rfl rfl (by decide) (by decide) ?_; intro w3 hS hK hbS hsS; have HBS := hid hS; clear hS hK hbS hsS; have HB := HBS; clear HBS; clear b2 fz2_2) | fail)
   refine bodyPost_ret_by (results_st rfl _ _ (w.heap.size + 1) _ _ rfl (HB.out.obj 1 rfl)) rfl ?_
   exact stated_err HR.out hc HB.out.below
theorem c131_any (g : Nat) (s : ByteArray) (kd : Int) (oa ob : ByteArray) (oo og on : Int) (od : ByteArray) (w : World) (hs : s.size <= 4096) (hod : od.size <= 140737488355328) (hoo : oo <= 9223372036854775807) (hg : w.heap[g]? = some (.cells #[.int .i64 kd, .string oa, .string ob, .int .i64 oo, .int .i64 og, .int .i64 on, .string od] 74 (0, 0))) : Calls prog 163 #[.string s, .pointer (some ⟨g, 0, none⟩)] w λe w' => e = .returned (.tuple #[.string (env.put s oo od).1, .int .i64 (env.put s oo od).2]) /\ Below w.heap.size w w' := by
 have HP := hid (put_any s oo od w (Nat.le_trans hs (by decide)) hod hoo)
 have o3 : w.cell? ⟨g, 3, none⟩ = some (.int .i64 oo) := cell_obj hg 3
 have o6 : w.cell? ⟨g, 6, none⟩ = some (.string od) := cell_obj hg 6
 clear hg hs hod hoo
 go_enter func163, ntmps163
 go_wp2_with fail
 refine HP.out.mono ?_
 rintro e w2 ⟨rfl, hb⟩
 dsimp only
 go_wp2_with fail
 go_ret2
 exact ⟨rfl, hb⟩
theorem c133_any (g : Nat) (s : ByteArray) (kd : Int) (oa ob : ByteArray) (oo og on : Int) (od : ByteArray) (w : World) (hg : w.heap[g]? = some (.cells #[.int .i64 kd, .string oa, .string ob, .int .i64 oo, .int .i64 og, .int .i64 on, .string od] 74 (0, 0))) : Calls prog 164 #[.string s, .pointer (some ⟨g, 0, none⟩)] w λe w' => e = .returned (.tuple #[.string (env.trunc s on).1, .int .i64 (env.trunc s on).2]) /\ Below w.heap.size w w' := by
 have HP := hid (trunc_any s on w)
 have o5 : w.cell? ⟨g, 5, none⟩ = some (.int .i64 on) := cell_obj hg 5
 clear hg
 go_enter func164, ntmps164
 go_wp2_with fail
 refine HP.out.mono ?_
 rintro e w2 ⟨rfl, hb⟩
 dsimp only
 go_wp2_with fail
 go_ret2
 exact ⟨rfl, hb⟩
def cloneG (l : List Fs.Item) (nb : List ByteArray) (oo og on : Int) (s : ByteArray) : ByteArray × Int := match Fs.file l nb with
 | .error e => (⟨#[]⟩, e)
 | .ok (_, y) => env.copy s oo y.data og on
theorem c135_any (q g : Nat) (s : ByteArray) (m : Option Nat) (nx : Int) (l : List Fs.Item) (kd : Int) (oa ob : ByteArray) (oo og on : Int) (od : ByteArray) (w : World) (h : Sv w m l) (G : Fs.Half env ⟨l, nx⟩) (pb : ob.size <= 140737488355328) {nb : List ByteArray} (hb : spl ob = some nb) (hs : s.size <= 4096) (hoo : oo <= 9223372036854775807) (hog : og <= 9223372036854775807) (hon : on <= 9223372036854775807) (hq : w.heap[q]? = some (.cells #[pv m, .int .i64 nx] 108 (0, 0))) (hg : w.heap[g]? = some (.cells #[.int .i64 kd, .string oa, .string ob, .int .i64 oo, .int .i64 og, .int .i64 on, .string od] 74 (0, 0))) : Calls prog 165 #[.string s, .pointer (some ⟨q, 0, none⟩), .pointer (some ⟨g, 0, none⟩)] w λe w' => e = .returned (.tuple #[.string (cloneG l nb oo og on s).1, .int .i64 (cloneG l nb oo og on s).2]) /\ Below w.heap.size w w' := by
 have HFi := hid (pFile_any m nx l ob w h pb (λi x hx => kinds_of G hx))
 have q0 : w.cell? ⟨q, 0, none⟩ = some (pv m) := cell_obj hq 0
 have q1 : w.cell? ⟨q, 1, none⟩ = some (.int .i64 nx) := cell_obj hq 1
 have o2 : w.cell? ⟨g, 2, none⟩ = some (.string ob) := cell_obj hg 2
 have HG := hid hg
 clear hg hq
 rcases file_cases (l := l) hb with ⟨ec, hne, hf, hfr⟩ | ⟨i, hw, hf, hfr, hk2, hk3⟩
 ·rw [hfr] at HFi
  have HR := hid (show cloneG l nb oo og on s = (⟨#[]⟩, ec) by unfold cloneG; rw [hf])
  clear hf hfr h G hb
  go_enter func165, ntmps165
  go_wp2_with fail
  refine HFi.out.mono ?_
  rintro e w2 ⟨ea, eb, rfl, hE, hb⟩
  clear hE q0 q1 o2
  dsimp only
  go_wp2_with fail
  go_ret2
  rw [HR.out]
  exact ⟨rfl, hb.trans (below_one _ _ |>.mono hb.size)⟩
 ·obtain ⟨x, hx, hxD⟩ := G.walk_node hw
  have hds := data_size (h.ok.node hx).1
  rw [hxD] at hf hfr
  rw [hfr] at HFi
  obtain ⟨k, mo, d, t, es⟩ := x
  have HR := hid (show cloneG l nb oo og on s = env.copy s oo d og on by unfold cloneG; rw [hf])
  have HP := hid (λW => copy_any s oo d og on W (Nat.le_trans hs (by decide)) (Nat.le_trans hds (by decide)) hoo hog hon)
  clear hf hfr h G hb hw hk2 hk3 hx hxD hds hs hoo hog hon
  go_enter func165, ntmps165
  go_wp2_with fail
  refine HFi.out.mono ?_
  rintro e w2 ⟨ea, eb, rfl, hE, hb⟩
  have hb3 := hb.trans ((below_one w2 (.cells #[.int .i64 k, .int .i64 mo, .string d, .string t, .slice ea es.length eb] 67)).mono hb.size)
  have hG3 := (hb3.block _ (lt_of_obj HG.out)).trans HG.out
  have o3 : (w2.alloc (.cells #[.int .i64 k, .int .i64 mo, .string d, .string t, .slice ea es.length eb] 67)).cell? ⟨g, 3, none⟩ = some (.int .i64 oo) := cell_obj hG3 3
  have o4 : (w2.alloc (.cells #[.int .i64 k, .int .i64 mo, .string d, .string t, .slice ea es.length eb] 67)).cell? ⟨g, 4, none⟩ = some (.int .i64 og) := cell_obj hG3 4
  have o5 : (w2.alloc (.cells #[.int .i64 k, .int .i64 mo, .string d, .string t, .slice ea es.length eb] 67)).cell? ⟨g, 5, none⟩ = some (.int .i64 on) := cell_obj hG3 5
  have HB3 := hid hb3
  clear hE q0 q1 o2 hG3 hb3 hb
  dsimp only
  go_wp2_with fail
  refine (HP.out _).mono ?_
  rintro e w4 ⟨rfl, hb4⟩
  have HB4 := hid (HB3.out.trans (hb4.mono HB3.out.size))
  clear o3 o4 o5 hb4
  dsimp only
  go_wp2_with fail
  go_ret2
  rw [HR.out]
  exact ⟨rfl, HB4.out⟩
theorem pWrite_any (m : Option Nat) (nx : Int) (kd : Int) (oa ob : ByteArray) (oo og on : Int) (od : ByteArray) (w : World) {R : Except Int Fs.FS} (hC : ∀ W, Bxs w [(w.heap.size, #[pv m, .int .i64 nx], 108), (w.heap.size + 1, #[.int .i64 kd, .string oa, .string ob, .int .i64 oo, .int .i64 og, .int .i64 on, .string od], 74), (w.heap.size + 1 + 1, #[.pointer none, .int .i64 0], 108)] W -> Calls prog 162 #[stv m nx, .string oa, .func (.func 163) #[] #[.pointer (some ⟨w.heap.size + 1, 0, none⟩)]] W (Stated R W)) (hD : Dg w) : Calls prog 125 #[stv m nx, .agg #[.int .i64 kd, .string oa, .string ob, .int .i64 oo, .int .i64 og, .int .i64 on, .string od]] w (Stated R w) := by
 have HC := hid hC
 have HD := hid hD
 clear hC hD
 cases R with
 | error ec =>
  go_enter func125, ntmps125
  go_wp2_with fail
  obtain ⟨W0, hW, HB⟩ := bx3 w m nx kd oa ob oo og on od; rw [hW]; clear hW
  go_wp2_with fail
  refine (HC.out W0 HB.out).mono ?_
  rintro e w1 ⟨hb, hne, rfl⟩
  have hbk := hb
  have HB := hid (HB.out.kept hbk)
  clear hbk
  dsimp only
  go_wp2_with (first | (refine store_bx HB.out 2 rfl 108 _ _ rfl rfl #[.pointer none, .int .i64 0] rfl rfl (by kernel_rfl) rfl rfl (by decide) (by decide) ?_; intro w2 hS hK hbS hsS; have HBS := hid hS; clear hS hK hbS hsS; have HB := HBS; clear HBS) | fail)
  refine bodyPost_ret_by (results_st rfl _ _ (w.heap.size + 1 + 1) _ _ rfl (HB.out.obj 2 rfl)) rfl ?_
  exact stated_err rfl hne HB.out.below
 | ok f =>
  obtain ⟨l2, n2⟩ := f
  go_enter func125, ntmps125
  go_wp2_with fail
  obtain ⟨W0, hW, HB⟩ := bx3 w m nx kd oa ob oo og on od; rw [hW]; clear hW
  go_wp2_with fail
  refine (HC.out W0 HB.out).mono ?_
  rintro e w1 ⟨hb, m6, rfl, hS⟩
  have hbk := hb
  have HS := hid hS
  clear hS
  have HB := hid (HB.out.kept hbk)
  clear hbk
  dsimp only
  go_wp2_with (first | (refine store_bx HB.out 2 rfl 108 _ _ rfl rfl #[pv m6, .int .i64 n2] rfl rfl (by kernel_rfl) rfl rfl (by decide) (by decide) ?_; intro w2 hS hK hbS hsS; have HBS := hid hS; have HS := hid (HS.out.kept hK (HD.out.below hbS)); clear hS hK hbS hsS; have HB := HBS; clear HBS) | fail)
  refine bodyPost_ret_by (results_st rfl _ _ (w.heap.size + 1 + 1) _ _ rfl (HB.out.obj 2 rfl)) rfl ?_
  exact stated_ok rfl HB.out.below HS.out
theorem pTruncate_any (m : Option Nat) (nx : Int) (kd : Int) (oa ob : ByteArray) (oo og on : Int) (od : ByteArray) (w : World) {R : Except Int Fs.FS} (hC : ∀ W, Bxs w [(w.heap.size, #[pv m, .int .i64 nx], 108), (w.heap.size + 1, #[.int .i64 kd, .string oa, .string ob, .int .i64 oo, .int .i64 og, .int .i64 on, .string od], 74), (w.heap.size + 1 + 1, #[.pointer none, .int .i64 0], 108)] W -> Calls prog 162 #[stv m nx, .string oa, .func (.func 164) #[] #[.pointer (some ⟨w.heap.size + 1, 0, none⟩)]] W (Stated R W)) (hD : Dg w) : Calls prog 126 #[stv m nx, .agg #[.int .i64 kd, .string oa, .string ob, .int .i64 oo, .int .i64 og, .int .i64 on, .string od]] w (Stated R w) := by
 have HC := hid hC
 have HD := hid hD
 clear hC hD
 cases R with
 | error ec =>
  go_enter func126, ntmps126
  go_wp2_with fail
  obtain ⟨W0, hW, HB⟩ := bx3 w m nx kd oa ob oo og on od; rw [hW]; clear hW
  go_wp2_with fail
  refine (HC.out W0 HB.out).mono ?_
  rintro e w1 ⟨hb, hne, rfl⟩
  have hbk := hb
  have HB := hid (HB.out.kept hbk)
  clear hbk
  dsimp only
  go_wp2_with (first | (refine store_bx HB.out 2 rfl 108 _ _ rfl rfl #[.pointer none, .int .i64 0] rfl rfl (by kernel_rfl) rfl rfl (by decide) (by decide) ?_; intro w2 hS hK hbS hsS; have HBS := hid hS; clear hS hK hbS hsS; have HB := HBS; clear HBS) | fail)
  refine bodyPost_ret_by (results_st rfl _ _ (w.heap.size + 1 + 1) _ _ rfl (HB.out.obj 2 rfl)) rfl ?_
  exact stated_err rfl hne HB.out.below
 | ok f =>
  obtain ⟨l2, n2⟩ := f
  go_enter func126, ntmps126
  go_wp2_with fail
  obtain ⟨W0, hW, HB⟩ := bx3 w m nx kd oa ob oo og on od; rw [hW]; clear hW
  go_wp2_with fail
  refine (HC.out W0 HB.out).mono ?_
  rintro e w1 ⟨hb, m6, rfl, hS⟩
  have hbk := hb
  have HS := hid hS
  clear hS
  have HB := hid (HB.out.kept hbk)
  clear hbk
  dsimp only
  go_wp2_with (first | (refine store_bx HB.out 2 rfl 108 _ _ rfl rfl #[pv m6, .int .i64 n2] rfl rfl (by kernel_rfl) rfl rfl (by decide) (by decide) ?_; intro w2 hS hK hbS hsS; have HBS := hid hS; have HS := hid (HS.out.kept hK (HD.out.below hbS)); clear hS hK hbS hsS; have HB := HBS; clear HBS) | fail)
  refine bodyPost_ret_by (results_st rfl _ _ (w.heap.size + 1 + 1) _ _ rfl (HB.out.obj 2 rfl)) rfl ?_
  exact stated_ok rfl HB.out.below HS.out
theorem pClone_any (m : Option Nat) (nx : Int) (kd : Int) (oa ob : ByteArray) (oo og on : Int) (od : ByteArray) (w : World) {R : Except Int Fs.FS} (hC : ∀ W, Bxs w [(w.heap.size, #[pv m, .int .i64 nx], 108), (w.heap.size + 1, #[.int .i64 kd, .string oa, .string ob, .int .i64 oo, .int .i64 og, .int .i64 on, .string od], 74), (w.heap.size + 1 + 1, #[.pointer none, .int .i64 0], 108)] W -> Calls prog 162 #[stv m nx, .string oa, .func (.func 165) #[] #[.pointer (some ⟨w.heap.size, 0, none⟩), .pointer (some ⟨w.heap.size + 1, 0, none⟩)]] W (Stated R W)) (hD : Dg w) : Calls prog 127 #[stv m nx, .agg #[.int .i64 kd, .string oa, .string ob, .int .i64 oo, .int .i64 og, .int .i64 on, .string od]] w (Stated R w) := by
 have HC := hid hC
 have HD := hid hD
 clear hC hD
 cases R with
 | error ec =>
  go_enter func127, ntmps127
  go_wp2_with fail
  obtain ⟨W0, hW, HB⟩ := bx3 w m nx kd oa ob oo og on od; rw [hW]; clear hW
  go_wp2_with fail
  refine (HC.out W0 HB.out).mono ?_
  rintro e w1 ⟨hb, hne, rfl⟩
  have hbk := hb
  have HB := hid (HB.out.kept hbk)
  clear hbk
  dsimp only
  go_wp2_with (first | (refine store_bx HB.out 2 rfl 108 _ _ rfl rfl #[.pointer none, .int .i64 0] rfl rfl (by kernel_rfl) rfl rfl (by decide) (by decide) ?_; intro w2 hS hK hbS hsS; have HBS := hid hS; clear hS hK hbS hsS; have HB := HBS; clear HBS) | fail)
  refine bodyPost_ret_by (results_st rfl _ _ (w.heap.size + 1 + 1) _ _ rfl (HB.out.obj 2 rfl)) rfl ?_
  exact stated_err rfl hne HB.out.below
 | ok f =>
  obtain ⟨l2, n2⟩ := f
  go_enter func127, ntmps127
  go_wp2_with fail
  obtain ⟨W0, hW, HB⟩ := bx3 w m nx kd oa ob oo og on od; rw [hW]; clear hW
  go_wp2_with fail
  refine (HC.out W0 HB.out).mono ?_
  rintro e w1 ⟨hb, m6, rfl, hS⟩
  have hbk := hb
  have HS := hid hS
  clear hS
  have HB := hid (HB.out.kept hbk)
  clear hbk
  dsimp only
  go_wp2_with (first | (refine store_bx HB.out 2 rfl 108 _ _ rfl rfl #[pv m6, .int .i64 n2] rfl rfl (by kernel_rfl) rfl rfl (by decide) (by decide) ?_; intro w2 hS hK hbS hsS; have HBS := hid hS; have HS := hid (HS.out.kept hK (HD.out.below hbS)); clear hS hK hbS hsS; have HB := HBS; clear HBS) | fail)
  refine bodyPost_ret_by (results_st rfl _ _ (w.heap.size + 1 + 1) _ _ rfl (HB.out.obj 2 rfl)) rfl ?_
  exact stated_ok rfl HB.out.below HS.out
end Go.Proofs.YthbajmlmjjfgpaaGreatDoor
namespace Fs
open Nd (En Node none0)
open Go.Less (less)
def insL : List Item -> Int -> Node -> List Item
 | [], i, x => [(i, x)]
 | y :: l, i, x => if y.1 < i then y :: insL l i x else if y.1 = i then (i, x) :: l else (i, x) :: y :: l
theorem mem_insL {l : List Item} {i : Int} {x : Node} {y : Item} (h : y ∈ insL l i x) : y = (i, x) \/ y ∈ l := by
 induction l with
 | nil => exact .inl (List.mem_singleton.1 h)
 | cons z l ih =>
  unfold insL at h
  split at h
  ·rcases List.mem_cons.1 h with h | h
   ·exact .inr (h ▸ List.mem_cons_self)
   ·exact (ih h).imp id (List.mem_cons_of_mem _)
  ·split at h
   ·rcases List.mem_cons.1 h with h | h
    ·exact .inl h
    ·exact .inr (List.mem_cons_of_mem _ h)
   ·rcases List.mem_cons.1 h with h | h
    ·exact .inl h
    ·exact .inr h
theorem rising_insL {l : List Item} (h : Rising l) (i : Int) (x : Node) : Rising (insL l i x) := by
 induction l with
 | nil => exact List.pairwise_singleton _ _
 | cons y l ih =>
  obtain ⟨h1, h2⟩ := List.pairwise_cons.1 h
  unfold insL
  split
  ·rename_i hy
   refine List.pairwise_cons.2 ⟨λz hz => ?_, ih h2⟩
   rcases mem_insL hz with rfl | hz
   ·exact hy
   ·exact h1 z hz
  ·split
   ·rename_i hy
    exact List.pairwise_cons.2 ⟨λz hz => by have := h1 z hz; show i < z.1; omega, h2⟩
   ·refine List.pairwise_cons.2 ⟨λz hz => ?_, h⟩
    rcases List.mem_cons.1 hz with rfl | hz
    ·show i < z.1; omega
    ·have := h1 z hz; show i < z.1; omega
theorem node_insL {l : List Item} (h : Rising l) (i k : Int) (x : Node) : node (insL l i x) k = if k = i then some x else node l k := by
 induction l with
 | nil =>
  show (if i = k then some x else node [] k) = if k = i then some x else node [] k
  by_cases e : k = i
  ·rw [if_pos e, if_pos e.symm]
  ·rw [if_neg e, if_neg (λe2 => e e2.symm)]
 | cons y l ih =>
  obtain ⟨h1, h2⟩ := List.pairwise_cons.1 h
  unfold insL
  split
  ·rename_i hy
   show (if y.1 = k then some y.2 else node (insL l i x) k) = if k = i then some x else if y.1 = k then some y.2 else node l k
   rw [ih h2]
   by_cases e : k = i
   ·rw [if_pos e, if_pos e, if_neg (by omega)]
   ·rw [if_neg e, if_neg e]
  ·split
   ·rename_i hy
    show (if i = k then some x else node l k) = if k = i then some x else if y.1 = k then some y.2 else node l k
    by_cases e : k = i
    ·rw [if_pos e, if_pos e.symm]
    ·rw [if_neg e, if_neg (λe2 => e e2.symm), if_neg (by omega)]
   ·show (if i = k then some x else node (y :: l) k) = if k = i then some x else node (y :: l) k
    by_cases e : k = i
    ·rw [if_pos e, if_pos e.symm]
    ·rw [if_neg e, if_neg (λe2 => e e2.symm)]
theorem len_insL {l : List Item} (h : Rising l) (i : Int) (x : Node) : (insL l i x).length = l.length + if (node l i).isSome = true then 0 else 1 := by
 induction l with
 | nil => rfl
 | cons y l ih =>
  obtain ⟨h1, h2⟩ := List.pairwise_cons.1 h
  unfold insL
  split
  ·rename_i hy
   rw [node, if_neg (Int.ne_of_lt hy), List.length_cons, ih h2, List.length_cons]; omega
  ·split
   ·rename_i hy
    rw [node, if_pos hy, List.length_cons, List.length_cons]; rfl
   ·rename_i hy hy2
    have : node l i = none := node_none.2 λz hz => by have := h1 z hz; omega
    rw [node, if_neg hy2, this]
    rfl
theorem put_kvL {l : List Item} (hl : Ub l) (h : Rising l) {i : Int} (hi : 0 <= i /\ i < 4294967296) (x : Node) : Tr.put less (kv l) (key i) (txt x) = kv (insL l i x) := by
 induction l with
 | nil => rfl
 | cons y l ih =>
  have hy := hl y List.mem_cons_self
  have hl' : Ub l := λz hz => hl z (List.mem_cons_of_mem _ hz)
  obtain ⟨h1, h2⟩ := List.pairwise_cons.1 h
  show (if less (key y.1) (key i) = true then (key y.1, txt y.2) :: Tr.put less (kv l) (key i) (txt x) else (key i, txt x) :: Tr.del (kv (y :: l)) (key i)) = _
  rw [key_less hy hi]
  unfold insL
  by_cases e : y.1 < i
  ·rw [if_pos (decide_eq_true e), if_pos e, ih hl' h2]; rfl
  ·rw [if_neg (by simpa using e), if_neg e, del_kv hl hi]
   by_cases e2 : y.1 = i
   ·rw [if_pos e2]
    have hn : ∀ z ∈ l, z.1 ≠ i := λz hz => by have := h1 z hz; omega
    have hd : dropL (y :: l) i = l := by
     unfold dropL
     rw [List.filter_cons, if_neg (by simp [e2])]
     exact dropL_none hn
    rw [hd]; rfl
   ·rw [if_neg e2, dropL_none]
    ·rfl
    ·intro z hz
     rcases List.mem_cons.1 hz with rfl | hz
     ·exact e2
     ·have := h1 z hz; omega
structure Cmd where
 kind : Int
 ino : Int
 src : Int
 off : Int
 from_ : Int
 n : Int
 name : ByteArray
 data : ByteArray
section
variable (E : Env)
def alter (l : List Item) (i : Int) (r : Node -> Node × Int) : List Item × Int :=
 match node l i with
 | none => (l, 4)
 | some x => if (r x).2 ≠ 0 then (l, (r x).2) else (insL l i (r x).1, 0)
def fileE (x : Node) : Int := if x.kind = 1 then 0 else if x.kind = 2 then 11 else 16
def bytesR (g : ByteArray -> ByteArray × Int) (x : Node) : Node × Int := if fileE x ≠ 0 then (none0, fileE x) else ({ x with data := (g x.data).1 }, (g x.data).2)
def cloneR (par : List Item) (c : Cmd) (s : ByteArray) : ByteArray × Int :=
 match node par c.src with
 | none => (⟨#[]⟩, 4)
 | some y => if fileE y ≠ 0 then (⟨#[]⟩, fileE y) else E.copy s c.off y.data c.from_ c.n
def modeR (n : Int) (x : Node) : Node × Int := if Nd.right E.lt E.nm { x with mode := n } = true then ({ x with mode := n }, 0) else (none0, 1)
def madeC (c : Cmd) : Node := if c.kind = 3 then ⟨3, 511, ⟨#[]⟩, c.data, []⟩ else ⟨c.kind, c.n, ⟨#[]⟩, ⟨#[]⟩, []⟩
def createC (l : List Item) (i : Int) (x : Node) : List Item × Int :=
 if (i <= 1 \/ 2147483647 < i) \/ Nd.right E.lt E.nm x = false then (l, 1) else if (node l i).isSome = true then (l, 5) else if 256 <= l.length then (l, 6) else (insL l i x, 0)
def removeC (l : List Item) (i : Int) : List Item × Int :=
 if (node l i).isSome = false then (l, 4) else if i = 1 then (l, 17) else (dropL l i, 0)
def enterC (l : List Item) (c : Cmd) : List Item × Int :=
 if c.ino < 1 \/ 2147483647 < c.ino then (l, 1) else alter l c.src λx => Nd.withE E.lt E.nm x c.name c.ino
def doC (par l : List Item) (c : Cmd) : List Item × Int :=
 if c.kind = 1 \/ c.kind = 2 \/ c.kind = 3 then createC E l c.ino (madeC c)
 else if c.kind = 4 then enterC E l c
 else if c.kind = 5 then alter l c.src λx => Nd.withoutE x c.name
 else if c.kind = 6 then alter l c.ino (modeR E c.n)
 else if c.kind = 7 then alter l c.ino (bytesR λs => E.trunc s c.n)
 else if c.kind = 8 then alter l c.ino (bytesR λs => E.put s c.off c.data)
 else if c.kind = 9 then alter l c.ino (bytesR (cloneR E par c))
 else if c.kind = 10 then removeC l c.ino
 else (l, 16)
end
end Fs
namespace Go.Proofs.YthbajmlmjjfgpaaGreatDoor
open Go.RowKit Go.Less
structure Okc (l : List Fs.Item) : Prop extends Okl l where
 most : l.length <= 256
theorem Okc.of {f : Fs.FS} (G : Fs.Half env f) (hb : f.next <= 2147483648) : Okc f.l :=
 ⟨⟨G.inos, λy hy => by have := G.pos y hy; omega, λy hy => G.right (Fs.node_at G.inos (show (y.1, y.2) ∈ f.l from hy)), by have := G.few; omega⟩, G.few⟩
theorem Okl.insL {l : List Fs.Item} (h : Okl l) {i : Int} {x : Nd.Node} (h1 : 1 <= i /\ i <= 2147483647) (hR : Nd.Right less Nm.right x) (hf : (Fs.insL l i x).length <= 1000) : Okl (Fs.insL l i x) := by
 refine ⟨Fs.rising_insL h.inos i x, λy hy => ?_, λy hy => ?_, hf⟩
 ·rcases Fs.mem_insL hy with rfl | hy
  ·exact h1
  ·exact h.pos y hy
 ·rcases Fs.mem_insL hy with rfl | hy
  ·exact hR
  ·exact h.right y hy
theorem Okc.alter {l : List Fs.Item} (h : Okc l) (i : Int) {r : Nd.Node -> Nd.Node × Int} (hr : ∀ x, Nd.Right less Nm.right x -> (r x).2 = 0 -> Nd.Right less Nm.right (r x).1) : Okc (Fs.alter l i r).1 := by
 unfold Fs.alter
 cases hn : Fs.node l i with
 | none => exact h
 | some x =>
  simp only
  split
  ·exact h
  ·rename_i h0
   have hx := h.node hn
   have hl : (Fs.insL l i (r x).1).length = l.length := by rw [Fs.len_insL h.inos, hn]; rfl
   have hm := h.most
   exact ⟨h.toOkl.insL hx.2 (hr x hx.1 (Decidable.of_not_not h0)) (by omega), by show (Fs.insL l i (r x).1).length <= 256; omega⟩
theorem with_right {x : Nd.Node} (hR : Nd.Right less Nm.right x) {n : ByteArray} {i : Int} (h1 : 1 <= i) (h2 : i <= 2147483647) (h0 : (Nd.withE less Nm.right x n i).2 = 0) : Nd.Right less Nm.right (Nd.withE less Nm.right x n i).1 := by
 unfold Nd.withE at h0 |-
 split at h0
 ·cases h0
 rename_i a
 rw [if_neg a]
 split at h0
 ·cases h0
 rename_i b
 rw [if_neg b]
 split at h0
 ·cases h0
 rename_i c
 rw [if_neg c]
 split at h0
 ·cases h0
 rename_i d
 rw [if_neg d]
 exact Nd.right_ins rising hR (Decidable.of_not_not a) (by simpa using b) (by simpa using c) (by omega) h1 h2
theorem wout_right {x : Nd.Node} (hR : Nd.Right less Nm.right x) {n : ByteArray} (h0 : (Nd.withoutE x n).2 = 0) : Nd.Right less Nm.right (Nd.withoutE x n).1 := by
 unfold Nd.withoutE at h0 |-
 split at h0
 ·cases h0
 rename_i a
 rw [if_neg a]
 split at h0
 ·cases h0
 rename_i b
 rw [if_neg b]
 exact Fs.right_cut (E := env) rising hR n
theorem mode_right {x : Nd.Node} {n : Int} (h0 : (Fs.modeR env n x).2 = 0) : Nd.Right less Nm.right (Fs.modeR env n x).1 := by
 unfold Fs.modeR at h0 |-
 split at h0
 ·rename_i a; rw [if_pos a]; exact (Nd.right_iff _).1 a
 ·cases h0
theorem fileE_zero {x : Nd.Node} (h : Fs.fileE x = 0) : x.kind = 1 := by
 unfold Fs.fileE at h
 split at h
 ·assumption
 ·split at h <;> cases h
theorem bytes_right {g : ByteArray -> ByteArray × Int} (hg : ∀ s, s.size <= 4096 -> (g s).2 = 0 -> (g s).1.size <= 4096) {x : Nd.Node} (hR : Nd.Right less Nm.right x) (h0 : (Fs.bytesR g x).2 = 0) : Nd.Right less Nm.right (Fs.bytesR g x).1 := by
 unfold Fs.bytesR at h0 |-
 split at h0
 ·rename_i a; exact absurd h0 a
 ·rename_i a
  rw [if_neg a]
  have hk := fileE_zero (Decidable.of_not_not a)
  exact right_data hR (by omega) (by omega) (hg _ (data_size hR) h0)
theorem clone_few {par : List Fs.Item} {c : Fs.Cmd} (s : ByteArray) (hs : s.size <= 4096) (h0 : (Fs.cloneR env par c s).2 = 0) : (Fs.cloneR env par c s).1.size <= 4096 := by
 unfold Fs.cloneR at h0 |-
 cases hn : Fs.node par c.src with
 | none => exact Nat.zero_le _
 | some y =>
  rw [hn] at h0
  simp only at h0 |-
  split at h0
  ·rename_i a; rw [if_pos a]; exact Nat.zero_le _
  ·rename_i a; rw [if_neg a]; exact env_ok.copy _ _ _ _ _ hs h0
theorem Okc.doC {par l : List Fs.Item} (h : Okc l) (c : Fs.Cmd) : Okc (Fs.doC env par l c).1 := by
 unfold Fs.doC
 split
 ·unfold Fs.createC
  split
  ·exact h
  rename_i a
  split
  ·exact h
  rename_i b
  split
  ·exact h
  rename_i d
  have hl : (Fs.insL l c.ino (Fs.madeC c)).length = l.length + 1 := by rw [Fs.len_insL h.inos, if_neg b]
  refine ⟨h.toOkl.insL (by omega) ((Nd.right_iff _).1 ?_) (by omega), by show (Fs.insL l c.ino (Fs.madeC c)).length <= 256; omega⟩
  cases e : Nd.right env.lt env.nm (Fs.madeC c) with
  | false => exact absurd (.inr e) a
  | true => exact e
 split
 ·unfold Fs.enterC
  split
  ·exact h
  ·exact h.alter _ λx hx h0 => with_right hx (by omega) (by omega) h0
 split
 ·exact h.alter _ λx hx h0 => wout_right hx h0
 split
 ·exact h.alter _ λx hx h0 => mode_right h0
 split
 ·exact h.alter _ λx hx h0 => bytes_right (λs hs h => env_ok.trunc _ _ h) hx h0
 split
 ·exact h.alter _ λx hx h0 => bytes_right (λs hs h => env_ok.put _ _ _ hs h) hx h0
 split
 ·exact h.alter _ λx hx h0 => bytes_right (λs hs h => clone_few s hs h) hx h0
 split
 ·unfold Fs.removeC
  split
  ·exact h
  split
  ·exact h
  ·exact ⟨h.toOkl.drop _, Nat.le_trans (Fs.len_drop l _) h.most⟩
 ·exact h
end Go.Proofs.YthbajmlmjjfgpaaGreatDoor
namespace Go.Proofs.YthbajmlmjjfgpaaGreatDoor
open Go.RowKit Go.Less Go.Maps
attribute [local go_sem 9000] sem_eql sem_neq
abbrev ik (a : Int) : Lit := .int .i64 a
theorem law3 : Keyed prog 3 := int_keyed underlying3
def upd {α : Type} (f : Int -> Option α) (a : Int) (v : α) : Int -> Option α := λx => if x = a then some v else f x
def held (v : Value) : Option (DataW Value × List MemPlace) := some (.held v, [])
def Mp (w : World) (b n : Nat) (f : Int -> Option Value) : Prop :=
 ∃ D : DataW Value, w.ownsMap prog 3 held b n D /\ ∀ a, (ik a).wf = true -> (∀ z, D.atKey (ik a) (.held z) = .held ((f a).getD z)) /\ Maps.has D (ik a) = (f a).isSome
theorem Mp.lt {w : World} {b n : Nat} {f : Int -> Option Value} (h : Mp w b n f) : b < w.heap.size := by
 obtain ⟨D, ho, _⟩ := h; exact ho.lt
theorem Mp.kept {w w' : World} {b n : Nat} {f : Int -> Option Value} (h : Mp w b n f) (hb : w'.heap[b]? = w.heap[b]?) : Mp w' b n f := by
 obtain ⟨D, ⟨es, c, h1, h2⟩, h3⟩ := h; exact ⟨D, ⟨es, c, hb.trans h1, h2⟩, h3⟩
theorem Mp.below {w w' : World} {b n : Nat} {f : Int -> Option Value} (h : Mp w b n f) (hb : Below w.heap.size w w') : Mp w' b n f := h.kept (hb.block _ h.lt)
theorem Mp.made (w : World) : Mp (w.alloc (.map #[] 0)) w.heap.size 0 (λ_ => none) :=
 ⟨.map [], World.ownsMap_made w _ _ _, λ_ _ => ⟨λ_ => rfl, rfl⟩⟩
theorem Mp.look_ok {w : World} {b n : Nat} {f : Int -> Option Value} (h : Mp w b n f) {t e : TypeId} (ht : prog.underlying t = some (.map 3 e)) {z : Value} (hz : (zeroValue e).run prog w = .ok z w) {a : Int} (ha : (ik a).wf = true) :
  (Instr.lookup t (.map (some b)) (.int .i64 a) true).run prog w = .ok (.tuple #[(f a).getD z, .bool (f a).isSome]) w := by
 obtain ⟨D, ho, h2⟩ := h
 obtain ⟨v, ps, hr, hv⟩ := ho.look_ok law3 ht hz (zd := .held z) (zp := []) rfl (keyOf_int_mk underlying3 ha)
 rw [(h2 a ha).1 z] at hv
 rw [hr, (h2 a ha).2]
 unfold held at hv
 injection hv with hv
 injection hv with hv _
 injection hv with hv
 rw [hv]
theorem ik_key (a : Int) : WideAt.IsKeyLit (ik a) := trivial
theorem Mp.store {w : World} {b n : Nat} {f : Int -> Option Value} (h : Mp w b n f) {t e : TypeId} (ht : prog.underlying t = some (.map 3 e)) (hn : n < maxLen) {a : Int} (ha : (ik a).wf = true) (v : Value) :
  ∃ w', (Instr.mapUpdate t (.map (some b)) (.int .i64 a) v).run prog w = .ok () w' /\ Mp w' b (n + 1) (upd f a v) /\ w.mapTurned w' b := by
 obtain ⟨D, ho, h2⟩ := h
 have hm := ho.isMap
 obtain ⟨w', hr, h3, h4⟩ := ho.store law3 ht hn (keyOf_int_mk underlying3 ha) (val := v) (d := .held v) (ps := []) rfl
 refine ⟨w', hr, ⟨_, h3, λx hx => ?_⟩, h4⟩
 unfold upd
 by_cases hxa : x = a
 ·subst hxa
  rw [if_pos rfl]
  exact ⟨λz => atKey_put_same hm (ik_key _) _ _, has_put_same hm (ik_key _) _⟩
 ·rw [if_neg hxa]
  have hne : ik x ≠ ik a := λe => hxa (by injection e)
  exact ⟨λz => (atKey_put_other hne _ _).trans ((h2 x hx).1 z), (has_put_other hne _).trans (h2 x hx).2⟩
theorem below_turned {w0 w w' : World} {b : Nat} (h : Below w0.heap.size w0 w) (ht : w.mapTurned w' b) (hb : w0.heap.size <= b) : Below w0.heap.size w0 w' := by
 have hg := ht.grown
 have hs : w.heap.size <= w'.heap.size := hg.size
 refine ⟨hg.os.trans h.os, hg.tape.trans h.tape, hg.output.trans h.output, Nat.le_trans h.size hs, λk hk => ?_⟩
 rw [hg.block k (Nat.lt_of_lt_of_le hk h.size) (λe => by injection e; omega)]
 exact h.block k hk
def fnv (k : Nat) : Value := .func (.func k) #[] #[]
def fdo : Int -> Option Value := upd (upd (upd (upd (upd (upd (upd (upd (upd (upd (upd (λ_ => none) 1 (fnv 118)) 2 (fnv 119)) 3 (fnv 120)) 4 (fnv 121)) 5 (fnv 122)) 6 (fnv 123)) 7 (fnv 124)) 8 (fnv 125)) 9 (fnv 126)) 10 (fnv 127)) 11 (fnv 128)
theorem fdo_out {k : Int} (h : k < 1 \/ 11 < k) : fdo k = none := by
 unfold fdo upd
 simp only
 repeat rw [if_neg (by omega)]
theorem doings_any (w : World) : Calls prog 82 #[] w λe w' => ∃ mb, e = .returned (.map (some mb)) /\ Mp w' mb 11 fdo /\ Below w.heap.size w w' := by
 have hmm := @run_makeMap prog
 have M0 := Mp.made w
 have B0 := below_one w (.map #[] 0)
 obtain ⟨w1, hr1, M1, ht1⟩ := M0.store underlying150 (by decide) (a := 1) (by decide) (fnv 118)
 have B1 := below_turned B0 ht1 (Nat.le_refl _)
 clear ht1
 obtain ⟨w2, hr2, M2, ht2⟩ := M1.store underlying150 (by decide) (a := 2) (by decide) (fnv 119)
 have B2 := below_turned B1 ht2 (Nat.le_refl _)
 clear ht2
 obtain ⟨w3, hr3, M3, ht3⟩ := M2.store underlying150 (by decide) (a := 3) (by decide) (fnv 120)
 have B3 := below_turned B2 ht3 (Nat.le_refl _)
 clear ht3
 obtain ⟨w4, hr4, M4, ht4⟩ := M3.store underlying150 (by decide) (a := 4) (by decide) (fnv 121)
 have B4 := below_turned B3 ht4 (Nat.le_refl _)
 clear ht4
 obtain ⟨w5, hr5, M5, ht5⟩ := M4.store underlying150 (by decide) (a := 5) (by decide) (fnv 122)
 have B5 := below_turned B4 ht5 (Nat.le_refl _)
 clear ht5
 obtain ⟨w6, hr6, M6, ht6⟩ := M5.store underlying150 (by decide) (a := 6) (by decide) (fnv 123)
 have B6 := below_turned B5 ht6 (Nat.le_refl _)
 clear ht6
 obtain ⟨w7, hr7, M7, ht7⟩ := M6.store underlying150 (by decide) (a := 7) (by decide) (fnv 124)
 have B7 := below_turned B6 ht7 (Nat.le_refl _)
 clear ht7
 obtain ⟨w8, hr8, M8, ht8⟩ := M7.store underlying150 (by decide) (a := 8) (by decide) (fnv 125)
 have B8 := below_turned B7 ht8 (Nat.le_refl _)
 clear ht8
 obtain ⟨w9, hr9, M9, ht9⟩ := M8.store underlying150 (by decide) (a := 9) (by decide) (fnv 126)
 have B9 := below_turned B8 ht9 (Nat.le_refl _)
 clear ht9
 obtain ⟨w10, hr10, M10, ht10⟩ := M9.store underlying150 (by decide) (a := 10) (by decide) (fnv 127)
 have B10 := below_turned B9 ht10 (Nat.le_refl _)
 clear ht10
 obtain ⟨w11, hr11, M11, ht11⟩ := M10.store underlying150 (by decide) (a := 11) (by decide) (fnv 128)
 have B11 := below_turned B10 ht11 (Nat.le_refl _)
 clear ht11
 have HM := hid M11
 have HB := hid B11
 clear M0 B0 M1 B1 M2 B2 M3 B3 M4 B4 M5 B5 M6 B6 M7 B7 M8 B8 M9 B9 M10 B10 M11 B11
 unfold fnv at hr1 hr2 hr3 hr4 hr5 hr6 hr7 hr8 hr9 hr10 hr11
 go_enter func82, ntmps82
 go_wp2_with fail
 go_ret
 exact ⟨_, rfl, HM.out, HB.out⟩
end Go.Proofs.YthbajmlmjjfgpaaGreatDoor
namespace Go.Proofs.YthbajmlmjjfgpaaGreatDoor
open Go.RowKit
structure Names : Prop where
 right : ∀ (s : ByteArray) (w : World), s.size <= 140737488355328 -> Calls prog 175 #[.string s] w λe w' => e = .returned (.bool (Nm.right s.data.toList)) /\ Below w.heap.size w w'
 split : ∀ (p : ByteArray) (w : World), p.size <= 140737488355328 -> Calls prog 129 #[.string p] w (Splitted p.data.toList w)
 join : ∀ (a : Option Addr) (ln cn : Nat) (ss : List ByteArray) (w : World), Strs a ln ss w -> ln <= 140737488355328 -> ln <= cn -> (∀ i, i < ss.length -> (ss.getD i ByteArray.empty).size <= 140737488355328) -> Calls prog 205 #[.slice a ln cn] w λe w' => e = .returned (.tuple #[.string (lstr (joinR (dat ss)).1), .int .i64 (joinR (dat ss)).2]) /\ Below w.heap.size w w'
 parent : ∀ (p : ByteArray) (w : World), p.size <= 140737488355328 -> Calls prog 188 #[.string p] w (ParentPost p.data.toList w)
 within : ∀ (a b : ByteArray) (w : World), a.size <= 140737488355328 -> b.size <= 140737488355328 -> Calls prog 156 #[.string a, .string b] w (WithinPost a.data.toList b.data.toList w)
end Go.Proofs.YthbajmlmjjfgpaaGreatDoor
