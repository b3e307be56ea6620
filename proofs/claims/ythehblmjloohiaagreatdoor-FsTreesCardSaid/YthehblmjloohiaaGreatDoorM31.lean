/- Layer 11, a part of the proofs: no statement of its own. -/
import Derived.Laws.EntriesVeiled
import Derived.Test.YthehblmjloohiaaGreatDoorM30
namespace Go.Proofs.YthehblmjloohiaaGreatDoor
open T6
set_option maxRecDepth 100000
open Go.RowKit Go.Less
open T8 (pv Dg)
attribute [local go_sem 9000] sem_eql sem_neq
theorem file_cases {l : List Fs.Item} {p : ByteArray} {ns : List ByteArray} (hs : spl p = some ns) : (∃ ec, ec ≠ 0 ∧ Fs.file l ns = .error ec ∧ fileR l p = (0, Nd.none0, ec)) ∨ ∃ i, Fs.walk l 1 ns = .ok i ∧ Fs.file l ns = .ok (i, Fs.nodeD l i) ∧ fileR l p = (i, Fs.nodeD l i, 0) ∧ (Fs.nodeD l i).kind ≠ 2 ∧ (Fs.nodeD l i).kind ≠ 3 := by
 rcases find_cases (l := l) hs with ⟨ec, hne, hw, hf⟩ | ⟨i, hw, hf⟩
 ·exact .inl ⟨ec, hne, by unfold Fs.file; rw [hw], by unfold fileR; rw [hf, if_pos hne]⟩
 ·by_cases h2 : (Fs.nodeD l i).kind = 2
  ·exact .inl ⟨11, by decide, by unfold Fs.file; rw [hw]; simp only; rw [if_pos h2], by unfold fileR; rw [hf, if_neg (by simp), if_pos h2]⟩
  ·by_cases h3 : (Fs.nodeD l i).kind = 3
   ·exact .inl ⟨16, by decide, by unfold Fs.file; rw [hw]; simp only; rw [if_neg h2, if_pos h3], by unfold fileR; rw [hf, if_neg (by simp), if_neg h2, if_pos h3]⟩
   ·exact .inr ⟨i, hw, by unfold Fs.file; rw [hw]; simp only; rw [if_neg h2, if_neg h3], by unfold fileR; rw [hf, if_neg (by simp), if_neg h2, if_neg h3], h2, h3⟩
theorem kinds_of {f : Fs.FS} (G : Fs.Half env f) {p : ByteArray} {i : Int} {x : Nd.Node} (h : findR f.l p = (i, x, 0)) : x.kind = 1 ∨ x.kind = 2 ∨ x.kind = 3 := by
 rcases find_cases2 f.l p with ⟨e, hne, hf⟩ | ⟨ns, j, hs, hw, hf⟩
 ·rw [hf] at h
  injection h with _ h
  injection h with _ h
  exact absurd h hne
 ·rw [hf] at h
  injection h with _ h
  injection h with h _
  obtain ⟨y, hy, hyD⟩ := G.walk_node hw
  rw [← h, hyD]
  rcases (G.right hy).kinds with ⟨hk, _⟩ | ⟨hk, _⟩ | ⟨hk, _⟩
  ·exact .inl hk
  ·exact .inr (.inl hk)
  ·exact .inr (.inr hk)
theorem right_data {x : Nd.Node} (h : Nd.Right less Nm.right x) (h2 : x.kind ≠ 2) (h3 : x.kind ≠ 3) {s : ByteArray} (hs : s.size ≤ 4096) : Nd.Right less Nm.right { x with data := s } := by
 refine ⟨h.m0, h.m1, h.len, h.ok, h.rise, ?_⟩
 rcases h.kinds with ⟨a, b, c, _⟩ | ⟨a, _⟩ | ⟨a, _⟩
 ·exact .inl ⟨a, b, c, hs⟩
 ·exact absurd a h2
 ·exact absurd a h3
theorem data_size {x : Nd.Node} (h : Nd.Right less Nm.right x) : x.data.size ≤ 4096 := by
 rcases h.kinds with ⟨_, _, _, e⟩ | ⟨_, _, e⟩ | ⟨_, e, _⟩
 ·exact e
 ·rw [e]; decide
 ·rw [e]; decide
set_option maxHeartbeats 16000000 in
theorem change_any (gk : Nat) (lb : Array Value) (eg : ∀ args w, (callFunc gk args).run Tryz.prog w = .ok (.enter gk args) w) (Gf : ByteArray → ByteArray × Int) (m : Option Nat) (nx : Int) (l : List Fs.Item) (p : ByteArray) (w : World) (h : Sv w m l) (G : Fs.Half env ⟨l, nx⟩) (hf9 : l.length ≤ 900) (pp : p.size ≤ 140737488355328) {ns : List ByteArray} (hs : spl p = some ns)
  (HC0 : ∀ s, s.size ≤ 4096 → ∀ W, Below w.heap.size w W → Calls Tryz.prog gk (#[.string s] ++ lb) W fun e w' => e = .returned (.tuple #[.string (Gf s).1, .int .i64 (Gf s).2]) ∧ Below W.heap.size W w')
  (hG : ∀ s, s.size ≤ 4096 → (Gf s).2 = 0 → (Gf s).1.size ≤ 4096) {R : Except Int Fs.FS} (hR : R = match Fs.file l ns with
   | .error e => .error e
   | .ok (i, x) => match Fs.asked (Gf x.data) with
    | .error e => .error e
    | .ok s => .ok ⟨Fs.setL l i { x with data := s }, nx⟩) : Calls Tryz.prog 130 #[stv m nx, .string p, .func (.func gk) #[] lb] w (Stated R w) := by
 have HFi := Lib.hid (fun W (hbw : Below w.heap.size w W) => pFile_any m nx l p W (h.below hbw) pp (fun i x hx => kinds_of G hx))
 have HD := Lib.hid h.dg
 have HSv := Lib.hid (fun W (hb : Below w.heap.size w W) => h.below hb)
 rcases file_cases (l := l) hs with ⟨ec, hne, hf, hfr⟩ | ⟨i, hw, hf, hfr, hk2, hk3⟩
 ·rw [hf] at hR
  rw [hfr] at HFi
  have HR := Lib.hid hR
  clear hR hf hfr h G hs HC0 hG
  have HB := Lib.hid (show Bxs w [(w.heap.size, #[pv m, .int .i64 nx], 88), (w.heap.size + 1, #[.pointer none, .int .i64 0], 88)] ((w.alloc (.cells #[pv m, .int .i64 nx] 88)).alloc (.cells #[.pointer none, .int .i64 0] 88)) from Bxs.two w _ _ _ _)
  go_enter Tryz.func130, Tryz.ntmps130
  go_wp2_with fail
  generalize (w.alloc (.cells #[pv m, .int .i64 nx] 88)).alloc (.cells #[.pointer none, .int .i64 0] 88) = W0 at HB ⊢
  have b0 := HB.out.c2 0 rfl
  have b1 := HB.out.c2 1 rfl
  go_wp2_with fail
  refine (HFi.out W0 HB.out.below).mono ?_
  rintro e w1 ⟨ea, eb, rfl, hE, hb⟩
  have hbk := hb
  clear hE
  have HB := Lib.hid (HB.out.kept hbk)
  clear b0 b1
  clear hbk
  have HBp := HB
  have HB := Lib.hid (HB.out.more #[.int .i64 0, .int .i64 0, .string ⟨#[]⟩, .string ⟨#[]⟩, .slice ea 0 eb] 43 rfl)
  have b0 := HB.out.c2 0 rfl
  have b1 := HB.out.c2 1 rfl
  dsimp only
  go_wp2_with (first | (refine store_bx HB.out 1 rfl 88 _ _ rfl rfl #[.pointer none, .int .i64 0] rfl rfl (by kernel_rfl) rfl rfl (by decide) (by decide) ?_; intro w2 hS hK hbS hsS; have HBS := Lib.hid hS; clear hS hK hbS hsS; have HB := HBS; clear HBS; clear b0 b1; have b0 := HB.out.c2 0 rfl; have b1 := HB.out.c2 1 rfl; have b2 := HB.out.c5 2 rfl) | fail)
  refine bodyPost_ret_by (results_st rfl _ _ (w.heap.size + 1) _ _ rfl (HB.out.obj 1 rfl)) rfl ?_
  exact stated_err HR.out hne HB.out.below
 ·obtain ⟨x, hx, hxD⟩ := G.walk_node hw
  have hxr := h.ok.node hx
  have hXi := hxr.2
  have hXs : (Fs.node l i).isSome = true := by rw [hx]; rfl
  have hds := data_size hxr.1
  rw [hxD] at hf hfr hk2 hk3
  rw [hf] at hR
  rw [hfr] at HFi
  obtain ⟨k, mo, d, t, es⟩ := x
  have hRd := fun s hs => right_data hxr.1 hk2 hk3 (s := s) hs
  have HC := Lib.hid (HC0 d hds)
  have hGd := hG d hds
  simp only at hR
  obtain ⟨⟨s2, c2⟩, hg⟩ : ∃ r, Gf d = r := ⟨_, rfl⟩
  rw [hg] at HC hR hGd
  unfold Fs.asked at hR
  clear HC0 hG hf hfr hk2 hk3 hx hxD hxr hg h G hs hw hds
  by_cases hc : c2 = 0
  ·subst hc
   rw [if_neg (by simp)] at hR
   have HR := Lib.hid hR
   have hRs := hRd s2 (hGd rfl)
   have HWi := Lib.hid (fun a c W (hb : Below w.heap.size w W) (hE : Ents a es.length es W) => pWith_any m nx l i ⟨k, mo, s2, t, es⟩ a c W (HSv.out W hb) hE hRs hXi (.inl hXs) hf9)
   clear hR hRd hGd hRs
   have HB := Lib.hid (show Bxs w [(w.heap.size, #[pv m, .int .i64 nx], 88), (w.heap.size + 1, #[.pointer none, .int .i64 0], 88)] ((w.alloc (.cells #[pv m, .int .i64 nx] 88)).alloc (.cells #[.pointer none, .int .i64 0] 88)) from Bxs.two w _ _ _ _)
   go_enter Tryz.func130, Tryz.ntmps130
   go_wp2_with fail
   generalize (w.alloc (.cells #[pv m, .int .i64 nx] 88)).alloc (.cells #[.pointer none, .int .i64 0] 88) = W0 at HB ⊢
   have b0 := HB.out.c2 0 rfl
   have b1 := HB.out.c2 1 rfl
   go_wp2_with fail
   refine (HFi.out W0 HB.out.below).mono ?_
   rintro e w1 ⟨a, c, rfl, hE, hb⟩
   have hbk := hb
   have HEn := Lib.hid (hE.below (below_one w1 (.cells #[.int .i64 k, .int .i64 mo, .string d, .string t, .slice a es.length c] 43)))
   clear hE
   have HB := Lib.hid (HB.out.kept hbk)
   clear b0 b1
   clear hbk
   have HBp := HB
   have HB := Lib.hid (HB.out.more #[.int .i64 k, .int .i64 mo, .string d, .string t, .slice a es.length c] 43 rfl)
   have b0 := HB.out.c2 0 rfl
   have b1 := HB.out.c2 1 rfl
   dsimp only
   go_wp2_with fail
   refine (HC.out (w1.alloc (.cells #[.int .i64 k, .int .i64 mo, .string d, .string t, .slice a es.length c] 43)) HB.out.below).mono ?_
   rintro e w2 ⟨rfl, hb⟩
   have hbk := hb
   have HEn := Lib.hid (HEn.out.below hb)
   have HB := Lib.hid (HB.out.kept hbk)
   clear b0 b1
   clear hbk
   have b0 := HB.out.c2 0 rfl
   have b1 := HB.out.c2 1 rfl
   have b2 := HB.out.c5 2 rfl
   dsimp only
   have fz2_2 : w2.frozen? ⟨w1.heap.size, 2, none⟩ = false := HB.out.free 2 rfl 2
   have HBq := HB
   have HB := Lib.hid (show Bxs w [(w.heap.size, #[pv m, .int .i64 nx], 88), (w.heap.size + 1, #[.pointer none, .int .i64 0], 88), (w1.heap.size, #[.int .i64 k, .int .i64 mo, .string s2, .string t, .slice a es.length c], 43)] (w2.setCell ⟨w1.heap.size, 2, none⟩ (.string s2)) from HBq.out.put 2 rfl 2 (.string s2))
   have c0_0 : (w2.setCell ⟨w1.heap.size, 2, none⟩ (.string s2)).cell? ⟨w.heap.size, 0, none⟩ = some (pv m) := HB.out.cell 0 rfl 0
   have c0_1 : (w2.setCell ⟨w1.heap.size, 2, none⟩ (.string s2)).cell? ⟨w.heap.size, 1, none⟩ = some (.int .i64 nx) := HB.out.cell 0 rfl 1
   have c1_0 : (w2.setCell ⟨w1.heap.size, 2, none⟩ (.string s2)).cell? ⟨w.heap.size + 1, 0, none⟩ = some (.pointer none) := HB.out.cell 1 rfl 0
   have c1_1 : (w2.setCell ⟨w1.heap.size, 2, none⟩ (.string s2)).cell? ⟨w.heap.size + 1, 1, none⟩ = some (.int .i64 0) := HB.out.cell 1 rfl 1
   have c2_0 : (w2.setCell ⟨w1.heap.size, 2, none⟩ (.string s2)).cell? ⟨w1.heap.size, 0, none⟩ = some (.int .i64 k) := HB.out.cell 2 rfl 0
   have c2_1 : (w2.setCell ⟨w1.heap.size, 2, none⟩ (.string s2)).cell? ⟨w1.heap.size, 1, none⟩ = some (.int .i64 mo) := HB.out.cell 2 rfl 1
   have c2_2 : (w2.setCell ⟨w1.heap.size, 2, none⟩ (.string s2)).cell? ⟨w1.heap.size, 2, none⟩ = some (.string s2) := HB.out.cell 2 rfl 2
   have c2_3 : (w2.setCell ⟨w1.heap.size, 2, none⟩ (.string s2)).cell? ⟨w1.heap.size, 3, none⟩ = some (.string t) := HB.out.cell 2 rfl 3
   have c2_4 : (w2.setCell ⟨w1.heap.size, 2, none⟩ (.string s2)).cell? ⟨w1.heap.size, 4, none⟩ = some (.slice a es.length c) := HB.out.cell 2 rfl 4
   have HEn := Lib.hid ((Kept.cell (HBq.out.obj 2 rfl) (by decide) (by decide) 2 (.string s2)).ents (HBq.out.obj 2 rfl) (noEnt43 _ _ _ _ _ _ _) HEn.out)
   go_wp2_with fail
   refine (HWi.out a c (w2.setCell ⟨w1.heap.size, 2, none⟩ (.string s2)) HB.out.below HEn.out).mono ?_
   rintro e w3 ⟨m6, rfl, hS, hb⟩
   have hbk := hb
   have HS := Lib.hid hS
   clear hS
   have HB := Lib.hid (HB.out.kept hbk)
   clear b0 b1 b2 c0_0 c0_1 c1_0 c1_1 c2_0 c2_1 c2_2 c2_3 c2_4 fz2_2
   clear hbk
   have b0 := HB.out.c2 0 rfl
   have b1 := HB.out.c2 1 rfl
   have b2 := HB.out.c5 2 rfl
   dsimp only
   go_wp2_with (first | (refine store_bx HB.out 1 rfl 88 _ _ rfl rfl #[pv m6, .int .i64 nx] rfl rfl (by kernel_rfl) rfl rfl (by decide) (by decide) ?_; intro w4 hS hK hbS hsS; have HBS := Lib.hid hS; have HS := Lib.hid (HS.out.kept hK (HD.out.below hbS)); clear hS hK hbS hsS; have HB := HBS; clear HBS; clear b0 b1 b2; have b0 := HB.out.c2 0 rfl; have b1 := HB.out.c2 1 rfl; have b2 := HB.out.c5 2 rfl) | fail)
   refine bodyPost_ret_by (results_st rfl _ _ (w.heap.size + 1) _ _ rfl (HB.out.obj 1 rfl)) rfl ?_
   exact stated_ok HR.out HB.out.below HS.out
  ·rw [if_pos hc] at hR
   have HR := Lib.hid hR
   clear hR hRd hGd
   have HB := Lib.hid (show Bxs w [(w.heap.size, #[pv m, .int .i64 nx], 88), (w.heap.size + 1, #[.pointer none, .int .i64 0], 88)] ((w.alloc (.cells #[pv m, .int .i64 nx] 88)).alloc (.cells #[.pointer none, .int .i64 0] 88)) from Bxs.two w _ _ _ _)
   go_enter Tryz.func130, Tryz.ntmps130
   go_wp2_with fail
   generalize (w.alloc (.cells #[pv m, .int .i64 nx] 88)).alloc (.cells #[.pointer none, .int .i64 0] 88) = W0 at HB ⊢
   have b0 := HB.out.c2 0 rfl
   have b1 := HB.out.c2 1 rfl
   go_wp2_with fail
   refine (HFi.out W0 HB.out.below).mono ?_
   rintro e w1 ⟨a, c, rfl, hE, hb⟩
   have hbk := hb
   have HEn := Lib.hid (hE.below (below_one w1 (.cells #[.int .i64 k, .int .i64 mo, .string d, .string t, .slice a es.length c] 43)))
   clear hE
   have HB := Lib.hid (HB.out.kept hbk)
   clear b0 b1
   clear hbk
   have HBp := HB
   have HB := Lib.hid (HB.out.more #[.int .i64 k, .int .i64 mo, .string d, .string t, .slice a es.length c] 43 rfl)
   have b0 := HB.out.c2 0 rfl
   have b1 := HB.out.c2 1 rfl
   dsimp only
   go_wp2_with fail
   refine (HC.out (w1.alloc (.cells #[.int .i64 k, .int .i64 mo, .string d, .string t, .slice a es.length c] 43)) HB.out.below).mono ?_
   rintro e w2 ⟨rfl, hb⟩
   have hbk := hb
   have HEn := Lib.hid (HEn.out.below hb)
   have HB := Lib.hid (HB.out.kept hbk)
   clear b0 b1
   clear hbk
   have b0 := HB.out.c2 0 rfl
   have b1 := HB.out.c2 1 rfl
   have b2 := HB.out.c5 2 rfl
   dsimp only
   have fz2_2 : w2.frozen? ⟨w1.heap.size, 2, none⟩ = false := HB.out.free 2 rfl 2
   have HBq := HB
   have HB := Lib.hid (show Bxs w [(w.heap.size, #[pv m, .int .i64 nx], 88), (w.heap.size + 1, #[.pointer none, .int .i64 0], 88), (w1.heap.size, #[.int .i64 k, .int .i64 mo, .string s2, .string t, .slice a es.length c], 43)] (w2.setCell ⟨w1.heap.size, 2, none⟩ (.string s2)) from HBq.out.put 2 rfl 2 (.string s2))
   have c0_0 : (w2.setCell ⟨w1.heap.size, 2, none⟩ (.string s2)).cell? ⟨w.heap.size, 0, none⟩ = some (pv m) := HB.out.cell 0 rfl 0
   have c0_1 : (w2.setCell ⟨w1.heap.size, 2, none⟩ (.string s2)).cell? ⟨w.heap.size, 1, none⟩ = some (.int .i64 nx) := HB.out.cell 0 rfl 1
   have c1_0 : (w2.setCell ⟨w1.heap.size, 2, none⟩ (.string s2)).cell? ⟨w.heap.size + 1, 0, none⟩ = some (.pointer none) := HB.out.cell 1 rfl 0
   have c1_1 : (w2.setCell ⟨w1.heap.size, 2, none⟩ (.string s2)).cell? ⟨w.heap.size + 1, 1, none⟩ = some (.int .i64 0) := HB.out.cell 1 rfl 1
   have c2_0 : (w2.setCell ⟨w1.heap.size, 2, none⟩ (.string s2)).cell? ⟨w1.heap.size, 0, none⟩ = some (.int .i64 k) := HB.out.cell 2 rfl 0
   have c2_1 : (w2.setCell ⟨w1.heap.size, 2, none⟩ (.string s2)).cell? ⟨w1.heap.size, 1, none⟩ = some (.int .i64 mo) := HB.out.cell 2 rfl 1
   have c2_2 : (w2.setCell ⟨w1.heap.size, 2, none⟩ (.string s2)).cell? ⟨w1.heap.size, 2, none⟩ = some (.string s2) := HB.out.cell 2 rfl 2
   have c2_3 : (w2.setCell ⟨w1.heap.size, 2, none⟩ (.string s2)).cell? ⟨w1.heap.size, 3, none⟩ = some (.string t) := HB.out.cell 2 rfl 3
   have c2_4 : (w2.setCell ⟨w1.heap.size, 2, none⟩ (.string s2)).cell? ⟨w1.heap.size, 4, none⟩ = some (.slice a es.length c) := HB.out.cell 2 rfl 4
   go_wp2_with (first | (refine store_bx HB.out 1 rfl 88 _ _ rfl rfl #[.pointer none, .int .i64 0] rfl rfl (by kernel_rfl) rfl rfl (by decide) (by decide) ?_; intro w3 hS hK hbS hsS; have HBS := Lib.hid hS; clear hS hK hbS hsS; have HB := HBS; clear HBS; clear b0 b1 b2 c0_0 c0_1 c1_0 c1_1 c2_0 c2_1 c2_2 c2_3 c2_4 fz2_2; have b0 := HB.out.c2 0 rfl; have b1 := HB.out.c2 1 rfl; have b2 := HB.out.c5 2 rfl) | fail)
   refine bodyPost_ret_by (results_st rfl _ _ (w.heap.size + 1) _ _ rfl (HB.out.obj 1 rfl)) rfl ?_
   exact stated_err HR.out hc HB.out.below
set_option maxHeartbeats 16000000 in
theorem c131_any (g : Nat) (s : ByteArray) (kd : Int) (oa ob : ByteArray) (oo og on : Int) (od : ByteArray) (w : World) (hs : s.size ≤ 4096) (hod : od.size ≤ 140737488355328) (hoo : oo ≤ 9223372036854775807) (hg : w.heap[g]? = some (.cells #[.int .i64 kd, .string oa, .string ob, .int .i64 oo, .int .i64 og, .int .i64 on, .string od] 35 (0, 0))) : Calls Tryz.prog 131 #[.string s, .pointer (some ⟨g, 0, none⟩)] w fun e w' => e = .returned (.tuple #[.string (env.put s oo od).1, .int .i64 (env.put s oo od).2]) ∧ Below w.heap.size w w' := by
 have HP := Lib.hid (put_any s oo od w (Nat.le_trans hs (by decide)) hod hoo)
 have o3 : w.cell? ⟨g, 3, none⟩ = some (.int .i64 oo) := cell_obj hg 3
 have o6 : w.cell? ⟨g, 6, none⟩ = some (.string od) := cell_obj hg 6
 clear hg hs hod hoo
 go_enter Tryz.func131, Tryz.ntmps131
 go_wp2_with fail
 refine HP.out.mono ?_
 rintro e w2 ⟨rfl, hb⟩
 dsimp only
 go_wp2_with fail
 go_ret2
 exact ⟨rfl, hb⟩
set_option maxHeartbeats 16000000 in
theorem c133_any (g : Nat) (s : ByteArray) (kd : Int) (oa ob : ByteArray) (oo og on : Int) (od : ByteArray) (w : World) (hg : w.heap[g]? = some (.cells #[.int .i64 kd, .string oa, .string ob, .int .i64 oo, .int .i64 og, .int .i64 on, .string od] 35 (0, 0))) : Calls Tryz.prog 133 #[.string s, .pointer (some ⟨g, 0, none⟩)] w fun e w' => e = .returned (.tuple #[.string (env.trunc s on).1, .int .i64 (env.trunc s on).2]) ∧ Below w.heap.size w w' := by
 have HP := Lib.hid (trunc_any s on w)
 have o5 : w.cell? ⟨g, 5, none⟩ = some (.int .i64 on) := cell_obj hg 5
 clear hg
 go_enter Tryz.func133, Tryz.ntmps133
 go_wp2_with fail
 refine HP.out.mono ?_
 rintro e w2 ⟨rfl, hb⟩
 dsimp only
 go_wp2_with fail
 go_ret2
 exact ⟨rfl, hb⟩
def cloneG (l : List Fs.Item) (nb : List ByteArray) (oo og on : Int) (s : ByteArray) : ByteArray × Int := match Fs.file l nb with
 | .error e => (⟨#[]⟩, e)
 | .ok (_, y) => env.copy s oo y.data og on
set_option maxHeartbeats 16000000 in
theorem c135_any (q g : Nat) (s : ByteArray) (m : Option Nat) (nx : Int) (l : List Fs.Item) (kd : Int) (oa ob : ByteArray) (oo og on : Int) (od : ByteArray) (w : World) (h : Sv w m l) (G : Fs.Half env ⟨l, nx⟩) (pb : ob.size ≤ 140737488355328) {nb : List ByteArray} (hb : spl ob = some nb) (hs : s.size ≤ 4096) (hoo : oo ≤ 9223372036854775807) (hog : og ≤ 9223372036854775807) (hon : on ≤ 9223372036854775807) (hq : w.heap[q]? = some (.cells #[pv m, .int .i64 nx] 88 (0, 0))) (hg : w.heap[g]? = some (.cells #[.int .i64 kd, .string oa, .string ob, .int .i64 oo, .int .i64 og, .int .i64 on, .string od] 35 (0, 0))) : Calls Tryz.prog 135 #[.string s, .pointer (some ⟨q, 0, none⟩), .pointer (some ⟨g, 0, none⟩)] w fun e w' => e = .returned (.tuple #[.string (cloneG l nb oo og on s).1, .int .i64 (cloneG l nb oo og on s).2]) ∧ Below w.heap.size w w' := by
 have HFi := Lib.hid (pFile_any m nx l ob w h pb (fun i x hx => kinds_of G hx))
 have q0 : w.cell? ⟨q, 0, none⟩ = some (pv m) := cell_obj hq 0
 have q1 : w.cell? ⟨q, 1, none⟩ = some (.int .i64 nx) := cell_obj hq 1
 have o2 : w.cell? ⟨g, 2, none⟩ = some (.string ob) := cell_obj hg 2
 have HG := Lib.hid hg
 clear hg hq
 rcases file_cases (l := l) hb with ⟨ec, hne, hf, hfr⟩ | ⟨i, hw, hf, hfr, hk2, hk3⟩
 ·rw [hfr] at HFi
  have HR := Lib.hid (show cloneG l nb oo og on s = (⟨#[]⟩, ec) by unfold cloneG; rw [hf])
  clear hf hfr h G hb
  go_enter Tryz.func135, Tryz.ntmps135
  go_wp2_with fail
  refine HFi.out.mono ?_
  rintro e w2 ⟨ea, eb, rfl, hE, hb⟩
  clear hE q0 q1 o2
  dsimp only
  go_wp2_with fail
  go_ret2
  rw [HR.out]
  exact ⟨rfl, hb.trans (below_one _ _ |>.mono hb.size)⟩
 ·obtain ⟨x, hx, hxD⟩ := G.walk_node hw
  have hds := data_size (h.ok.node hx).1
  rw [hxD] at hf hfr
  rw [hfr] at HFi
  obtain ⟨k, mo, d, t, es⟩ := x
  have HR := Lib.hid (show cloneG l nb oo og on s = env.copy s oo d og on by unfold cloneG; rw [hf])
  have HP := Lib.hid (fun W => copy_any s oo d og on W (Nat.le_trans hs (by decide)) (Nat.le_trans hds (by decide)) hoo hog hon)
  clear hf hfr h G hb hw hk2 hk3 hx hxD hds hs hoo hog hon
  go_enter Tryz.func135, Tryz.ntmps135
  go_wp2_with fail
  refine HFi.out.mono ?_
  rintro e w2 ⟨ea, eb, rfl, hE, hb⟩
  have hb3 := hb.trans ((below_one w2 (.cells #[.int .i64 k, .int .i64 mo, .string d, .string t, .slice ea es.length eb] 43)).mono hb.size)
  have hG3 := (hb3.block _ (lt_of_obj HG.out)).trans HG.out
  have o3 : (w2.alloc (.cells #[.int .i64 k, .int .i64 mo, .string d, .string t, .slice ea es.length eb] 43)).cell? ⟨g, 3, none⟩ = some (.int .i64 oo) := cell_obj hG3 3
  have o4 : (w2.alloc (.cells #[.int .i64 k, .int .i64 mo, .string d, .string t, .slice ea es.length eb] 43)).cell? ⟨g, 4, none⟩ = some (.int .i64 og) := cell_obj hG3 4
  have o5 : (w2.alloc (.cells #[.int .i64 k, .int .i64 mo, .string d, .string t, .slice ea es.length eb] 43)).cell? ⟨g, 5, none⟩ = some (.int .i64 on) := cell_obj hG3 5
  have HB3 := Lib.hid hb3
  clear hE q0 q1 o2 hG3 hb3 hb
  dsimp only
  go_wp2_with fail
  refine (HP.out _).mono ?_
  rintro e w4 ⟨rfl, hb4⟩
  have HB4 := Lib.hid (HB3.out.trans (hb4.mono HB3.out.size))
  clear o3 o4 o5 hb4
  dsimp only
  go_wp2_with fail
  go_ret2
  rw [HR.out]
  exact ⟨rfl, HB4.out⟩
set_option maxHeartbeats 16000000 in
theorem pWrite_any (m : Option Nat) (nx : Int) (kd : Int) (oa ob : ByteArray) (oo og on : Int) (od : ByteArray) (w : World) {R : Except Int Fs.FS} (hC : ∀ W, Bxs w [(w.heap.size, #[pv m, .int .i64 nx], 88), (w.heap.size + 1, #[.int .i64 kd, .string oa, .string ob, .int .i64 oo, .int .i64 og, .int .i64 on, .string od], 35), (w.heap.size + 1 + 1, #[.pointer none, .int .i64 0], 88)] W → Calls Tryz.prog 130 #[stv m nx, .string oa, .func (.func 131) #[] #[.pointer (some ⟨w.heap.size + 1, 0, none⟩)]] W (Stated R W)) (hD : Dg w) : Calls Tryz.prog 95 #[stv m nx, .agg #[.int .i64 kd, .string oa, .string ob, .int .i64 oo, .int .i64 og, .int .i64 on, .string od]] w (Stated R w) := by
 have HC := Lib.hid hC
 have HD := Lib.hid hD
 clear hC hD
 cases R with
 | error ec =>
  have HB := Lib.hid (show Bxs w [(w.heap.size, #[pv m, .int .i64 nx], 88), (w.heap.size + 1, #[.int .i64 kd, .string oa, .string ob, .int .i64 oo, .int .i64 og, .int .i64 on, .string od], 35), (w.heap.size + 1 + 1, #[.pointer none, .int .i64 0], 88)] (((w.alloc (.cells #[pv m, .int .i64 nx] 88)).alloc (.cells #[.int .i64 kd, .string oa, .string ob, .int .i64 oo, .int .i64 og, .int .i64 on, .string od] 35)).alloc (.cells #[.pointer none, .int .i64 0] 88)) from Bxs.three w _ _ _ _ _ _)
  go_enter Tryz.func95, Tryz.ntmps95
  go_wp2_with fail
  generalize ((w.alloc (.cells #[pv m, .int .i64 nx] 88)).alloc (.cells #[.int .i64 kd, .string oa, .string ob, .int .i64 oo, .int .i64 og, .int .i64 on, .string od] 35)).alloc (.cells #[.pointer none, .int .i64 0] 88) = W0 at HB ⊢
  have b0 := HB.out.c2 0 rfl
  have b1 := HB.out.c7 1 rfl
  have b2 := HB.out.c2 2 rfl
  go_wp2_with fail
  refine (HC.out W0 HB.out).mono ?_
  rintro e w1 ⟨hb, hne, rfl⟩
  have hbk := hb
  have HB := Lib.hid (HB.out.kept hbk)
  clear b0 b1 b2
  clear hbk
  have b0 := HB.out.c2 0 rfl
  have b1 := HB.out.c7 1 rfl
  have b2 := HB.out.c2 2 rfl
  dsimp only
  go_wp2_with (first | (refine store_bx HB.out 2 rfl 88 _ _ rfl rfl #[.pointer none, .int .i64 0] rfl rfl (by kernel_rfl) rfl rfl (by decide) (by decide) ?_; intro w2 hS hK hbS hsS; have HBS := Lib.hid hS; clear hS hK hbS hsS; have HB := HBS; clear HBS; clear b0 b1 b2; have b0 := HB.out.c2 0 rfl; have b1 := HB.out.c7 1 rfl; have b2 := HB.out.c2 2 rfl) | fail)
  refine bodyPost_ret_by (results_st rfl _ _ (w.heap.size + 1 + 1) _ _ rfl (HB.out.obj 2 rfl)) rfl ?_
  exact stated_err rfl hne HB.out.below
 | ok f =>
  obtain ⟨l2, n2⟩ := f
  have HB := Lib.hid (show Bxs w [(w.heap.size, #[pv m, .int .i64 nx], 88), (w.heap.size + 1, #[.int .i64 kd, .string oa, .string ob, .int .i64 oo, .int .i64 og, .int .i64 on, .string od], 35), (w.heap.size + 1 + 1, #[.pointer none, .int .i64 0], 88)] (((w.alloc (.cells #[pv m, .int .i64 nx] 88)).alloc (.cells #[.int .i64 kd, .string oa, .string ob, .int .i64 oo, .int .i64 og, .int .i64 on, .string od] 35)).alloc (.cells #[.pointer none, .int .i64 0] 88)) from Bxs.three w _ _ _ _ _ _)
  go_enter Tryz.func95, Tryz.ntmps95
  go_wp2_with fail
  generalize ((w.alloc (.cells #[pv m, .int .i64 nx] 88)).alloc (.cells #[.int .i64 kd, .string oa, .string ob, .int .i64 oo, .int .i64 og, .int .i64 on, .string od] 35)).alloc (.cells #[.pointer none, .int .i64 0] 88) = W0 at HB ⊢
  have b0 := HB.out.c2 0 rfl
  have b1 := HB.out.c7 1 rfl
  have b2 := HB.out.c2 2 rfl
  go_wp2_with fail
  refine (HC.out W0 HB.out).mono ?_
  rintro e w1 ⟨hb, m6, rfl, hS⟩
  have hbk := hb
  have HS := Lib.hid hS
  clear hS
  have HB := Lib.hid (HB.out.kept hbk)
  clear b0 b1 b2
  clear hbk
  have b0 := HB.out.c2 0 rfl
  have b1 := HB.out.c7 1 rfl
  have b2 := HB.out.c2 2 rfl
  dsimp only
  go_wp2_with (first | (refine store_bx HB.out 2 rfl 88 _ _ rfl rfl #[pv m6, .int .i64 n2] rfl rfl (by kernel_rfl) rfl rfl (by decide) (by decide) ?_; intro w2 hS hK hbS hsS; have HBS := Lib.hid hS; have HS := Lib.hid (HS.out.kept hK (HD.out.below hbS)); clear hS hK hbS hsS; have HB := HBS; clear HBS; clear b0 b1 b2; have b0 := HB.out.c2 0 rfl; have b1 := HB.out.c7 1 rfl; have b2 := HB.out.c2 2 rfl) | fail)
  refine bodyPost_ret_by (results_st rfl _ _ (w.heap.size + 1 + 1) _ _ rfl (HB.out.obj 2 rfl)) rfl ?_
  exact stated_ok rfl HB.out.below HS.out
set_option maxHeartbeats 16000000 in
theorem pTruncate_any (m : Option Nat) (nx : Int) (kd : Int) (oa ob : ByteArray) (oo og on : Int) (od : ByteArray) (w : World) {R : Except Int Fs.FS} (hC : ∀ W, Bxs w [(w.heap.size, #[pv m, .int .i64 nx], 88), (w.heap.size + 1, #[.int .i64 kd, .string oa, .string ob, .int .i64 oo, .int .i64 og, .int .i64 on, .string od], 35), (w.heap.size + 1 + 1, #[.pointer none, .int .i64 0], 88)] W → Calls Tryz.prog 130 #[stv m nx, .string oa, .func (.func 133) #[] #[.pointer (some ⟨w.heap.size + 1, 0, none⟩)]] W (Stated R W)) (hD : Dg w) : Calls Tryz.prog 96 #[stv m nx, .agg #[.int .i64 kd, .string oa, .string ob, .int .i64 oo, .int .i64 og, .int .i64 on, .string od]] w (Stated R w) := by
 have HC := Lib.hid hC
 have HD := Lib.hid hD
 clear hC hD
 cases R with
 | error ec =>
  have HB := Lib.hid (show Bxs w [(w.heap.size, #[pv m, .int .i64 nx], 88), (w.heap.size + 1, #[.int .i64 kd, .string oa, .string ob, .int .i64 oo, .int .i64 og, .int .i64 on, .string od], 35), (w.heap.size + 1 + 1, #[.pointer none, .int .i64 0], 88)] (((w.alloc (.cells #[pv m, .int .i64 nx] 88)).alloc (.cells #[.int .i64 kd, .string oa, .string ob, .int .i64 oo, .int .i64 og, .int .i64 on, .string od] 35)).alloc (.cells #[.pointer none, .int .i64 0] 88)) from Bxs.three w _ _ _ _ _ _)
  go_enter Tryz.func96, Tryz.ntmps96
  go_wp2_with fail
  generalize ((w.alloc (.cells #[pv m, .int .i64 nx] 88)).alloc (.cells #[.int .i64 kd, .string oa, .string ob, .int .i64 oo, .int .i64 og, .int .i64 on, .string od] 35)).alloc (.cells #[.pointer none, .int .i64 0] 88) = W0 at HB ⊢
  have b0 := HB.out.c2 0 rfl
  have b1 := HB.out.c7 1 rfl
  have b2 := HB.out.c2 2 rfl
  go_wp2_with fail
  refine (HC.out W0 HB.out).mono ?_
  rintro e w1 ⟨hb, hne, rfl⟩
  have hbk := hb
  have HB := Lib.hid (HB.out.kept hbk)
  clear b0 b1 b2
  clear hbk
  have b0 := HB.out.c2 0 rfl
  have b1 := HB.out.c7 1 rfl
  have b2 := HB.out.c2 2 rfl
  dsimp only
  go_wp2_with (first | (refine store_bx HB.out 2 rfl 88 _ _ rfl rfl #[.pointer none, .int .i64 0] rfl rfl (by kernel_rfl) rfl rfl (by decide) (by decide) ?_; intro w2 hS hK hbS hsS; have HBS := Lib.hid hS; clear hS hK hbS hsS; have HB := HBS; clear HBS; clear b0 b1 b2; have b0 := HB.out.c2 0 rfl; have b1 := HB.out.c7 1 rfl; have b2 := HB.out.c2 2 rfl) | fail)
  refine bodyPost_ret_by (results_st rfl _ _ (w.heap.size + 1 + 1) _ _ rfl (HB.out.obj 2 rfl)) rfl ?_
  exact stated_err rfl hne HB.out.below
 | ok f =>
  obtain ⟨l2, n2⟩ := f
  have HB := Lib.hid (show Bxs w [(w.heap.size, #[pv m, .int .i64 nx], 88), (w.heap.size + 1, #[.int .i64 kd, .string oa, .string ob, .int .i64 oo, .int .i64 og, .int .i64 on, .string od], 35), (w.heap.size + 1 + 1, #[.pointer none, .int .i64 0], 88)] (((w.alloc (.cells #[pv m, .int .i64 nx] 88)).alloc (.cells #[.int .i64 kd, .string oa, .string ob, .int .i64 oo, .int .i64 og, .int .i64 on, .string od] 35)).alloc (.cells #[.pointer none, .int .i64 0] 88)) from Bxs.three w _ _ _ _ _ _)
  go_enter Tryz.func96, Tryz.ntmps96
  go_wp2_with fail
  generalize ((w.alloc (.cells #[pv m, .int .i64 nx] 88)).alloc (.cells #[.int .i64 kd, .string oa, .string ob, .int .i64 oo, .int .i64 og, .int .i64 on, .string od] 35)).alloc (.cells #[.pointer none, .int .i64 0] 88) = W0 at HB ⊢
  have b0 := HB.out.c2 0 rfl
  have b1 := HB.out.c7 1 rfl
  have b2 := HB.out.c2 2 rfl
  go_wp2_with fail
  refine (HC.out W0 HB.out).mono ?_
  rintro e w1 ⟨hb, m6, rfl, hS⟩
  have hbk := hb
  have HS := Lib.hid hS
  clear hS
  have HB := Lib.hid (HB.out.kept hbk)
  clear b0 b1 b2
  clear hbk
  have b0 := HB.out.c2 0 rfl
  have b1 := HB.out.c7 1 rfl
  have b2 := HB.out.c2 2 rfl
  dsimp only
  go_wp2_with (first | (refine store_bx HB.out 2 rfl 88 _ _ rfl rfl #[pv m6, .int .i64 n2] rfl rfl (by kernel_rfl) rfl rfl (by decide) (by decide) ?_; intro w2 hS hK hbS hsS; have HBS := Lib.hid hS; have HS := Lib.hid (HS.out.kept hK (HD.out.below hbS)); clear hS hK hbS hsS; have HB := HBS; clear HBS; clear b0 b1 b2; have b0 := HB.out.c2 0 rfl; have b1 := HB.out.c7 1 rfl; have b2 := HB.out.c2 2 rfl) | fail)
  refine bodyPost_ret_by (results_st rfl _ _ (w.heap.size + 1 + 1) _ _ rfl (HB.out.obj 2 rfl)) rfl ?_
  exact stated_ok rfl HB.out.below HS.out
set_option maxHeartbeats 16000000 in
theorem pClone_any (m : Option Nat) (nx : Int) (kd : Int) (oa ob : ByteArray) (oo og on : Int) (od : ByteArray) (w : World) {R : Except Int Fs.FS} (hC : ∀ W, Bxs w [(w.heap.size, #[pv m, .int .i64 nx], 88), (w.heap.size + 1, #[.int .i64 kd, .string oa, .string ob, .int .i64 oo, .int .i64 og, .int .i64 on, .string od], 35), (w.heap.size + 1 + 1, #[.pointer none, .int .i64 0], 88)] W → Calls Tryz.prog 130 #[stv m nx, .string oa, .func (.func 135) #[] #[.pointer (some ⟨w.heap.size, 0, none⟩), .pointer (some ⟨w.heap.size + 1, 0, none⟩)]] W (Stated R W)) (hD : Dg w) : Calls Tryz.prog 97 #[stv m nx, .agg #[.int .i64 kd, .string oa, .string ob, .int .i64 oo, .int .i64 og, .int .i64 on, .string od]] w (Stated R w) := by
 have HC := Lib.hid hC
 have HD := Lib.hid hD
 clear hC hD
 cases R with
 | error ec =>
  have HB := Lib.hid (show Bxs w [(w.heap.size, #[pv m, .int .i64 nx], 88), (w.heap.size + 1, #[.int .i64 kd, .string oa, .string ob, .int .i64 oo, .int .i64 og, .int .i64 on, .string od], 35), (w.heap.size + 1 + 1, #[.pointer none, .int .i64 0], 88)] (((w.alloc (.cells #[pv m, .int .i64 nx] 88)).alloc (.cells #[.int .i64 kd, .string oa, .string ob, .int .i64 oo, .int .i64 og, .int .i64 on, .string od] 35)).alloc (.cells #[.pointer none, .int .i64 0] 88)) from Bxs.three w _ _ _ _ _ _)
  go_enter Tryz.func97, Tryz.ntmps97
  go_wp2_with fail
  generalize ((w.alloc (.cells #[pv m, .int .i64 nx] 88)).alloc (.cells #[.int .i64 kd, .string oa, .string ob, .int .i64 oo, .int .i64 og, .int .i64 on, .string od] 35)).alloc (.cells #[.pointer none, .int .i64 0] 88) = W0 at HB ⊢
  have b0 := HB.out.c2 0 rfl
  have b1 := HB.out.c7 1 rfl
  have b2 := HB.out.c2 2 rfl
  go_wp2_with fail
  refine (HC.out W0 HB.out).mono ?_
  rintro e w1 ⟨hb, hne, rfl⟩
  have hbk := hb
  have HB := Lib.hid (HB.out.kept hbk)
  clear b0 b1 b2
  clear hbk
  have b0 := HB.out.c2 0 rfl
  have b1 := HB.out.c7 1 rfl
  have b2 := HB.out.c2 2 rfl
  dsimp only
  go_wp2_with (first | (refine store_bx HB.out 2 rfl 88 _ _ rfl rfl #[.pointer none, .int .i64 0] rfl rfl (by kernel_rfl) rfl rfl (by decide) (by decide) ?_; intro w2 hS hK hbS hsS; have HBS := Lib.hid hS; clear hS hK hbS hsS; have HB := HBS; clear HBS; clear b0 b1 b2; have b0 := HB.out.c2 0 rfl; have b1 := HB.out.c7 1 rfl; have b2 := HB.out.c2 2 rfl) | fail)
  refine bodyPost_ret_by (results_st rfl _ _ (w.heap.size + 1 + 1) _ _ rfl (HB.out.obj 2 rfl)) rfl ?_
  exact stated_err rfl hne HB.out.below
 | ok f =>
  obtain ⟨l2, n2⟩ := f
  have HB := Lib.hid (show Bxs w [(w.heap.size, #[pv m, .int .i64 nx], 88), (w.heap.size + 1, #[.int .i64 kd, .string oa, .string ob, .int .i64 oo, .int .i64 og, .int .i64 on, .string od], 35), (w.heap.size + 1 + 1, #[.pointer none, .int .i64 0], 88)] (((w.alloc (.cells #[pv m, .int .i64 nx] 88)).alloc (.cells #[.int .i64 kd, .string oa, .string ob, .int .i64 oo, .int .i64 og, .int .i64 on, .string od] 35)).alloc (.cells #[.pointer none, .int .i64 0] 88)) from Bxs.three w _ _ _ _ _ _)
  go_enter Tryz.func97, Tryz.ntmps97
  go_wp2_with fail
  generalize ((w.alloc (.cells #[pv m, .int .i64 nx] 88)).alloc (.cells #[.int .i64 kd, .string oa, .string ob, .int .i64 oo, .int .i64 og, .int .i64 on, .string od] 35)).alloc (.cells #[.pointer none, .int .i64 0] 88) = W0 at HB ⊢
  have b0 := HB.out.c2 0 rfl
  have b1 := HB.out.c7 1 rfl
  have b2 := HB.out.c2 2 rfl
  go_wp2_with fail
  refine (HC.out W0 HB.out).mono ?_
  rintro e w1 ⟨hb, m6, rfl, hS⟩
  have hbk := hb
  have HS := Lib.hid hS
  clear hS
  have HB := Lib.hid (HB.out.kept hbk)
  clear b0 b1 b2
  clear hbk
  have b0 := HB.out.c2 0 rfl
  have b1 := HB.out.c7 1 rfl
  have b2 := HB.out.c2 2 rfl
  dsimp only
  go_wp2_with (first | (refine store_bx HB.out 2 rfl 88 _ _ rfl rfl #[pv m6, .int .i64 n2] rfl rfl (by kernel_rfl) rfl rfl (by decide) (by decide) ?_; intro w2 hS hK hbS hsS; have HBS := Lib.hid hS; have HS := Lib.hid (HS.out.kept hK (HD.out.below hbS)); clear hS hK hbS hsS; have HB := HBS; clear HBS; clear b0 b1 b2; have b0 := HB.out.c2 0 rfl; have b1 := HB.out.c7 1 rfl; have b2 := HB.out.c2 2 rfl) | fail)
  refine bodyPost_ret_by (results_st rfl _ _ (w.heap.size + 1 + 1) _ _ rfl (HB.out.obj 2 rfl)) rfl ?_
  exact stated_ok rfl HB.out.below HS.out
end Go.Proofs.YthehblmjloohiaaGreatDoor
