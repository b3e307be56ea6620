/- A part of the proofs. -/
import Derived.Test.YthbajmlmjjfgpaaGreatDoorC25
set_option maxRecDepth 1000000
set_option maxHeartbeats 16000000
open Go.Lib (hid)
open Go.Proofs.Tryz
namespace Go.Proofs.YthbajmlmjjfgpaaGreatDoor
open Go.RowKit Go.Less Go.Maps
open T8 (pv Dg)
attribute [local go_sem 9000] sem_eql sem_neq
def tA : ByteArray := ⟨#[47, 97]⟩
def tB : ByteArray := ⟨#[47, 98]⟩
def awO1 : Fs.Op := ⟨1, tA, ⟨#[]⟩, 0, 0, 420, ⟨#[]⟩⟩
def awO2 : Fs.Op := ⟨8, tA, ⟨#[]⟩, 1, 0, 0, ⟨#[120]⟩⟩
def awO3 : Fs.Op := ⟨4, tA, tB, 0, 0, 0, ⟨#[]⟩⟩
def awO4 : Fs.Op := ⟨5, tA, ⟨#[]⟩, 0, 0, 0, ⟨#[]⟩⟩
def awN (s : ByteArray) : Nd.Node := ⟨1, 420, s, ⟨#[]⟩, []⟩
def awD (es : List En) : Nd.Node := ⟨2, 493, ⟨#[]⟩, ⟨#[]⟩, es⟩
def nA : ByteArray := ⟨#[97]⟩
def nB : ByteArray := ⟨#[98]⟩
def aw1 : Fs.FS := ⟨[(1, awD [(nA, 2)]), (2, awN ⟨#[]⟩)], 3⟩
def aw2 : Fs.FS := ⟨[(1, awD [(nA, 2)]), (2, awN ⟨#[0, 120]⟩)], 3⟩
def aw3 : Fs.FS := ⟨[(1, awD [(nA, 2), (nB, 2)]), (2, awN ⟨#[0, 120]⟩)], 3⟩
def aw4 : Fs.FS := ⟨[(1, awD [(nB, 2)]), (2, awN ⟨#[0, 120]⟩)], 3⟩
theorem fs_eq {f g : Fs.FS} {c d : Int} (h1 : f.l = g.l) (h2 : f.next = g.next) (h3 : c = d) : (f, c) = (g, d) := by
 obtain ⟨fl, fn⟩ := f
 obtain ⟨gl, gn⟩ := g
 dsimp only at h1 h2
 rw [h1, h2, h3]
theorem is1 : Fs.doE env Fs.new awO1 = (aw1, 0) := fs_eq (by decide +kernel) (by decide +kernel) (by decide +kernel)
theorem is2 : Fs.doE env aw1 awO2 = (aw2, 0) := fs_eq (by decide +kernel) (by decide +kernel) (by decide +kernel)
theorem is3 : Fs.doE env aw2 awO3 = (aw3, 0) := fs_eq (by decide +kernel) (by decide +kernel) (by decide +kernel)
theorem is4 : Fs.doE env aw3 awO4 = (aw4, 0) := fs_eq (by decide +kernel) (by decide +kernel) (by decide +kernel)
theorem good_step {f f2 : Fs.FS} {c : Int} {o : Fs.Op} (G : Fs.Good env f) (hb : f.next <= 2147483646) (he : Fs.doE env f o = (f2, c)) : Fs.Good env f2 := by
 have := (doE_step G hb o).1
 rw [he] at this
 exact this
theorem g1 : Fs.Good env aw1 := good_step Fs.new_good (by decide) is1
theorem g2 : Fs.Good env aw2 := good_step g1 (by decide) is2
theorem g3 : Fs.Good env aw3 := good_step g2 (by decide) is3
theorem g4 : Fs.Good env aw4 := good_step g3 (by decide) is4
theorem Turn.ents {g : Nat} {w w' : World} (ht : Turn g w w') {f : Fs.FS} (hF : Fo w g f) {a : Option Addr} {n : Nat} {l : List En} (h : Ents a n l w) : Ents a n l w' := by
 obtain ⟨m, hg, _⟩ := hF
 refine ⟨h.count, λi hi => ?_⟩
 obtain ⟨b, off, rfl, h0, h1⟩ := h.cell i hi
 have hb : b ≠ g := by
  rintro rfl
  rw [cell_obj hg] at h0 h1
  exact noEnt88 m f.next _ _ _ h0 h1
 exact ⟨b, off, rfl, turn_cell ht h0 hb, turn_cell ht h1 hb⟩
theorem Turn.obj {g : Nat} {w w' : World} (ht : Turn g w w') {p : Nat} {o : Obj} (h : w.heap[p]? = some o) (hp : p ≠ g) : w'.heap[p]? = some o := by
 have hl : p < w.heap.size := (Array.getElem?_eq_some_iff.1 h).1
 exact (ht.block p hl hp).trans h
end Go.Proofs.YthbajmlmjjfgpaaGreatDoor
namespace Go.Proofs.YthbajmlmjjfgpaaGreatDoor
open Go.RowKit Go.Less Go.Maps
open T6
theorem Turn.trees {g : Nat} {w w' : World} (ht : Turn g w w') {cs : Array Value} {fr : Nat × Nat} (hg : w.heap[g]? = some (.cells cs 110 fr)) : ∀ {t : T8.Tt} {q : Option Nat}, T8.Tree w q t -> T8.Tree w' q t
 | .leaf, _, hq => hq
 | .node _ _ _ _, _, ⟨b, pl, pr, e, hc, hk, hv, hl, hr⟩ => ⟨b, pl, pr, e, ht.obj hc (by rintro rfl; rw [hg] at hc; injection hc with hc; injection hc with _ hc _; exact absurd hc (by decide)), hk, hv, ht.trees hg hl, ht.trees hg hr⟩
theorem Turn.maps {g : Nat} {w w' : World} (ht : Turn g w w') {cs : Array Value} {fr : Nat × Nat} (hg : w.heap[g]? = some (.cells cs 110 fr)) {m : Option Nat} {t : T8.Tt} (hm : T8.IsMap w m t) : T8.IsMap w' m t := by
 cases m with
 | none => exact hm
 | some b =>
  obtain ⟨q, h1, h2⟩ := hm
  exact ⟨q, ht.obj h1 (by rintro rfl; rw [hg] at h1; injection h1 with h1; injection h1 with _ h1 _; exact absurd h1 (by decide)), ht.trees hg h2⟩
theorem Turn.dg {g : Nat} {w w' : World} (ht : Turn g w w') {x y : Value} {t : TypeId} (hg : w.heap[g]? = some (.cells #[x, y] t (0, 0))) (h : T8.Dg w) : T8.Dg w' := by
 have n2 : (3 : Nat) ≠ g := by
  rintro rfl
  have h1 := h.k 7 (by decide)
  rw [cell_obj hg 7] at h1
  cases h1
 have n0 : (2 : Nat) ≠ g := by
  rintro rfl
  have h1 := h.i 7 (by decide)
  rw [cell_obj hg 7] at h1
  cases h1
 exact ⟨λj hj => turn_cell ht (h.k j hj) n2, λj hj => turn_cell ht (h.i j hj) n0⟩
theorem Sv.turn {g : Nat} {w w' : World} (ht : Turn g w w') {f : Fs.FS} (hF : Fo w g f) {m : Option Nat} {l : List Fs.Item} (h : Sv w m l) : Sv w' m l := by
 obtain ⟨m', hg, _⟩ := hF
 exact ⟨⟨h.rp.sorted, ht.maps hg h.rp.map⟩, h.ok, ht.dg hg h.dg⟩
theorem Fo.turn {g g2 : Nat} {w w' : World} (ht : Turn g w w') {f f2 : Fs.FS} (hF : Fo w g f) (h : Fo w g2 f2) (hne : g2 ≠ g) : Fo w' g2 f2 := by
 obtain ⟨m, h1, h2⟩ := h
 exact ⟨m, ht.obj h1 hne, h2.turn ht hF⟩
theorem alike_self (a : ByteArray) : alike a a = true := alike_eq.2 rfl
end Go.Proofs.YthbajmlmjjfgpaaGreatDoor
namespace Go.Proofs.YthbajmlmjjfgpaaGreatDoor
open Go.RowKit Go.Less
open T8 (pv Rp Dg Mapped mput_any mdel_any mlen_any mname_any mget_there cn)
attribute [local go_sem 9000] sem_eql sem_neq
theorem Turn.blk {g : Nat} {w w' : World} (ht : Turn g w w') {T : TypeId} {cs : Array Value} {fr : Nat × Nat} (hg : w.heap[g]? = some (.cells cs T fr)) {b : Nat} {ds : Array Value} {t : TypeId} {fs : Nat × Nat} (hb : w.heap[b]? = some (.cells ds t fs)) (hT : T ≠ t) : w'.heap[b]? = some (.cells ds t fs) :=
 ht.obj hb (by rintro rfl; rw [hg] at hb; injection hb with hb; injection hb with _ hb _; exact hT hb)
theorem Turn.treesS {g : Nat} {w w' : World} (ht : Turn g w w') {cs : Array Value} {fr : Nat × Nat} (hg : w.heap[g]? = some (.cells cs 117 fr)) : ∀ {t : T8.Tt} {q : Option Nat}, T8.Tree w q t -> T8.Tree w' q t
 | .leaf, _, hq => hq
 | .node _ _ _ _, _, ⟨b, pl, pr, e, hc, hk, hv, hl, hr⟩ => ⟨b, pl, pr, e, ht.blk hg hc (by decide), hk, hv, ht.treesS hg hl, ht.treesS hg hr⟩
theorem Turn.mapsS {g : Nat} {w w' : World} (ht : Turn g w w') {cs : Array Value} {fr : Nat × Nat} (hg : w.heap[g]? = some (.cells cs 117 fr)) {m : Option Nat} {t : T8.Tt} (hm : T8.IsMap w m t) : T8.IsMap w' m t := by
 cases m with
 | none => exact hm
 | some b =>
  obtain ⟨q, h1, h2⟩ := hm
  exact ⟨q, ht.blk hg h1 (by decide), ht.treesS hg h2⟩
theorem Sv.turnS {g : Nat} {w w' : World} (ht : Turn g w w') {x y : Value} (hg : w.heap[g]? = some (.cells #[x, y] 117 (0, 0))) {m : Option Nat} {l : List Fs.Item} (h : Sv w m l) : Sv w' m l :=
 ⟨⟨h.rp.sorted, ht.mapsS hg h.rp.map⟩, h.ok, ht.dg hg h.dg⟩
theorem Fo.turnS {g g2 : Nat} {w w' : World} (ht : Turn g w w') {x y : Value} (hg : w.heap[g]? = some (.cells #[x, y] 117 (0, 0))) {f2 : Fs.FS} (h : Fo w g2 f2) : Fo w' g2 f2 := by
 obtain ⟨m, h1, h2⟩ := h
 exact ⟨m, ht.blk hg h1 (by decide), h2.turnS ht hg⟩
structure Stg (w : World) (g p : Nat) (f : Fs.FS) (l : List Fs.Item) : Prop where
 box : ∃ m, w.heap[g]? = some (.cells #[ptg p, pv m] 117 (0, 0)) /\ Sv w m l
 par : Fo w p f
 ok : Okc l
 okp : Okc f.l
theorem Stg.below {w w' : World} {g p : Nat} {f : Fs.FS} {l : List Fs.Item} (h : Stg w g p f l) (hb : Below w.heap.size w w') : Stg w' g p f l := by
 obtain ⟨⟨m, h1, h2⟩, h3, h4, h5⟩ := h
 exact ⟨⟨m, (hb.block _ (lt_of_obj h1)).trans h1, h2.below hb⟩, h3.below hb, h4, h5⟩
theorem Stg.lt {w : World} {g p : Nat} {f : Fs.FS} {l : List Fs.Item} (h : Stg w g p f l) : g < w.heap.size := by obtain ⟨⟨m, h1, _⟩, _⟩ := h; exact lt_of_obj h1
theorem Stg.turnS {g g2 p p2 : Nat} {w w' : World} (ht : Turn g w w') {f f2 : Fs.FS} {l l2 : List Fs.Item} (hg : Stg w g p f l) (h : Stg w g2 p2 f2 l2) (hne : g2 ≠ g) : Stg w' g2 p2 f2 l2 := by
 obtain ⟨⟨m, h1, h2⟩, h3, h4, h5⟩ := h
 obtain ⟨⟨m', e1, _⟩, _⟩ := hg
 exact ⟨⟨m, ht.obj h1 hne, h2.turnS ht e1⟩, h3.turnS ht e1, h4, h5⟩
theorem Stg.fo {g p q : Nat} {w w' : World} (ht : Turn g w w') {f f2 : Fs.FS} {l : List Fs.Item} (hg : Stg w g p f l) (h : Fo w q f2) : Fo w' q f2 := by
 obtain ⟨⟨m', e1, _⟩, _⟩ := hg
 exact h.turnS ht e1
theorem numText_nat (n : Nat) (w : World) (_h1 : n <= 4294967295) :
  Calls prog 42 #[.int .i64 (n : Int)] w (λe w' => e = .returned (.string (Fs.key (n : Int))) /\ Below w.heap.size w w') := by
 have HK := hid (show Fs.key (n : Int) = ⟨#[byteOf (n / 16777216), byteOf (n / 65536), byteOf (n / 256), byteOf n]⟩ by unfold Fs.key Nd.mk Nd.n4; simp [byteOf])
 have hr := run_bytes5
 have e0 : (n : Int) / 16777216 % 256 = ((byteOf (n / 16777216)).toNat : Int) := by rw [<- byteOf_eq]; omega
 have e1 : (n : Int) / 65536 % 256 = ((byteOf (n / 65536)).toNat : Int) := by rw [<- byteOf_eq]; omega
 have e2 : (n : Int) / 256 % 256 = ((byteOf (n / 256)).toNat : Int) := by rw [<- byteOf_eq]; omega
 have e3 : (n : Int) % 256 = ((byteOf n).toNat : Int) := by rw [<- byteOf_eq]
 generalize hA : byteOf (n / 16777216) = A at e0 HK
 generalize hB : byteOf (n / 65536) = B at e1 HK
 generalize hC : byteOf (n / 256) = C at e2 HK
 generalize hD : byteOf n = D at e3 HK
 clear hA hB hC hD _h1
 generalize (n : Int) = k at *
 go_enter func42, ntmps42
 go_wp2_with fail
 go_ret
 exact ⟨by rw [HK.out]; rfl, (Below.refl w.heap.size w).alloc (Nat.le_refl _) _⟩
theorem numText_any (i : Int) (w : World) (h0 : 0 <= i) (h1 : i < 4294967296) :
  Calls prog 42 #[.int .i64 i] w (λe w' => e = .returned (.string (Fs.key i)) /\ Below w.heap.size w w') := by
 obtain ⟨n, rfl⟩ : ∃ n : Nat, i = n := ⟨i.toNat, by omega⟩
 exact numText_nat n w (by omega)
theorem sNode_any (g p : Nat) (m : Option Nat) (l : List Fs.Item) (k : Int) (w : World) (hg : w.heap[g]? = some (.cells #[ptg p, pv m] 117 (0, 0))) (h : Sv w m l) (hk0 : -9223372036854775808 <= k) (hk1 : k <= 9223372036854775807) :
  Calls prog 100 #[ptg g, .int .i64 k] w (Node11 l k w) := by
 have HB := hid (Bxs.one w #[.int .i64 0, .int .i64 0, .string ⟨#[]⟩, .string ⟨#[]⟩, .slice none 0 0] 67)
 have HZ := hid (heap_alloc_new w (.cells #[.int .i64 0, .int .i64 0, .string ⟨#[]⟩, .string ⟨#[]⟩, .slice none 0 0] 67))
 by_cases hk : k < 0
 ·have HR := hid (h.ok.out (k := k) (.inl (by omega)))
  have hu : IntKind.u64.wrap k = k + 18446744073709551616 := by rw [IntKind.wrap_u64]; omega
  have hgt : (4294967295 : Int) < k + 18446744073709551616 := by omega
  clear h hg
  go_enter func100, ntmps100
  go_wp2_with fail
  refine bodyPost_ret_by (results_nd rfl _ _ w.heap.size _ _ _ _ _ rfl HZ.out) rfl ?_
  exact node11_none HR.out HB.out.below
 have hu : IntKind.u64.wrap k = k := by rw [IntKind.wrap_u64]; omega
 by_cases hk2 : 4294967295 < k
 ·have HR := hid (h.ok.out (k := k) (.inr (by omega)))
  clear h hg
  go_enter func100, ntmps100
  go_wp2_with fail
  refine bodyPost_ret_by (results_nd rfl _ _ w.heap.size _ _ _ _ _ rfl HZ.out) rfl ?_
  exact node11_none HR.out HB.out.below
 have HK := hid (λW => numText_any k W (by omega) (by omega))
 have HGc := hid (λW (hb : Below w.heap.size w W) => cell_obj ((hb.block _ (lt_of_obj hg)).trans hg) 1)
 have hg := get_node h (i := k) (by omega)
 cases hn : Fs.node l k with
 | none =>
  rw [hn] at hg
  have HG := hid (λW (hb : Below w.heap.size w W) => mget_no (h.rp.below hb) (Fs.key k) hg)
  have HR := hid hn
  clear hn hg h HZ
  go_enter func100, ntmps100
  go_wp2_with fail
  generalize w.alloc (.cells #[.int .i64 0, .int .i64 0, .string ⟨#[]⟩, .string ⟨#[]⟩, .slice none 0 0] 67) = W0 at HB |-
  have HSx := hid (show ∀ W, Below W0.heap.size W0 W -> W.cell? ⟨g, 1, none⟩ = some (pv m) /\ Below W0.heap.size W0 W from λW hb => ⟨HGc.out W (HB.out.below.trans (hb.mono HB.out.below.size)), hb⟩)
  have HWt := hid (show ∀ W, Below W0.heap.size W0 W -> Below w.heap.size w W from λW hb => HB.out.below.trans (hb.mono HB.out.below.size))
  have hBd := (Below.refl W0.heap.size W0).drew
  go_wp2_with fail
  go_region_held3 (λW => W.cell? ⟨g, 1, none⟩ = some (pv m) /\ Below W0.heap.size W0 W)
   (first | exact HSx.out _ (by assumption))
   (first
   | (go_at_call 42; (with_reducible refine (HK.out _).mono ?_); rintro e w2 ⟨rfl, hw2⟩; have hb2 := T8.btrans hw2 (by assumption))
   | (go_at_call 32; (with_reducible refine (HG.out _ (HWt.out _ (by assumption))).mono ?_); rintro e w3 ⟨rfl, hw3⟩; have hb3 := T8.btrans hw3 (by assumption)))
  have HB := hid (HB.out.kept hb3)
  clear hb3 hb2 hw2 hw3 hBd
  go_wp2_with (first | (refine store_bx HB.out 0 rfl 67 _ _ rfl rfl #[.int .i64 0, .int .i64 0, .string ⟨#[]⟩, .string ⟨#[]⟩, .slice none 0 0] rfl rfl (by kernel_rfl) rfl rfl (by decide) (by decide) ?_; intro w9 hS hK9 hbS hsS; have HBS := hid hS; clear hS hK9 hbS hsS) | fail)
  refine bodyPost_ret_by (results_nd rfl _ _ w.heap.size _ _ _ _ _ rfl (HBS.out.obj 0 rfl)) rfl ?_
  exact node11_none HR.out HBS.out.below
 | some x =>
  rw [hn] at hg
  have hx := h.ok.node hn
  have hts := txt_size hx.1
  have HG := hid (λW (hb : Below w.heap.size w W) => mget_there (h.rp.below hb) (Fs.key k) (Fs.txt x) hg)
  have HPa := hid (show ∀ W, Calls prog 131 #[.string (Fs.txt x)] W (Noded (x, 0) W) from λW => parse_txt hx.1 ▸ parse_any (Fs.txt x) W (by omega))
  have HR := hid hn
  clear hn hg h HZ hx hts
  generalize Fs.txt x = tx at *
  obtain ⟨q, mo, d, u, es⟩ := x
  go_enter func100, ntmps100
  go_wp2_with fail
  generalize w.alloc (.cells #[.int .i64 0, .int .i64 0, .string ⟨#[]⟩, .string ⟨#[]⟩, .slice none 0 0] 67) = W0 at HB |-
  have HSx := hid (show ∀ W, Below W0.heap.size W0 W -> W.cell? ⟨g, 1, none⟩ = some (pv m) /\ Below W0.heap.size W0 W from λW hb => ⟨HGc.out W (HB.out.below.trans (hb.mono HB.out.below.size)), hb⟩)
  have HWt := hid (show ∀ W, Below W0.heap.size W0 W -> Below w.heap.size w W from λW hb => HB.out.below.trans (hb.mono HB.out.below.size))
  have hBd := (Below.refl W0.heap.size W0).drew
  go_wp2_with fail
  go_region_held3 (λW => W.cell? ⟨g, 1, none⟩ = some (pv m) /\ Below W0.heap.size W0 W)
   (first | exact HSx.out _ (by assumption))
   (first
   | (go_at_call 42; (with_reducible refine (HK.out _).mono ?_); rintro e w2 ⟨rfl, hw2⟩; have hb2 := T8.btrans hw2 (by assumption))
   | (go_at_call 32; (with_reducible refine (HG.out _ (HWt.out _ (by assumption))).mono ?_); rintro e w3 ⟨rfl, hw3⟩; have hb3 := T8.btrans hw3 (by assumption)))
  have HB := hid (HB.out.kept hb3)
  clear hb3 hb2 hw2 hw3 hBd
  go_wp2_with fail
  refine (HPa.out _).mono ?_
  rintro e w4 ⟨a, c, rfl, hE, hb⟩
  have HB := hid (show Bxs w _ (w4.alloc (.cells #[.int .i64 q, .int .i64 mo, .string d, .string u, .slice a es.length c] 67)) from (HB.out.kept hb).more _ _ rfl)
  have HE := hid (hE.below (below_one w4 (.cells #[.int .i64 q, .int .i64 mo, .string d, .string u, .slice a es.length c] 67)))
  clear hE hb
  dsimp only
  go_wp2_with (first | (refine store_bx HB.out 0 rfl 67 _ _ rfl rfl #[.int .i64 q, .int .i64 mo, .string d, .string u, .slice a es.length c] rfl rfl (by kernel_rfl) rfl rfl (by decide) (by decide) ?_; intro w9 hS hK9 hbS hsS; have HBS := hid hS; have HK9 := hid hK9; clear hS hK9 hbS hsS) | fail)
  have HEn := hid (HK9.out.ents (HB.out.obj 0 rfl) (noEnt43 _ _ _ _ _ _ _) HE.out)
  refine bodyPost_ret_by (results_nd rfl _ _ w.heap.size _ _ _ _ _ rfl (HBS.out.obj 0 rfl)) rfl ?_
  exact node11_some HR.out HBS.out.below HEn.out
def Put1 (l : List Fs.Item) (g p : Nat) (w w' : World) : Prop := ∃ m, w'.heap[g]? = some (.cells #[ptg p, pv m] 117 (0, 0)) /\ Sv w' m l /\ Turn g w w'
theorem put1_of {g p : Nat} {m m' : Option Nat} {l : List Fs.Item} {w w5 : World} (hb : Below w.heap.size w w5) (hg : w.heap[g]? = some (.cells #[ptg p, pv m] 117 (0, 0))) (hS : Sv w5 m' l) : Put1 l g p w (w5.setCell ⟨g, 1, none⟩ (pv m')) := by
 have h5 := (hb.block _ (lt_of_obj hg)).trans hg
 have hT : Turn g w5 (w5.setCell ⟨g, 1, none⟩ (pv m')) := ⟨rfl, rfl, rfl, by simp, λk _ hne => heap_setCell_other w5 ⟨g, 1, none⟩ k _ hne⟩
 exact ⟨m', heap_setCell_same w5 g 1 _ 117 _ h5, hS.turnS hT h5, (Turn.of_below hb).trans hT⟩
theorem sPut_any (g p : Nat) (m : Option Nat) (l : List Fs.Item) (i : Int) (x : Nd.Node) (a : Option Addr) (c : Nat) (w : World) (hg : w.heap[g]? = some (.cells #[ptg p, pv m] 117 (0, 0))) (h : Sv w m l) (hE : Ents a x.ents.length x.ents w) (hR : Nd.Right less Nm.right x) (hi : 1 <= i /\ i <= 2147483647) (hf : l.length <= 900) :
  Calls prog 102 #[ptg g, .int .i64 i, nv x.kind x.mode x.data x.target a x.ents.length c] w λe w' => e = .returned (.tuple #[]) /\ Put1 (Fs.insL l i x) g p w w' := by
 have HPr := hid (λW (hb : Below w.heap.size w W) => q_print (k := x.kind) (m := x.mode) (c := c) W (hE.below hb) (Right.smallS hR) (prt_txt hR))
 have HK := hid (λW => numText_any i W (by omega) (by omega))
 have HPu := hid (show ∀ W, Below w.heap.size w W -> Calls prog 133 #[pv m, .string (Fs.key i), .string (Fs.txt x)] W (Mapped (Fs.kv (Fs.insL l i x)) W) from λW hb => by
  rw [<- Fs.put_kvL h.ok.ub h.ok.inos (by omega) x]
  exact mput_any (h.rp.below hb) (h.dg.below hb) (by rw [Fs.kv_len]; omega) _ _ (by rw [Fs.key_size]; decide) (txt_size hR))
 have HOk := hid (h.ok.insL hi hR (by rw [Fs.len_insL h.ok.inos]; split <;> omega))
 have HD := hid h.dg
 have HG := hid hg
 have HGc := hid (λW (hb : Below w.heap.size w W) => cell_obj ((hb.block _ (lt_of_obj hg)).trans hg) 1)
 have HGf := hid (λW (hb : Below w.heap.size w W) => free_obj ((hb.block _ (lt_of_obj hg)).trans hg) 1)
 have HB := hid (Bxs.one w #[.int .i64 x.kind, .int .i64 x.mode, .string x.data, .string x.target, .slice a x.ents.length c] 67)
 clear h hE hf hg
 go_enter func102, ntmps102
 go_wp2_with fail
 generalize w.alloc (.cells #[.int .i64 x.kind, .int .i64 x.mode, .string x.data, .string x.target, .slice a x.ents.length c] 67) = W0 at HB |-
 refine (HPr.out W0 HB.out.below).mono ?_
 rintro e w1 ⟨rfl, hb⟩
 have HW1 := hid (HB.out.kept hb).below
 clear hb
 dsimp only
 have HSx := hid (show ∀ W, Below w1.heap.size w1 W -> W.cell? ⟨g, 1, none⟩ = some (pv m) /\ W.frozen? ⟨g, 1, none⟩ = false /\ Below w.heap.size w W from λW hb => have hB := HW1.out.trans (hb.mono HW1.out.size); ⟨HGc.out W hB, HGf.out W hB, hB⟩)
 have hBd := (Below.refl w1.heap.size w1).drew
 have b0_0 := (HSx.out _ (Below.refl _ _)).1
 go_wp2_with fail
 go_region_law (first
  | (go_simp; (with_reducible refine (HPu.out _ (HSx.out _ (by assumption)).2.2).mono ?_); rintro e w5 ⟨m5, rfl, hrp, hb5⟩; have hB5 := T8.btrans hb5 (by assumption); have b0_0 := (HSx.out _ hB5).1; have q5 := (HSx.out _ hB5).2.1)
  | (go_simp; (with_reducible refine (HK.out _).mono ?_); rintro e w4 ⟨rfl, hb4⟩; have hB4 := T8.btrans hb4 (by assumption); have b0_0 := (HSx.out _ hB4).1))
 all_goals
  have HP := hid (put1_of (HSx.out _ hB5).2.2 HG.out (⟨hrp, HOk.out, HD.out.below (HSx.out _ hB5).2.2⟩ : Sv w5 m5 (Fs.insL l i x)))
  clear q5 hrp hb5 hB5
  go_wp2_with fail
  go_end0
  exact ⟨rfl, HP.out⟩
end Go.Proofs.YthbajmlmjjfgpaaGreatDoor
namespace Go.Proofs.YthbajmlmjjfgpaaGreatDoor
open T6
open Go.RowKit Go.Less
open T8 (pv Dg)
attribute [local go_sem 9000] sem_eql sem_neq
abbrev ccs (c : Fs.Cmd) : Array Value := #[.int .i64 c.kind, .int .i64 c.ino, .int .i64 c.src, .int .i64 c.off, .int .i64 c.from_, .int .i64 c.n, .string c.name, .string c.data]
structure CmdOk (c : Fs.Cmd) : Prop where
 ino0 : -9223372036854775808 <= c.ino
 ino1 : c.ino <= 9223372036854775807
 src0 : -9223372036854775808 <= c.src
 src1 : c.src <= 9223372036854775807
 off : c.off <= 9223372036854775807
 from_ : c.from_ <= 9223372036854775807
 n : c.n <= 9223372036854775807
 name : c.name.size <= 140737488355328
 data : c.data.size <= 140737488355328
abbrev zcs : Array Value := #[.int .i64 0, .int .i64 0, .string ⟨#[]⟩, .string ⟨#[]⟩, .slice none 0 0]
theorem fileError_any (k m : Int) (d t : ByteArray) (a : Option Addr) (n c : Nat) (es : List En) (w : World) : Calls prog 110 #[nv k m d t a n c] w λe w' => e = .returned (.int .i64 (Fs.fileE ⟨k, m, d, t, es⟩)) /\ Below w.heap.size w w' := by
 have HB := hid (below_one w (.cells #[.int .i64 k, .int .i64 m, .string d, .string t, .slice a n c] 67))
 unfold Fs.fileE
 dsimp only
 by_cases h1 : k = 1
 ·subst h1
  go_enter func110, ntmps110
  go_wp2_with fail
  go_ret
  exact ⟨rfl, HB.out⟩
 rw [if_neg h1]
 by_cases h2 : k = 2
 ·subst h2
  go_enter func110, ntmps110
  go_wp2_with fail
  go_ret
  exact ⟨rfl, HB.out⟩
 rw [if_neg h2]
 go_enter func110, ntmps110
 go_wp2_with fail
 go_ret
 exact ⟨rfl, HB.out⟩
theorem cWout_any (b : Nat) (q : Fs.Cmd) (k m : Int) (d t : ByteArray) (l : List En) (hR : Nd.Right less Nm.right ⟨k, m, d, t, l⟩) (a : Option Addr) (cp : Nat) (w : World) (hb : w.heap[b]? = some (.cells (ccs q) 23 (0, 0))) (hE : Ents a l.length l w) :
  Calls prog 65 #[nv k m d t a l.length cp, .pointer (some ⟨b, 0, none⟩)] w (Noded (Nd.withoutE ⟨k, m, d, t, l⟩ q.name) w) := by
 obtain ⟨⟨k2, m2, d2, t2, l2⟩, r, hr⟩ : ∃ x2 r, Nd.withoutE ⟨k, m, d, t, l⟩ q.name = (x2, r) := ⟨_, _, rfl⟩
 have HQ := hid (show ∀ W, Below w.heap.size w W -> Calls prog 66 #[nv k m d t a l.length cp, .string q.name] W (Noded (⟨k2, m2, d2, t2, l2⟩, r) W) from λW hw => hr ▸ without_any k m d t a l.length cp l q.name W (hE.below hw) (Nat.le_trans hR.len (by decide)) ((Right.smallS hR).at rfl) (Nat.le_trans (Right.smallS hR).d5 (by decide)) (Nat.le_trans (Right.smallS hR).t5 (by decide)))
 rw [hr]
 have HBc := hid (λW (hw : Below w.heap.size w W) => cell_obj ((hw.block _ (lt_of_obj hb)).trans hb) 6)
 have HB := hid (show Bxs w [(w.heap.size, #[.int .i64 k, .int .i64 m, .string d, .string t, .slice a l.length cp], 67), (w.heap.size + 1, zcs, 67)] ((w.alloc (.cells #[.int .i64 k, .int .i64 m, .string d, .string t, .slice a l.length cp] 67)).alloc (.cells zcs 67)) from Bxs.two w _ _ _ _)
 have hc := HBc.out _ HB.out.below
 clear hr hb hE hR
 go_enter func65, ntmps65
 go_wp2_with fail
 clear hc
 generalize (w.alloc (.cells #[.int .i64 k, .int .i64 m, .string d, .string t, .slice a l.length cp] 67)).alloc (.cells #[.int .i64 0, .int .i64 0, .string ⟨#[]⟩, .string ⟨#[]⟩, .slice none 0 0] 67) = W0 at HB |-
 refine (HQ.out W0 HB.out.below).mono ?_
 rintro e w1 ⟨a2, c2, rfl, hE2, hb2⟩
 have HB := hid (HB.out.kept hb2)
 have HE := hid hE2
 clear hE2 hb2
 dsimp only
 go_wp2_with (first | (refine store_bx HB.out 1 rfl 67 _ _ rfl rfl #[.int .i64 k2, .int .i64 m2, .string d2, .string t2, .slice a2 l2.length c2] rfl rfl (by kernel_rfl) rfl rfl (by decide) (by decide) ?_; intro w9 hS hK9 hbS hsS; have HBS := hid hS; have HEn := hid (hK9.ents (HB.out.obj 1 rfl) (noEnt43 _ _ _ _ _ _ _) HE.out); clear hS hK9 hbS hsS) | fail)
 refine bodyPost_ret_by (results_nd rfl _ _ (w.heap.size + 1) _ _ _ _ _ rfl (HBS.out.obj 1 rfl)) rfl ?_
 exact ⟨a2, c2, rfl, HEn.out, HBS.out.below⟩
theorem withMode_any (n : Int) (k m : Int) (d t : ByteArray) (l : List En) (hR : Nd.Right less Nm.right ⟨k, m, d, t, l⟩) (a : Option Addr) (cp : Nat) (w : World) (hE : Ents a l.length l w) :
  Calls prog 68 #[nv k m d t a l.length cp, .int .i64 n] w (Noded (Fs.modeR env n ⟨k, m, d, t, l⟩) w) := by
 have HQ := hid (λW (hw : Below w.heap.size w W) => q_node (k := k) (m := n) (c := cp) W (hE.below hw) (Right.smallS hR) rfl)
 have HB := hid (show Bxs w [(w.heap.size, #[.int .i64 k, .int .i64 n, .string d, .string t, .slice a l.length cp], 67), (w.heap.size + 1, zcs, 67)] ((w.alloc (.cells #[.int .i64 k, .int .i64 n, .string d, .string t, .slice a l.length cp] 67)).alloc (.cells zcs 67)) from Bxs.two w _ _ _ _)
 have HE := hid (λW (hw : Below w.heap.size w W) => hE.below hw)
 clear hE hR
 unfold Fs.modeR
 show Calls prog 68 _ w (Noded (if ndr k n d t l = true then (⟨k, n, d, t, l⟩, 0) else (Nd.none0, 1)) w)
 cases hnd : ndr k n d t l with
 | true =>
  rw [hnd] at HQ
  rw [if_pos rfl]
  clear hnd
  go_enter func68, ntmps68
  go_wp2_with fail
  generalize (w.alloc (.cells #[.int .i64 k, .int .i64 n, .string d, .string t, .slice a l.length cp] 67)).alloc (.cells #[.int .i64 0, .int .i64 0, .string ⟨#[]⟩, .string ⟨#[]⟩, .slice none 0 0] 67) = W0 at HB |-
  refine (HQ.out W0 HB.out.below).mono ?_
  rintro e w1 ⟨rfl, hb⟩
  have HB := hid (HB.out.kept hb)
  clear hb
  have hx := HB.out.c5 0 rfl
  have HEn := hid (HE.out _ HB.out.below)
  dsimp only
  go_wp2_with (first | (refine store_bx HB.out 1 rfl 67 _ _ rfl rfl #[.int .i64 k, .int .i64 n, .string d, .string t, .slice a l.length cp] rfl rfl (by kernel_rfl) rfl rfl (by decide) (by decide) ?_; intro w9 hS hK9 hbS hsS; have HBS := hid hS; have HEn := hid (hK9.ents (HB.out.obj 1 rfl) (noEnt43 _ _ _ _ _ _ _) HEn.out); clear hS hK9 hbS hsS) | fail)
  refine bodyPost_ret_by (results_nd rfl _ _ (w.heap.size + 1) _ _ _ _ _ rfl (HBS.out.obj 1 rfl)) rfl ?_
  exact ⟨a, cp, rfl, HEn.out, HBS.out.below⟩
 | false =>
  rw [hnd] at HQ
  rw [if_neg (by simp)]
  clear hnd
  go_enter func68, ntmps68
  go_wp2_with fail
  generalize (w.alloc (.cells #[.int .i64 k, .int .i64 n, .string d, .string t, .slice a l.length cp] 67)).alloc (.cells #[.int .i64 0, .int .i64 0, .string ⟨#[]⟩, .string ⟨#[]⟩, .slice none 0 0] 67) = W0 at HB |-
  refine (HQ.out W0 HB.out.below).mono ?_
  rintro e w1 ⟨rfl, hb⟩
  have HB := hid (HB.out.kept hb)
  clear hb
  dsimp only
  go_wp2_with (first | (refine store_bx HB.out 1 rfl 67 _ _ rfl rfl #[.int .i64 0, .int .i64 0, .string ⟨#[]⟩, .string ⟨#[]⟩, .slice none 0 0] rfl rfl (by kernel_rfl) rfl rfl (by decide) (by decide) ?_; intro w9 hS hK9 hbS hsS; have HBS := hid hS; clear hS hK9 hbS hsS) | fail)
  refine bodyPost_ret_by (results_nd rfl _ _ (w.heap.size + 1) _ _ _ _ _ rfl (HBS.out.obj 1 rfl)) rfl ?_
  exact ⟨none, 0, rfl, ents_nil _, HBS.out.below⟩
theorem cMode_any (b : Nat) (q : Fs.Cmd) (k m : Int) (d t : ByteArray) (l : List En) (hR : Nd.Right less Nm.right ⟨k, m, d, t, l⟩) (a : Option Addr) (cp : Nat) (w : World) (hb : w.heap[b]? = some (.cells (ccs q) 23 (0, 0))) (hE : Ents a l.length l w) :
  Calls prog 67 #[nv k m d t a l.length cp, .pointer (some ⟨b, 0, none⟩)] w (Noded (Fs.modeR env q.n ⟨k, m, d, t, l⟩) w) := by
 obtain ⟨⟨k2, m2, d2, t2, l2⟩, r, hr⟩ : ∃ x2 r, Fs.modeR env q.n ⟨k, m, d, t, l⟩ = (x2, r) := ⟨_, _, rfl⟩
 have HQ := hid (show ∀ W, Below w.heap.size w W -> Calls prog 68 #[nv k m d t a l.length cp, .int .i64 q.n] W (Noded (⟨k2, m2, d2, t2, l2⟩, r) W) from λW hw => hr ▸ withMode_any q.n k m d t l hR a cp W (hE.below hw))
 rw [hr]
 have HBc := hid (λW (hw : Below w.heap.size w W) => cell_obj ((hw.block _ (lt_of_obj hb)).trans hb) 5)
 have HB := hid (show Bxs w [(w.heap.size, #[.int .i64 k, .int .i64 m, .string d, .string t, .slice a l.length cp], 67), (w.heap.size + 1, zcs, 67)] ((w.alloc (.cells #[.int .i64 k, .int .i64 m, .string d, .string t, .slice a l.length cp] 67)).alloc (.cells zcs 67)) from Bxs.two w _ _ _ _)
 have hc := HBc.out _ HB.out.below
 clear hr hb hE hR
 go_enter func67, ntmps67
 go_wp2_with fail
 clear hc
 generalize (w.alloc (.cells #[.int .i64 k, .int .i64 m, .string d, .string t, .slice a l.length cp] 67)).alloc (.cells #[.int .i64 0, .int .i64 0, .string ⟨#[]⟩, .string ⟨#[]⟩, .slice none 0 0] 67) = W0 at HB |-
 refine (HQ.out W0 HB.out.below).mono ?_
 rintro e w1 ⟨a2, c2, rfl, hE2, hb2⟩
 have HB := hid (HB.out.kept hb2)
 have HE := hid hE2
 clear hE2 hb2
 dsimp only
 go_wp2_with (first | (refine store_bx HB.out 1 rfl 67 _ _ rfl rfl #[.int .i64 k2, .int .i64 m2, .string d2, .string t2, .slice a2 l2.length c2] rfl rfl (by kernel_rfl) rfl rfl (by decide) (by decide) ?_; intro w9 hS hK9 hbS hsS; have HBS := hid hS; have HEn := hid (hK9.ents (HB.out.obj 1 rfl) (noEnt43 _ _ _ _ _ _ _) HE.out); clear hS hK9 hbS hsS) | fail)
 refine bodyPost_ret_by (results_nd rfl _ _ (w.heap.size + 1) _ _ _ _ _ rfl (HBS.out.obj 1 rfl)) rfl ?_
 exact ⟨a2, c2, rfl, HEn.out, HBS.out.below⟩
theorem cEnter_any (b : Nat) (q : Fs.Cmd) (hq : CmdOk q) (k m : Int) (d t : ByteArray) (l : List En) (hR : Nd.Right less Nm.right ⟨k, m, d, t, l⟩) (a : Option Addr) (cp : Nat) (w : World) (hb : w.heap[b]? = some (.cells (ccs q) 23 (0, 0))) (hE : Ents a l.length l w) :
  Calls prog 103 #[nv k m d t a l.length cp, .pointer (some ⟨b, 0, none⟩)] w (Noded (Nd.withE less Nm.right ⟨k, m, d, t, l⟩ q.name q.ino) w) := by
 obtain ⟨⟨k2, m2, d2, t2, l2⟩, r, hr⟩ : ∃ x2 r, Nd.withE less Nm.right ⟨k, m, d, t, l⟩ q.name q.ino = (x2, r) := ⟨_, _, rfl⟩
 have HQ := hid (show ∀ W, Below w.heap.size w W -> Calls prog 104 #[nv k m d t a l.length cp, .string q.name, .int .i64 q.ino] W (Noded (⟨k2, m2, d2, t2, l2⟩, r) W) from λW hw => hr ▸ with_wide k m d t a l.length cp l q.name q.ino W (hE.below hw) (Nat.le_trans hR.len (by decide)) ((Right.smallS hR).at rfl) (Nat.le_trans (Right.smallS hR).d5 (by decide)) (Nat.le_trans (Right.smallS hR).t5 (by decide)) hq.name)
 rw [hr]
 have HBo := hid (λW (hw : Below w.heap.size w W) => (hw.block _ (lt_of_obj hb)).trans hb)
 have HB := hid (show Bxs w [(w.heap.size, #[.int .i64 k, .int .i64 m, .string d, .string t, .slice a l.length cp], 67), (w.heap.size + 1, zcs, 67)] ((w.alloc (.cells #[.int .i64 k, .int .i64 m, .string d, .string t, .slice a l.length cp] 67)).alloc (.cells zcs 67)) from Bxs.two w _ _ _ _)
 have hc6 := cell_obj (HBo.out _ HB.out.below) 6
 have hc1 := cell_obj (HBo.out _ HB.out.below) 1
 clear hr hb hE hR
 go_enter func103, ntmps103
 go_wp2_with fail
 clear hc6 hc1
 generalize (w.alloc (.cells #[.int .i64 k, .int .i64 m, .string d, .string t, .slice a l.length cp] 67)).alloc (.cells #[.int .i64 0, .int .i64 0, .string ⟨#[]⟩, .string ⟨#[]⟩, .slice none 0 0] 67) = W0 at HB |-
 refine (HQ.out W0 HB.out.below).mono ?_
 rintro e w1 ⟨a2, c2, rfl, hE2, hb2⟩
 have HB := hid (HB.out.kept hb2)
 have HE := hid hE2
 clear hE2 hb2
 dsimp only
 go_wp2_with (first | (refine store_bx HB.out 1 rfl 67 _ _ rfl rfl #[.int .i64 k2, .int .i64 m2, .string d2, .string t2, .slice a2 l2.length c2] rfl rfl (by kernel_rfl) rfl rfl (by decide) (by decide) ?_; intro w9 hS hK9 hbS hsS; have HBS := hid hS; have HEn := hid (hK9.ents (HB.out.obj 1 rfl) (noEnt43 _ _ _ _ _ _ _) HE.out); clear hS hK9 hbS hsS) | fail)
 refine bodyPost_ret_by (results_nd rfl _ _ (w.heap.size + 1) _ _ _ _ _ rfl (HBS.out.obj 1 rfl)) rfl ?_
 exact ⟨a2, c2, rfl, HEn.out, HBS.out.below⟩
theorem cTrunc_any (b : Nat) (q : Fs.Cmd) (s : ByteArray) (w : World) (hb : w.heap[b]? = some (.cells (ccs q) 23 (0, 0))) : Calls prog 70 #[.string s, .pointer (some ⟨b, 0, none⟩)] w λe w' => e = .returned (.tuple #[.string (env.trunc s q.n).1, .int .i64 (env.trunc s q.n).2]) /\ Below w.heap.size w w' := by
 have HP := hid (trunc_any s q.n w)
 have o5 : w.cell? ⟨b, 5, none⟩ = some (.int .i64 q.n) := cell_obj hb 5
 clear hb
 go_enter func70, ntmps70
 go_wp2_with fail
 refine HP.out.mono ?_
 rintro e w2 ⟨rfl, hb⟩
 dsimp only
 go_wp2_with fail
 go_ret2
 exact ⟨rfl, hb⟩
theorem cPut_any (b : Nat) (q : Fs.Cmd) (hq : CmdOk q) (s : ByteArray) (hs : s.size <= 4096) (w : World) (hb : w.heap[b]? = some (.cells (ccs q) 23 (0, 0))) : Calls prog 72 #[.string s, .pointer (some ⟨b, 0, none⟩)] w λe w' => e = .returned (.tuple #[.string (env.put s q.off q.data).1, .int .i64 (env.put s q.off q.data).2]) /\ Below w.heap.size w w' := by
 have HP := hid (put_any s q.off q.data w (Nat.le_trans hs (by decide)) hq.data hq.off)
 have o3 : w.cell? ⟨b, 3, none⟩ = some (.int .i64 q.off) := cell_obj hb 3
 have o7 : w.cell? ⟨b, 7, none⟩ = some (.string q.data) := cell_obj hb 7
 clear hb
 go_enter func72, ntmps72
 go_wp2_with fail
 refine HP.out.mono ?_
 rintro e w2 ⟨rfl, hb⟩
 dsimp only
 go_wp2_with fail
 go_ret2
 exact ⟨rfl, hb⟩
end Go.Proofs.YthbajmlmjjfgpaaGreatDoor
namespace Go.Proofs.YthbajmlmjjfgpaaGreatDoor
open Go.RowKit Go.Less
attribute [local go_sem 9000] sem_eql sem_neq
def sameC (x y : Fs.Cmd) : Bool := (x.kind == y.kind) && (x.ino == y.ino) && (x.src == y.src) && (x.off == y.off) && (x.from_ == y.from_) && (x.n == y.n) && alike x.name y.name && alike x.data y.data
theorem sameC_iff {x y : Fs.Cmd} : sameC x y = true ↔ x = y := by
 obtain ⟨a, b, c, d, e, f, g, h⟩ := x
 obtain ⟨a', b', c', d', e', f', g', h'⟩ := y
 unfold sameC
 simp [alike_eq, and_assoc]
def czf : List (Nat × Nat × Bool) := [(3, 0, true), (3, 1, true), (3, 2, true), (3, 3, true), (3, 4, true), (3, 5, true), (9, 6, true), (9, 7, true)]
theorem fields80 : (prog.fieldsOf 23).toList.map (λf => (f.type, f.offset, decide (f.name ≠ "_"))) = czf := by kernel_rfl
theorem fields84 : (prog.fieldsOf 30).toList.map (λf => (f.type, f.offset, decide (f.name ≠ "_"))) = czf := by kernel_rfl
theorem partC0 (W : World) (x : Fs.Cmd) : (part 3 (ccs x) 0).run prog W = .ok (.int .i64 x.kind) W := by
 simp [part, Tryz.isAgg3, Tryz.sizeOf3]
theorem partC1 (W : World) (x : Fs.Cmd) : (part 3 (ccs x) 1).run prog W = .ok (.int .i64 x.ino) W := by
 simp [part, Tryz.isAgg3, Tryz.sizeOf3]
theorem partC2 (W : World) (x : Fs.Cmd) : (part 3 (ccs x) 2).run prog W = .ok (.int .i64 x.src) W := by
 simp [part, Tryz.isAgg3, Tryz.sizeOf3]
theorem partC3 (W : World) (x : Fs.Cmd) : (part 3 (ccs x) 3).run prog W = .ok (.int .i64 x.off) W := by
 simp [part, Tryz.isAgg3, Tryz.sizeOf3]
theorem partC4 (W : World) (x : Fs.Cmd) : (part 3 (ccs x) 4).run prog W = .ok (.int .i64 x.from_) W := by
 simp [part, Tryz.isAgg3, Tryz.sizeOf3]
theorem partC5 (W : World) (x : Fs.Cmd) : (part 3 (ccs x) 5).run prog W = .ok (.int .i64 x.n) W := by
 simp [part, Tryz.isAgg3, Tryz.sizeOf3]
theorem partC6 (W : World) (x : Fs.Cmd) : (part 9 (ccs x) 6).run prog W = .ok (.string x.name) W := by
 simp [part, Tryz.isAgg9, Tryz.sizeOf9]
theorem partC7 (W : World) (x : Fs.Cmd) : (part 9 (ccs x) 7).run prog W = .ok (.string x.data) W := by
 simp [part, Tryz.isAgg9, Tryz.sizeOf9]
theorem eq_fieldsC (W : World) (fs : List Field) (h : fs.map (λf => (f.type, f.offset, decide (f.name ≠ "_"))) = czf) (x y : Fs.Cmd) : (Op.eqFields 9999 (ccs x) (ccs y) fs).run prog W = .ok (sameC x y) W := by
 unfold czf at h
 obtain ⟨f0, fs, rfl, h0, h⟩ := List.map_eq_cons_iff.1 h
 obtain ⟨f1, fs, rfl, h1, h⟩ := List.map_eq_cons_iff.1 h
 obtain ⟨f2, fs, rfl, h2, h⟩ := List.map_eq_cons_iff.1 h
 obtain ⟨f3, fs, rfl, h3, h⟩ := List.map_eq_cons_iff.1 h
 obtain ⟨f4, fs, rfl, h4, h⟩ := List.map_eq_cons_iff.1 h
 obtain ⟨f5, fs, rfl, h5, h⟩ := List.map_eq_cons_iff.1 h
 obtain ⟨f6, fs, rfl, h6, h⟩ := List.map_eq_cons_iff.1 h
 obtain ⟨f7, fs, rfl, h7, h⟩ := List.map_eq_cons_iff.1 h
 obtain rfl := List.map_eq_nil_iff.1 h
 simp only [Prod.mk.injEq, decide_eq_true_eq] at h0 h1 h2 h3 h4 h5 h6 h7
 obtain ⟨t0, o0, n0⟩ := h0
 obtain ⟨t1, o1, n1⟩ := h1
 obtain ⟨t2, o2, n2⟩ := h2
 obtain ⟨t3, o3, n3⟩ := h3
 obtain ⟨t4, o4, n4⟩ := h4
 obtain ⟨t5, o5, n5⟩ := h5
 obtain ⟨t6, o6, n6⟩ := h6
 obtain ⟨t7, o7, n7⟩ := h7
 rw [fld _ _ _ _ _ n0 W (by rw [t0, o0]; exact partC0 W x) (by rw [t0, o0]; exact partC0 W y) (by rw [t0]; exact run_equalIn_int W 9998 3 .i64 .i64 _ _ underlying3)]
 rw [fld _ _ _ _ _ n1 W (by rw [t1, o1]; exact partC1 W x) (by rw [t1, o1]; exact partC1 W y) (by rw [t1]; exact run_equalIn_int W 9998 3 .i64 .i64 _ _ underlying3)]
 rw [fld _ _ _ _ _ n2 W (by rw [t2, o2]; exact partC2 W x) (by rw [t2, o2]; exact partC2 W y) (by rw [t2]; exact run_equalIn_int W 9998 3 .i64 .i64 _ _ underlying3)]
 rw [fld _ _ _ _ _ n3 W (by rw [t3, o3]; exact partC3 W x) (by rw [t3, o3]; exact partC3 W y) (by rw [t3]; exact run_equalIn_int W 9998 3 .i64 .i64 _ _ underlying3)]
 rw [fld _ _ _ _ _ n4 W (by rw [t4, o4]; exact partC4 W x) (by rw [t4, o4]; exact partC4 W y) (by rw [t4]; exact run_equalIn_int W 9998 3 .i64 .i64 _ _ underlying3)]
 rw [fld _ _ _ _ _ n5 W (by rw [t5, o5]; exact partC5 W x) (by rw [t5, o5]; exact partC5 W y) (by rw [t5]; exact run_equalIn_int W 9998 3 .i64 .i64 _ _ underlying3)]
 rw [fld _ _ _ _ _ n6 W (by rw [t6, o6]; exact partC6 W x) (by rw [t6, o6]; exact partC6 W y) (by rw [t6]; exact run_equalIn_string W 9998 9 _ _ underlying9), alike_is]
 rw [fld _ _ _ _ _ n7 W (by rw [t7, o7]; exact partC7 W x) (by rw [t7, o7]; exact partC7 W y) (by rw [t7]; exact run_equalIn_string W 9998 9 _ _ underlying9), alike_is]
 unfold sameC
 cases (x.kind == y.kind) <;> cases (x.ino == y.ino) <;> cases (x.src == y.src) <;> cases (x.off == y.off) <;> cases (x.from_ == y.from_) <;> cases (x.n == y.n) <;> cases alike x.name y.name <;> cases alike x.data y.data <;> simp [Op.eqFields]
theorem eq80 (W : World) (x y : Fs.Cmd) : (Op.equalIn 10000 23 (.agg (ccs x)) (.agg (ccs y))).run prog W = .ok (sameC x y) W := by
 rw [show (10000 : Nat) = 9999 + 1 from rfl, run_equalIn_struct W 9999 23 _ _ (by kernel_rfl) (by kernel_rfl)]
 exact eq_fieldsC W _ fields80 x y
theorem eq84 (W : World) (x y : Fs.Cmd) : (Op.equalIn 10000 30 (.agg (ccs x)) (.agg (ccs y))).run prog W = .ok (sameC x y) W := by
 rw [show (10000 : Nat) = 9999 + 1 from rfl, run_equalIn_struct W 9999 30 _ _ (by kernel_rfl) (by kernel_rfl)]
 exact eq_fieldsC W _ fields84 x y
theorem eql_cmd80 (W : World) (a1 b1 c1 d1 e1 f1 : Int) (g1 h1 : ByteArray) (a2 b2 c2 d2 e2 f2 : Int) (g2 h2 : ByteArray) : (binOp .eql 23 (.agg #[.int .i64 a1, .int .i64 b1, .int .i64 c1, .int .i64 d1, .int .i64 e1, .int .i64 f1, .string g1, .string h1]) (.agg #[.int .i64 a2, .int .i64 b2, .int .i64 c2, .int .i64 d2, .int .i64 e2, .int .i64 f2, .string g2, .string h2])).run prog W = .ok (.bool (sameC ⟨a1, b1, c1, d1, e1, f1, g1, h1⟩ ⟨a2, b2, c2, d2, e2, f2, g2, h2⟩)) W := by
 rw [run_eql_struct, eq80 W ⟨a1, b1, c1, d1, e1, f1, g1, h1⟩ ⟨a2, b2, c2, d2, e2, f2, g2, h2⟩]; rfl
theorem eql_cmd84 (W : World) (a1 b1 c1 d1 e1 f1 : Int) (g1 h1 : ByteArray) (a2 b2 c2 d2 e2 f2 : Int) (g2 h2 : ByteArray) : (binOp .eql 30 (.agg #[.int .i64 a1, .int .i64 b1, .int .i64 c1, .int .i64 d1, .int .i64 e1, .int .i64 f1, .string g1, .string h1]) (.agg #[.int .i64 a2, .int .i64 b2, .int .i64 c2, .int .i64 d2, .int .i64 e2, .int .i64 f2, .string g2, .string h2])).run prog W = .ok (.bool (sameC ⟨a1, b1, c1, d1, e1, f1, g1, h1⟩ ⟨a2, b2, c2, d2, e2, f2, g2, h2⟩)) W := by
 rw [run_eql_struct, eq84 W ⟨a1, b1, c1, d1, e1, f1, g1, h1⟩ ⟨a2, b2, c2, d2, e2, f2, g2, h2⟩]; rfl
theorem neq_cmd84 (W : World) (a1 b1 c1 d1 e1 f1 : Int) (g1 h1 : ByteArray) (a2 b2 c2 d2 e2 f2 : Int) (g2 h2 : ByteArray) : (binOp .neq 30 (.agg #[.int .i64 a1, .int .i64 b1, .int .i64 c1, .int .i64 d1, .int .i64 e1, .int .i64 f1, .string g1, .string h1]) (.agg #[.int .i64 a2, .int .i64 b2, .int .i64 c2, .int .i64 d2, .int .i64 e2, .int .i64 f2, .string g2, .string h2])).run prog W = .ok (.bool (!sameC ⟨a1, b1, c1, d1, e1, f1, g1, h1⟩ ⟨a2, b2, c2, d2, e2, f2, g2, h2⟩)) W := by
 rw [run_neq_struct, eq84 W ⟨a1, b1, c1, d1, e1, f1, g1, h1⟩ ⟨a2, b2, c2, d2, e2, f2, g2, h2⟩]; rfl
theorem namesName_any (k : Int) (w : World) : Calls prog 96 #[.int .i64 k] w λe w' => e = .returned (.bool (k == 4 || k == 5)) /\ w' = w := by
 by_cases h4 : k = 4
 ·subst h4
  go_enter func96, ntmps96
  go_wp2_with fail
  go_ret
  exact ⟨rfl, rfl⟩
 ·go_enter func96, ntmps96
  go_wp2_with fail
  go_ret
  exact ⟨rfl, rfl⟩
theorem namesData_any (k : Int) (w : World) : Calls prog 97 #[.int .i64 k] w λe w' => e = .returned (.bool (k == 3 || k == 8)) /\ w' = w := by
 by_cases h4 : k = 3
 ·subst h4
  go_enter func97, ntmps97
  go_wp2_with fail
  go_ret
  exact ⟨rfl, rfl⟩
 ·go_enter func97, ntmps97
  go_wp2_with fail
  go_ret
  exact ⟨rfl, rfl⟩
theorem size180 : (prog.info? 95).map (·.size) = some 5 := by kernel_rfl
theorem size80 : (prog.info? 23).map (·.size) = some 8 := by kernel_rfl
theorem results_nums {fn : Func} {p : Tmp} (h : fn.results = #[.cell p 95]) (tmps : Array Value) (w : World) (g : Nat) (a b c d e : Value)
  (hp : tmps.getD p undef = .pointer (some ⟨g, 0, none⟩)) (hg : w.heap[g]? = some (.cells #[a, b, c, d, e] 95 (0, 0))) :
  (results fn tmps).run prog w = .ok (.agg #[a, b, c, d, e]) w :=
 results_cell_row (P := prog) h _ _ g 95 #[a, b, c, d, e] (0, 0) _ hp hg underlying95 rfl size180
theorem results_cmd {fn : Func} {p : Tmp} (h : fn.results = #[.cell p 23]) (tmps : Array Value) (w : World) (g : Nat) (a b c d e f x y : Value)
  (hp : tmps.getD p undef = .pointer (some ⟨g, 0, none⟩)) (hg : w.heap[g]? = some (.cells #[a, b, c, d, e, f, x, y] 23 (0, 0))) :
  (results fn tmps).run prog w = .ok (.agg #[a, b, c, d, e, f, x, y]) w :=
 results_cell_row (P := prog) h _ _ g 23 #[a, b, c, d, e, f, x, y] (0, 0) _ hp hg underlying23 rfl size80
theorem results_cmd2 {fn : Func} {p u : Tmp} (h : fn.results = #[.cell p 23, .tmp u]) (tmps : Array Value) (w : World) (g : Nat) (a b c d e f x y : Value)
  (hp : tmps.getD p undef = .pointer (some ⟨g, 0, none⟩)) (hg : w.heap[g]? = some (.cells #[a, b, c, d, e, f, x, y] 23 (0, 0))) :
  (results fn tmps).run prog w = .ok (.tuple #[.agg #[a, b, c, d, e, f, x, y], tmps.getD u undef]) w := by
 rw [results_cell_tmp h, hp]
 simp [asAddr, Result.andThen, run_loadVar_row (P := prog) w g 23 23 #[a, b, c, d, e, f, x, y] (0, 0) _ hg underlying23 rfl size80]
abbrev zns : Array Value := #[.int .i64 0, .int .i64 0, .int .i64 0, .int .i64 0, .int .i64 0]
abbrev zcc : Array Value := #[.int .i64 0, .int .i64 0, .int .i64 0, .int .i64 0, .int .i64 0, .int .i64 0, .string ⟨#[]⟩, .string ⟨#[]⟩]
abbrev nms (a b c d e : Int) : Array Value := #[.int .i64 a, .int .i64 b, .int .i64 c, .int .i64 d, .int .i64 e]
section
variable {w : World} {L : List Bo} {W : World}
theorem Bxs.c8 (h : Bxs w L W) (i : Nat) {p : Nat} {a b c d e f g x : Value} {t : TypeId} (hi : L[i]? = some (p, #[a, b, c, d, e, f, g, x], t)) : W.cell? ⟨p, 0, none⟩ = some a /\ W.cell? ⟨p, 1, none⟩ = some b /\ W.cell? ⟨p, 2, none⟩ = some c /\ W.cell? ⟨p, 3, none⟩ = some d /\ W.cell? ⟨p, 4, none⟩ = some e /\ W.cell? ⟨p, 5, none⟩ = some f /\ W.cell? ⟨p, 6, none⟩ = some g /\ W.cell? ⟨p, 7, none⟩ = some x :=
 ⟨h.cell i hi 0, h.cell i hi 1, h.cell i hi 2, h.cell i hi 3, h.cell i hi 4, h.cell i hi 5, h.cell i hi 6, h.cell i hi 7⟩
end
theorem numbersOf_any (q : Fs.Cmd) (w : World) : Calls prog 40 #[.agg (ccs q)] w λe w' => e = .returned (.agg (nms q.ino q.src q.off q.from_ q.n)) /\ Below w.heap.size w w' := by
 have HB := hid (show Bxs w [(w.heap.size, ccs q, 23), (w.heap.size + 1, zns, 95)] ((w.alloc (.cells (ccs q) 23)).alloc (.cells zns 95)) from Bxs.two w _ _ _ _)
 go_enter func40, ntmps40
 go_wp2_with (first | (refine store_bx HB.out 1 rfl 95 _ _ rfl rfl #[.int .i64 q.ino, .int .i64 q.src, .int .i64 q.off, .int .i64 q.from_, .int .i64 q.n] rfl rfl (by kernel_rfl) rfl rfl (by decide) (by decide) ?_; intro w9 hS hK9 hbS hsS; have HBS := hid hS; clear hS hK9 hbS hsS) | fail)
 refine bodyPost_ret_by (results_nums rfl _ _ (w.heap.size + 1) _ _ _ _ _ rfl (HBS.out.obj 1 rfl)) rfl ?_
 exact ⟨rfl, HBS.out.below⟩
theorem ofNumbers_any (k a b c d e : Int) (w : World) : Calls prog 94 #[.int .i64 k, .agg (nms a b c d e)] w λr w' => r = .returned (.agg (ccs ⟨k, a, b, c, d, e, ⟨#[]⟩, ⟨#[]⟩⟩)) /\ Below w.heap.size w w' := by
 have HB := hid (show Bxs w [(w.heap.size, nms a b c d e, 95), (w.heap.size + 1, zcc, 23)] ((w.alloc (.cells (nms a b c d e) 95)).alloc (.cells zcc 23)) from Bxs.two w _ _ _ _)
 go_enter func94, ntmps94
 go_wp2_with (first | (refine store_bx HB.out 1 rfl 23 _ _ rfl rfl #[.int .i64 k, .int .i64 a, .int .i64 b, .int .i64 c, .int .i64 d, .int .i64 e, .string ⟨#[]⟩, .string ⟨#[]⟩] rfl rfl (by kernel_rfl) rfl rfl (by decide) (by decide) ?_; intro w9 hS hK9 hbS hsS; have HBS := hid hS; clear hS hK9 hbS hsS) | fail)
 refine bodyPost_ret_by (results_cmd rfl _ _ (w.heap.size + 1) _ _ _ _ _ _ _ _ rfl (HBS.out.obj 1 rfl)) rfl ?_
 exact ⟨rfl, HBS.out.below⟩
end Go.Proofs.YthbajmlmjjfgpaaGreatDoor
