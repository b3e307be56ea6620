/- Layer 11, a part of the proofs: no statement of its own. -/
import Derived.Test.YthehblmjloohiaaGreatDoorM20
import Derived.Test.YthehblmjloohiaaGreatDoorM21
namespace Go.Proofs.YthehblmjloohiaaGreatDoor
set_option maxRecDepth 100000
open Go.RowKit Go.Less
theorem sameN_self (k m : Int) (d t : ByteArray) (l : List En) : sameN k m d t l k m d t l = true := by
 unfold sameN; simp [alike_eq]
theorem ndr_right {k m : Int} {d t : ByteArray} {l : List En} : ndr k m d t l = true ↔ Nd.Right less Nm.right ⟨k, m, d, t, l⟩ := Nd.right_iff _
theorem parseR_right {s : List UInt8} {x : Nd.Node} (h : parseR s = (x, 0)) : Nd.Right less Nm.right x ∧ Nd.text x = s := by
 unfold parseR at h
 cases hp : Nd.parse less Nm.right s with
 | none => rw [hp] at h; injection h with _ h; cases h
 | some y =>
  rw [hp] at h
  injection h with h _
  subst h
  exact ⟨(Nd.text_parse hp).2, (Nd.text_parse hp).1⟩
section
variable {k m : Int} {d t : ByteArray} {a : Option Addr} {n c : Nat} {l : List En} {k' m' : Int} {d' t' : ByteArray} {a' : Option Addr} {n' c' : Nat} {l' : List En} {nm : ByteArray} {i : Int} {b : Bool} {r : Int}
theorem q_print (W : World) (hE : Ents a n l W) (S : Small d t n l) {u : ByteArray} (h : prt ⟨k, m, d, t, l⟩ = (u, r)) :
  Calls Tryz.prog 79 #[nv k m d t a n c] W fun e w' => e = .returned (.tuple #[.string u, .int .i64 r]) ∧ Below W.heap.size W w' := by
 have H := print_any k m d t a n c l W hE (Nat.le_trans S.n80 (by decide)) (S.at hE.count)
 unfold Printed at H; rw [h] at H; exact H
theorem q_with (W : World) (hE : Ents a n l W) (S : Small d t n l) (hm : nm.size ≤ 100000) (h : Nd.withE less Nm.right ⟨k, m, d, t, l⟩ nm i = (⟨k', m', d', t', l'⟩, r)) (hn : l'.length = n') :
  Calls Tryz.prog 158 #[nv k m d t a n c, .string nm, .int .i64 i] W fun e w' => ∃ a c, e = .returned (.tuple #[nv k' m' d' t' a n' c, .int .i64 r]) ∧ Ents a n' l' w' ∧ Below W.heap.size W w' := by
 have H := with_any k m d t a n c l nm i W hE (Nat.le_trans S.n80 (by decide)) (S.at hE.count) (Nat.le_trans S.d5 (by decide)) (Nat.le_trans S.t5 (by decide)) hm
 unfold Noded at H; rw [h] at H; subst hn; exact H
theorem q_wout (W : World) (hE : Ents a n l W) (S : Small d t n l) (h : Nd.withoutE ⟨k, m, d, t, l⟩ nm = (⟨k', m', d', t', l'⟩, r)) (hn : l'.length = n') :
  Calls Tryz.prog 159 #[nv k m d t a n c, .string nm] W fun e w' => ∃ a c, e = .returned (.tuple #[nv k' m' d' t' a n' c, .int .i64 r]) ∧ Ents a n' l' w' ∧ Below W.heap.size W w' := by
 have H := without_any k m d t a n c l nm W hE (Nat.le_trans S.n80 (by decide)) (S.at hE.count) (Nat.le_trans S.d5 (by decide)) (Nat.le_trans S.t5 (by decide))
 unfold Noded at H; rw [h] at H; subst hn; exact H
theorem q_node (W : World) (hE : Ents a n l W) (S : Small d t n l) (h : ndr k m d t l = b) :
  Calls Tryz.prog 117 #[nv k m d t a n c] W fun e w' => e = .returned (.bool b) ∧ Below W.heap.size W w' :=
 h ▸ node_any k m d t a n c l W hE (Nat.le_trans S.n80 (by decide)) (S.at hE.count)
theorem q_rsame (W : World) (hE : Ents a n l W) (hE' : Ents a' n' l' W) (hn : n ≤ 80) (hn' : n' ≤ 80) (h : sameN k m d t l k' m' d' t' l' = b) :
  Calls Tryz.prog 25 #[nv k m d t a n c, nv k' m' d' t' a' n' c'] W fun e w' => e = .returned (.bool b) ∧ Below W.heap.size W w' :=
 h ▸ refSame_any k m d t a n c l k' m' d' t' a' n' c' l' W hE hE' (Nat.le_trans hn (by decide)) (Nat.le_trans hn' (by decide))
end
end Go.Proofs.YthehblmjloohiaaGreatDoor

namespace Go.Proofs.YthehblmjloohiaaGreatDoor
set_option maxRecDepth 100000
open Go.RowKit Go.Less
open T8 (pv Dg)
attribute [local go_sem 9000] sem_eql sem_neq
def Plced (r : Except Int (Int × ByteArray)) (l : List Fs.Item) (w : World) (e : Ending) (w' : World) : Prop := Below w.heap.size w w' ∧ match r with
 | .error c => c ≠ 0 ∧ e = .returned (.tuple #[.agg #[.int .i64 0, .int .i64 0, .int .i64 0, .string ⟨#[]⟩, .string ⟨#[]⟩, .slice none 0 0, .string ⟨#[]⟩], .int .i64 c])
 | .ok (d, n) => ∃ a c, e = .returned (.tuple #[.agg #[.int .i64 d, .int .i64 (Fs.nodeD l d).kind, .int .i64 (Fs.nodeD l d).mode, .string (Fs.nodeD l d).data, .string (Fs.nodeD l d).target, .slice a (Fs.nodeD l d).ents.length c, .string n], .int .i64 0]) ∧ Ents a (Fs.nodeD l d).ents.length (Fs.nodeD l d).ents w'
theorem find_cases2 (l : List Fs.Item) (p : ByteArray) : (∃ e, e ≠ 0 ∧ findR l p = (0, Nd.none0, e)) ∨ ∃ ns i, spl p = some ns ∧ Fs.walk l 1 ns = .ok i ∧ findR l p = (i, Fs.nodeD l i, 0) := by
 cases hs : spl p with
 | none => exact .inl ⟨14, by decide, by unfold findR; rw [hs]⟩
 | some ns =>
  have e1 : findR l p = match Fs.walk l 1 ns with
   | .error e => (0, Nd.none0, e)
   | .ok i => (i, Fs.nodeD l i, 0) := by unfold findR; rw [hs]; rfl
  rcases walk_code l ns 1 with ⟨i, hw⟩ | hw | hw
  ·exact .inr ⟨ns, i, rfl, hw, by rw [e1, hw]⟩
  ·exact .inl ⟨10, by decide, by rw [e1, hw]⟩
  ·exact .inl ⟨4, by decide, by rw [e1, hw]⟩
set_option maxHeartbeats 8000000 in
theorem pFile_any (m : Option Nat) (nx : Int) (l : List Fs.Item) (p : ByteArray) (w : World) (h : Sv w m l) (hp : p.size ≤ 140737488355328) (hkd : ∀ i x, findR l p = (i, x, 0) → x.kind = 1 ∨ x.kind = 2 ∨ x.kind = 3) : Calls Tryz.prog 60 #[stv m nx, .string p] w (Foundy (fileR l p) w) := by
 have HF := Lib.hid (fun W (hb : Below w.heap.size w W) => pFind_any m nx l p W (h.below hb) hp)
 clear h
 rcases find_cases2 l p with ⟨ec, hne, hf⟩ | ⟨ns, i, hsp, hw, hf⟩
 ·have HR := Lib.hid (show fileR l p = (0, Nd.none0, ec) by unfold fileR; rw [hf, if_pos hne])
  rw [hf] at HF
  clear hf hkd
  have HB := Lib.hid (show Bxs w [(w.heap.size, #[pv m, .int .i64 nx], 88), (w.heap.size + 1, #[.int .i64 0, .int .i64 0, .string ⟨#[]⟩, .string ⟨#[]⟩, .slice none 0 0], 43)] ((w.alloc (.cells #[pv m, .int .i64 nx] 88)).alloc (.cells #[.int .i64 0, .int .i64 0, .string ⟨#[]⟩, .string ⟨#[]⟩, .slice none 0 0] 43)) from Bxs.two w _ _ _ _)
  go_enter Tryz.func60, Tryz.ntmps60
  go_wp2_with fail
  generalize (w.alloc (.cells #[pv m, .int .i64 nx] 88)).alloc (.cells #[.int .i64 0, .int .i64 0, .string ⟨#[]⟩, .string ⟨#[]⟩, .slice none 0 0] 43) = W0 at HB ⊢
  have b0 := HB.out.c2 0 rfl
  have b1 := HB.out.c5 1 rfl
  go_wp2_with fail
  refine (HF.out W0 HB.out.below).mono ?_
  rintro e w1 ⟨ea, eb, rfl, hE, hb⟩
  have hbk := hb
  clear hE
  have HB := Lib.hid (HB.out.kept hbk)
  clear b0 b1
  clear hbk
  have HBp := HB
  have HB := Lib.hid (HB.out.more #[.int .i64 0, .int .i64 0, .string ⟨#[]⟩, .string ⟨#[]⟩, .slice ea 0 eb] 43 rfl)
  have b0 := HB.out.c2 0 rfl
  have b1 := HB.out.c5 1 rfl
  dsimp only
  go_wp2_with (first | (refine store_bx HB.out 1 rfl 43 _ _ rfl rfl #[.int .i64 0, .int .i64 0, .string ⟨#[]⟩, .string ⟨#[]⟩, .slice none 0 0] rfl rfl (by kernel_rfl) rfl rfl (by decide) (by decide) ?_; intro w2 hS hK hbS hsS; have HBS := Lib.hid hS; clear hS hK hbS hsS; have HB := HBS; clear HBS; clear b0 b1; have b0 := HB.out.c2 0 rfl; have b1 := HB.out.c5 1 rfl; have b2 := HB.out.c5 2 rfl) | fail)
  refine bodyPost_ret_by (results_mid rfl _ _ (w.heap.size + 1) _ _ _ _ _ rfl (HB.out.obj 1 rfl)) rfl ?_
  exact foundy_err ec HB.out.below HR.out
 ·have hkd := hkd i (Fs.nodeD l i) hf
  clear hsp hw
  generalize Fs.nodeD l i = x at *
  obtain ⟨k, mo, d, t, es⟩ := x
  have HFx := HF.out
  rw [hf] at HFx
  dsimp only at hkd
  have HF := Lib.hid hf
  have HFo := Lib.hid (show ∀ W, Below w.heap.size w W → Calls Tryz.prog 57 #[stv m nx, .string p] W (Foundy (i, (⟨k, mo, d, t, es⟩ : Nd.Node), 0) W) from HFx)
  clear hf
  clear HFx
  rcases hkd with rfl | rfl | rfl
  ·have HR := Lib.hid (show fileR l p = (i, ⟨1, mo, d, t, es⟩, 0) by unfold fileR; rw [HF.out]; rfl)
   have HB := Lib.hid (show Bxs w [(w.heap.size, #[pv m, .int .i64 nx], 88), (w.heap.size + 1, #[.int .i64 0, .int .i64 0, .string ⟨#[]⟩, .string ⟨#[]⟩, .slice none 0 0], 43)] ((w.alloc (.cells #[pv m, .int .i64 nx] 88)).alloc (.cells #[.int .i64 0, .int .i64 0, .string ⟨#[]⟩, .string ⟨#[]⟩, .slice none 0 0] 43)) from Bxs.two w _ _ _ _)
   go_enter Tryz.func60, Tryz.ntmps60
   go_wp2_with fail
   generalize (w.alloc (.cells #[pv m, .int .i64 nx] 88)).alloc (.cells #[.int .i64 0, .int .i64 0, .string ⟨#[]⟩, .string ⟨#[]⟩, .slice none 0 0] 43) = W0 at HB ⊢
   have b0 := HB.out.c2 0 rfl
   have b1 := HB.out.c5 1 rfl
   go_wp2_with fail
   refine (HFo.out W0 HB.out.below).mono ?_
   rintro e w1 ⟨a, c, rfl, hE, hb⟩
   have hbk := hb
   have HEn := Lib.hid (hE.below (below_one w1 (.cells #[.int .i64 1, .int .i64 mo, .string d, .string t, .slice a es.length c] 43)))
   clear hE
   have HB := Lib.hid (HB.out.kept hbk)
   clear b0 b1
   clear hbk
   have HBp := HB
   have HB := Lib.hid (HB.out.more #[.int .i64 1, .int .i64 mo, .string d, .string t, .slice a es.length c] 43 rfl)
   have b0 := HB.out.c2 0 rfl
   have b1 := HB.out.c5 1 rfl
   dsimp only
   have q1_0 : (w1.alloc (.cells #[.int .i64 1, .int .i64 mo, .string d, .string t, .slice a es.length c] 43)).frozen? ⟨w.heap.size + 1, 0, none⟩ = false := HB.out.free 1 rfl 0
   have q1_1 : (w1.alloc (.cells #[.int .i64 1, .int .i64 mo, .string d, .string t, .slice a es.length c] 43)).frozen? ⟨w.heap.size + 1, 1, none⟩ = false := HB.out.free 1 rfl 1
   have q1_2 : (w1.alloc (.cells #[.int .i64 1, .int .i64 mo, .string d, .string t, .slice a es.length c] 43)).frozen? ⟨w.heap.size + 1, 2, none⟩ = false := HB.out.free 1 rfl 2
   have q1_3 : (w1.alloc (.cells #[.int .i64 1, .int .i64 mo, .string d, .string t, .slice a es.length c] 43)).frozen? ⟨w.heap.size + 1, 3, none⟩ = false := HB.out.free 1 rfl 3
   have q1_4 : (w1.alloc (.cells #[.int .i64 1, .int .i64 mo, .string d, .string t, .slice a es.length c] 43)).frozen? ⟨w.heap.size + 1, 4, none⟩ = false := HB.out.free 1 rfl 4
   go_wp2_with fail
   generalize w1.alloc (.cells #[.int .i64 1, .int .i64 mo, .string d, .string t, .slice a es.length c] 43) = W3 at *
   generalize w1.heap.size = pX at *
   have x0 : W3.cell? ⟨pX, 0, none⟩ = some (.int .i64 1) := HB.out.cell 2 rfl 0
   have x1 : W3.cell? ⟨pX, 1, none⟩ = some (.int .i64 mo) := HB.out.cell 2 rfl 1
   have x2 : W3.cell? ⟨pX, 2, none⟩ = some (.string d) := HB.out.cell 2 rfl 2
   have x3 : W3.cell? ⟨pX, 3, none⟩ = some (.string t) := HB.out.cell 2 rfl 3
   have x4 : W3.cell? ⟨pX, 4, none⟩ = some (.slice a es.length c) := HB.out.cell 2 rfl 4
   go_region_law fail
   all_goals
    have HBf := Lib.hid (HB.out.put5 1 rfl (.int .i64 1) (.int .i64 mo) (.string d) (.string t) (.slice a es.length c))
    have HEf := Lib.hid (ents_keep HEn.out (HB.out.obj 1 rfl) (.int .i64 1) (.int .i64 mo) (.string d) (.string t) (.slice a es.length c))
    go_wp2_with fail
    refine bodyPost_ret_by (results_mid rfl _ _ (w.heap.size + 1) _ _ _ _ _ rfl (HBf.out.obj 1 rfl)) rfl ?_
    rw [HR.out]
    exact ⟨a, c, rfl, HEf.out.below (Below.refl _ _).drew, HBf.out.below.drew⟩
  ·have HR := Lib.hid (show fileR l p = (0, Nd.none0, 11) by unfold fileR; rw [HF.out]; rfl)
   have HB := Lib.hid (show Bxs w [(w.heap.size, #[pv m, .int .i64 nx], 88), (w.heap.size + 1, #[.int .i64 0, .int .i64 0, .string ⟨#[]⟩, .string ⟨#[]⟩, .slice none 0 0], 43)] ((w.alloc (.cells #[pv m, .int .i64 nx] 88)).alloc (.cells #[.int .i64 0, .int .i64 0, .string ⟨#[]⟩, .string ⟨#[]⟩, .slice none 0 0] 43)) from Bxs.two w _ _ _ _)
   go_enter Tryz.func60, Tryz.ntmps60
   go_wp2_with fail
   generalize (w.alloc (.cells #[pv m, .int .i64 nx] 88)).alloc (.cells #[.int .i64 0, .int .i64 0, .string ⟨#[]⟩, .string ⟨#[]⟩, .slice none 0 0] 43) = W0 at HB ⊢
   have b0 := HB.out.c2 0 rfl
   have b1 := HB.out.c5 1 rfl
   go_wp2_with fail
   refine (HFo.out W0 HB.out.below).mono ?_
   rintro e w1 ⟨a, c, rfl, hE, hb⟩
   have hbk := hb
   have HEn := Lib.hid (hE.below (below_one w1 (.cells #[.int .i64 2, .int .i64 mo, .string d, .string t, .slice a es.length c] 43)))
   clear hE
   have HB := Lib.hid (HB.out.kept hbk)
   clear b0 b1
   clear hbk
   have HBp := HB
   have HB := Lib.hid (HB.out.more #[.int .i64 2, .int .i64 mo, .string d, .string t, .slice a es.length c] 43 rfl)
   have b0 := HB.out.c2 0 rfl
   have b1 := HB.out.c5 1 rfl
   dsimp only
   go_wp2_with (first | (refine store_bx HB.out 1 rfl 43 _ _ rfl rfl #[.int .i64 0, .int .i64 0, .string ⟨#[]⟩, .string ⟨#[]⟩, .slice none 0 0] rfl rfl (by kernel_rfl) rfl rfl (by decide) (by decide) ?_; intro w2 hS hK hbS hsS; have HBS := Lib.hid hS; clear hS hK hbS hsS; have HB := HBS; clear HBS; clear b0 b1; have b0 := HB.out.c2 0 rfl; have b1 := HB.out.c5 1 rfl; have b2 := HB.out.c5 2 rfl) | fail)
   refine bodyPost_ret_by (results_mid rfl _ _ (w.heap.size + 1) _ _ _ _ _ rfl (HB.out.obj 1 rfl)) rfl ?_
   exact foundy_err 11 HB.out.below HR.out
  ·have HR := Lib.hid (show fileR l p = (0, Nd.none0, 16) by unfold fileR; rw [HF.out]; rfl)
   have HB := Lib.hid (show Bxs w [(w.heap.size, #[pv m, .int .i64 nx], 88), (w.heap.size + 1, #[.int .i64 0, .int .i64 0, .string ⟨#[]⟩, .string ⟨#[]⟩, .slice none 0 0], 43)] ((w.alloc (.cells #[pv m, .int .i64 nx] 88)).alloc (.cells #[.int .i64 0, .int .i64 0, .string ⟨#[]⟩, .string ⟨#[]⟩, .slice none 0 0] 43)) from Bxs.two w _ _ _ _)
   go_enter Tryz.func60, Tryz.ntmps60
   go_wp2_with fail
   generalize (w.alloc (.cells #[pv m, .int .i64 nx] 88)).alloc (.cells #[.int .i64 0, .int .i64 0, .string ⟨#[]⟩, .string ⟨#[]⟩, .slice none 0 0] 43) = W0 at HB ⊢
   have b0 := HB.out.c2 0 rfl
   have b1 := HB.out.c5 1 rfl
   go_wp2_with fail
   refine (HFo.out W0 HB.out.below).mono ?_
   rintro e w1 ⟨a, c, rfl, hE, hb⟩
   have hbk := hb
   have HEn := Lib.hid (hE.below (below_one w1 (.cells #[.int .i64 3, .int .i64 mo, .string d, .string t, .slice a es.length c] 43)))
   clear hE
   have HB := Lib.hid (HB.out.kept hbk)
   clear b0 b1
   clear hbk
   have HBp := HB
   have HB := Lib.hid (HB.out.more #[.int .i64 3, .int .i64 mo, .string d, .string t, .slice a es.length c] 43 rfl)
   have b0 := HB.out.c2 0 rfl
   have b1 := HB.out.c5 1 rfl
   dsimp only
   go_wp2_with (first | (refine store_bx HB.out 1 rfl 43 _ _ rfl rfl #[.int .i64 0, .int .i64 0, .string ⟨#[]⟩, .string ⟨#[]⟩, .slice none 0 0] rfl rfl (by kernel_rfl) rfl rfl (by decide) (by decide) ?_; intro w2 hS hK hbS hsS; have HBS := Lib.hid hS; clear hS hK hbS hsS; have HB := HBS; clear HBS; clear b0 b1; have b0 := HB.out.c2 0 rfl; have b1 := HB.out.c5 1 rfl; have b2 := HB.out.c5 2 rfl) | fail)
   refine bodyPost_ret_by (results_mid rfl _ _ (w.heap.size + 1) _ _ _ _ _ rfl (HB.out.obj 1 rfl)) rfl ?_
   exact foundy_err 16 HB.out.below HR.out
end Go.Proofs.YthehblmjloohiaaGreatDoor

namespace Fs
open Nd (En Node none0)
open Gr (go upd)
structure EnvOk (E : Env) : Prop where
 rising : Tr.Rising E.lt
 few : ∀ {p ns}, E.sp p = some ns → ns.length ≤ 8
 names : ∀ {p ns}, E.sp p = some ns → ∀ n ∈ ns, E.nm (Nd.bs n) = true
 put : ∀ s o d, s.size ≤ 4096 → (E.put s o d).2 = 0 → (E.put s o d).1.size ≤ 4096
 trunc : ∀ s n, (E.trunc s n).2 = 0 → (E.trunc s n).1.size ≤ 4096
 copy : ∀ s o t f n, s.size ≤ 4096 → (E.copy s o t f n).2 = 0 → (E.copy s o t f n).1.size ≤ 4096
structure Half (E : Env) (f : FS) : Prop where
 inos : Rising f.l
 pos : ∀ y ∈ f.l, 1 ≤ y.1 ∧ y.1 < f.next
 few : f.l.length ≤ 256
 top : isDir f.l 1
 right : ∀ {i x}, node f.l i = some x → Nd.Right E.lt E.nm x
 there : ∀ {i n c}, step f.l i n = some c → (node f.l c).isSome = true
 tree : Gr.Tree (step f.l) (isDir f.l) 1
structure Good (E : Env) (f : FS) : Prop extends Half E f where
 reach : ∀ {i x}, node f.l i = some x → ∃ ns, go (step f.l) 1 ns = some i
theorem step_iff {l : List Item} {i : Int} {n : ByteArray} {c : Int} : step l i n = some c ↔ ∃ x, node l i = some x ∧ Nd.find x.ents n = some c := by
 unfold step; rw [Option.bind_eq_some_iff]
theorem find_cut_other {l : List En} {k m : ByteArray} (h : m ≠ k) : Nd.find (Nd.cut l k) m = Nd.find l m := by
 induction l with
 | nil => rfl
 | cons x l ih =>
  unfold Nd.cut
  by_cases hx : x.1 = k
  ·rw [if_pos hx, Nd.find, if_neg (fun e => h (e.symm.trans hx))]
  ·rw [if_neg hx, Nd.find, Nd.find, ih]
theorem nodeD_kind {l : List Item} {i k : Int} (h : (nodeD l i).kind = k) (hk : k ≠ 0) : ∃ x, node l i = some x ∧ nodeD l i = x ∧ x.kind = k := by
 cases hn : node l i with
 | none => unfold nodeD at h; rw [hn] at h; exact absurd h.symm hk
 | some x => rw [nodeD_of hn] at h; exact ⟨x, rfl, nodeD_of hn, h⟩
theorem dir_iff {l : List Item} {i : Int} : isDir l i ↔ (nodeD l i).kind = 2 :=
 ⟨fun ⟨x, h, hk⟩ => by rw [nodeD_of h]; exact hk, fun h => by
  obtain ⟨x, h1, _, h2⟩ := nodeD_kind h (by decide)
  exact ⟨x, h1, h2⟩⟩
theorem step_set (l : List Item) (d : Int) (y : Node) : step (setL l d y) = fun i n => if i = d then Nd.find y.ents n else step l i n := by
 funext i n
 unfold step
 rw [node_set]
 split <;> rfl
theorem dir_set {l : List Item} {d i : Int} {y : Node} : isDir (setL l d y) i ↔ (i = d ∧ y.kind = 2) ∨ (i ≠ d ∧ isDir l i) := by
 unfold isDir
 rw [node_set]
 by_cases h : i = d
 ·rw [if_pos h]
  constructor
  ·rintro ⟨x, h1, h2⟩; injection h1 with h1; subst h1; exact .inl ⟨h, h2⟩
  ·rintro (⟨_, h2⟩ | ⟨h1, _⟩)
   ·exact ⟨y, rfl, h2⟩
   ·exact absurd h h1
 ·rw [if_neg h]
  constructor
  ·exact fun h1 => .inr ⟨h, h1⟩
  ·rintro (⟨h1, _⟩ | ⟨_, h2⟩)
   ·exact absurd h1 h
   ·exact h2
section
variable {E : Env} {f : FS}
theorem Half.step_dir (G : Half E f) {i : Int} {n : ByteArray} {c : Int} (h : step f.l i n = some c) : ∃ x, node f.l i = some x ∧ x.kind = 2 ∧ Nd.find x.ents n = some c := by
 obtain ⟨x, h1, h2⟩ := step_iff.1 h
 refine ⟨x, h1, ?_, h2⟩
 have hm := Nd.find_mem h2
 rcases (G.right h1).kinds with ⟨_, _, e, _⟩ | ⟨e, _⟩ | ⟨_, _, e, _⟩
 ·rw [e] at hm; cases hm
 ·exact e
 ·rw [e] at hm; cases hm
theorem Half.step_none (G : Half E f) {i : Int} (h : ¬ isDir f.l i) (n : ByteArray) : step f.l i n = none := by
 cases hs : step f.l i n with
 | none => rfl
 | some c =>
  obtain ⟨x, h1, h2, _⟩ := G.step_dir hs
  exact absurd ⟨x, h1, h2⟩ h
theorem Half.walk_iff (G : Half E f) {i j : Int} {ns : List ByteArray} : walk f.l i ns = .ok j ↔ go (step f.l) i ns = some j := by
 induction ns generalizing i with
 | nil => unfold walk go; constructor <;> (intro h; injection h with h; rw [h])
 | cons n ns ih =>
  rw [Gr.go_cons, walk]
  by_cases hk : (nodeD f.l i).kind = 2
  ·rw [if_neg (by simp [hk])]
   obtain ⟨x, h1, h2, h3⟩ := nodeD_kind hk (by decide)
   rw [h2]
   cases hf : Nd.find x.ents n with
   | none =>
    constructor
    ·intro h; cases h
    ·rintro ⟨c, hc, _⟩
     obtain ⟨y, h4, h5⟩ := step_iff.1 hc
     rw [h1] at h4; injection h4 with h4; subst h4; rw [hf] at h5; cases h5
   | some c =>
    constructor
    ·intro h; exact ⟨c, step_iff.2 ⟨x, h1, hf⟩, ih.1 h⟩
    ·rintro ⟨c', hc, hg⟩
     obtain ⟨y, h4, h5⟩ := step_iff.1 hc
     rw [h1] at h4; injection h4 with h4; subst h4; rw [hf] at h5; injection h5 with h5; subst h5
     exact ih.2 hg
  ·rw [if_pos hk]
   constructor
   ·intro h; cases h
   ·rintro ⟨c, hc, _⟩
    obtain ⟨x, h1, h2, _⟩ := G.step_dir hc
    rw [nodeD_of h1] at hk
    exact absurd h2 hk
theorem Half.go_node (G : Half E f) {i j : Int} {ns : List ByteArray} (hi : (node f.l i).isSome = true) (h : go (step f.l) i ns = some j) : (node f.l j).isSome = true := by
 induction ns generalizing i with
 | nil => injection h with h; rw [← h]; exact hi
 | cons n ns ih =>
  obtain ⟨c, h1, h2⟩ := Gr.go_cons.1 h
  exact ih (G.there h1) h2
theorem Half.top_some (G : Half E f) : (node f.l 1).isSome = true := by
 obtain ⟨x, h, _⟩ := G.top
 rw [h]; rfl
theorem Half.walk_node (G : Half E f) {j : Int} {ns : List ByteArray} (h : walk f.l 1 ns = .ok j) : ∃ x, node f.l j = some x ∧ nodeD f.l j = x := by
 have := G.go_node G.top_some (G.walk_iff.1 h)
 obtain ⟨x, hx⟩ := Option.isSome_iff_exists.1 this
 exact ⟨x, hx, nodeD_of hx⟩
theorem getLast_snoc (ps : List ByteArray) (n : ByteArray) : (ps ++ [n]).getLast? = some n := by simp
theorem place_snoc (l : List Item) (ps : List ByteArray) (n : ByteArray) : place l (ps ++ [n]) = match walk l 1 ps with
  | .error e => .error e
  | .ok d => if (nodeD l d).kind ≠ 2 then .error 10 else .ok (d, n) := by
 unfold place
 rw [getLast_snoc, List.dropLast_concat]
 rfl
theorem Half.place_iff (G : Half E f) {ns : List ByteArray} {d : Int} {n : ByteArray} : place f.l ns = .ok (d, n) ↔ ∃ ps, ns = ps ++ [n] ∧ go (step f.l) 1 ps = some d ∧ isDir f.l d := by
 rcases Gr.snoc_cases ns with rfl | ⟨ps, m, rfl⟩
 ·constructor
  ·intro h; cases h
  ·rintro ⟨ps, h, _⟩
   have := congrArg List.length h
   simp at this
 ·rw [place_snoc]
  constructor
  ·intro h
   cases hw : walk f.l 1 ps with
   | error e => rw [hw] at h; cases h
   | ok k =>
    rw [hw] at h
    simp only at h
    split at h
    ·cases h
    ·rename_i hk
     injection h with h
     injection h with h1 h2
     subst h1 h2
     exact ⟨ps, rfl, G.walk_iff.1 hw, dir_iff.2 (by simpa using hk)⟩
  ·rintro ⟨qs, h, hg, hd⟩
   have hps : ps = qs := by have := congrArg List.dropLast h; simpa using this
   have hmn : m = n := by have := congrArg List.getLast? h; simpa using this
   subst hps hmn
   rw [G.walk_iff.2 hg]
   simp only
   rw [if_neg (by have := dir_iff.1 hd; simp [this])]
theorem dir_find {l : List Item} {d : Int} (n : ByteArray) (hd : isDir l d) : Nd.find (nodeD l d).ents n = step l d n := by
 obtain ⟨x, h, _⟩ := hd
 unfold step
 rw [nodeD_of h, h]; rfl
theorem Half.fresh_iff (G : Half E f) {ns : List ByteArray} {d : Int} {n : ByteArray} : fresh f.l ns = .ok (d, n) ↔ ∃ ps, ns = ps ++ [n] ∧ go (step f.l) 1 ps = some d ∧ isDir f.l d ∧ step f.l d n = none := by
 unfold fresh
 cases hp : place f.l ns with
 | error e =>
  constructor
  ·intro h; cases h
  ·rintro ⟨ps, h1, h2, h3, _⟩
   rw [G.place_iff.2 ⟨ps, h1, h2, h3⟩] at hp; cases hp
 | ok r =>
  obtain ⟨d', n'⟩ := r
  obtain ⟨ps, h1, h2, h3⟩ := G.place_iff.1 hp
  simp only
  rw [dir_find n' h3]
  constructor
  ·intro h
   split at h
   ·cases h
   ·rename_i hs
    injection h with h
    injection h with e1 e2
    subst e1 e2
    exact ⟨ps, h1, h2, h3, by cases hq : step f.l d' n' with
     | none => rfl
     | some c => rw [hq] at hs; exact absurd rfl hs⟩
  ·rintro ⟨qs, h4, h5, h6, h7⟩
   have e := (G.place_iff.2 ⟨qs, h4, h5, h6⟩).symm.trans hp
   injection e with e
   injection e with e1 e2
   subst e1 e2
   rw [h7, if_neg (by simp)]
theorem enter_is {l : List Item} {d c : Int} {n : ByteArray} {x : Node} (h : node l d = some x) (hk : x.kind = 2) (hn : E.nm (Nd.bs n) = true) (hf : Nd.find x.ents n = none) (hl : x.ents.length < 64) : enter E l d n c = setL l d { x with ents := Nd.ins E.lt x.ents n c } := by
 unfold enter
 rw [nodeD_of h]
 unfold Nd.withE
 rw [if_neg (by simp [hk]), if_neg (by simp [hn]), if_neg (by simp [hf]), if_neg (by omega)]
theorem step_enter {l : List Item} {d c : Int} {n : ByteArray} {x : Node} (h : node l d = some x) (hf : Nd.find x.ents n = none) : step (setL l d { x with ents := Nd.ins E.lt x.ents n c }) = upd (step l) d n (some c) := by
 rw [step_set]
 funext i m
 unfold upd
 by_cases hi : i = d
 ·rw [if_pos hi]
  subst hi
  by_cases hm : m = n
  ·subst hm
   rw [if_pos ⟨rfl, rfl⟩]
   exact Nd.find_ins_same hf
  ·rw [if_neg (fun e => hm e.2), show step l i m = Nd.find x.ents m by unfold step; rw [h]; rfl]
   exact Nd.find_ins_other hm
 ·rw [if_neg hi, if_neg (fun e => hi e.1)]
theorem leave_is {l : List Item} {d : Int} {n : ByteArray} {x : Node} (h : node l d = some x) (hk : x.kind = 2) (hf : (Nd.find x.ents n).isSome = true) : leave l d n = setL l d { x with ents := Nd.cut x.ents n } := by
 unfold leave
 rw [nodeD_of h]
 unfold Nd.withoutE
 rw [if_neg (by simp [hk]), if_neg (by simp [hf])]
theorem step_leave {l : List Item} {d : Int} {n : ByteArray} {x : Node} (R : Tr.Rising E.lt) (h : node l d = some x) (hs : Tr.Sorted E.lt x.ents) : step (setL l d { x with ents := Nd.cut x.ents n }) = upd (step l) d n none := by
 rw [step_set]
 funext i m
 unfold upd
 by_cases hi : i = d
 ·rw [if_pos hi]
  subst hi
  by_cases hm : m = n
  ·subst hm
   rw [if_pos ⟨rfl, rfl⟩]
   exact Nd.cut_none R hs
  ·rw [if_neg (fun e => hm e.2), show step l i m = Nd.find x.ents m by unfold step; rw [h]; rfl]
   exact find_cut_other hm
 ·rw [if_neg hi, if_neg (fun e => hi e.1)]
theorem step_drop {l : List Item} {i : Int} (h : ∀ n, step l i n = none) : step (dropL l i) = step l := by
 funext k n
 by_cases hk : k = i
 ·subst hk
  rw [h n]
  unfold step
  rw [node_drop, if_pos rfl]; rfl
 ·unfold step
  rw [node_drop, if_neg hk]
theorem right_cut (R : Tr.Rising E.lt) {x : Node} (h : Nd.Right E.lt E.nm x) (n : ByteArray) : Nd.Right E.lt E.nm { x with ents := Nd.cut x.ents n } := by
 have hs := Nd.cut_sub x.ents n
 refine ⟨h.m0, h.m1, Nat.le_trans hs.length_le h.len, fun e he => h.ok e (hs.subset he), (Nd.rises_iff R _).2 (((Nd.rises_iff R _).1 h.rise).sublist hs), ?_⟩
 rcases h.kinds with ⟨h1, h2, h3, h4⟩ | h1 | ⟨h1, h2, h3, h4⟩
 ·exact .inl ⟨h1, h2, by show Nd.cut x.ents n = []; rw [h3]; rfl, h4⟩
 ·exact .inr (.inl h1)
 ·exact .inr (.inr ⟨h1, h2, by show Nd.cut x.ents n = []; rw [h3]; rfl, h4⟩)
theorem step_same {l : List Item} {i : Int} {x y : Node} (h : node l i = some x) (he : y.ents = x.ents) : step (setL l i y) = step l := by
 rw [step_set]
 funext k n
 split
 ·rename_i e
  subst e
  rw [he]; unfold step; rw [h]; rfl
 ·rfl
theorem dir_same {l : List Item} {i : Int} {x y : Node} (h : node l i = some x) (hk : y.kind = x.kind) : isDir (setL l i y) = isDir l := by
 funext k
 apply propext
 rw [dir_set]
 constructor
 ·rintro (⟨rfl, h1⟩ | ⟨_, h1⟩)
  ·exact ⟨x, h, hk ▸ h1⟩
  ·exact h1
 ·intro h1
  by_cases hki : k = i
  ·subst hki
   obtain ⟨z, h2, h3⟩ := h1
   rw [h] at h2; injection h2 with h2; subst h2
   exact .inl ⟨rfl, hk.trans h3⟩
  ·exact .inr ⟨hki, h1⟩
theorem Half.same (G : Half E f) {i : Int} {x y : Node} (h : node f.l i = some x) (he : y.ents = x.ents) (hk : y.kind = x.kind) (hR : Nd.Right E.lt E.nm y) : Half E ⟨setL f.l i y, f.next⟩ := by
 have hs := step_same h he
 have hd := dir_same h hk
 refine ⟨rising_set G.inos (.inl (by rw [h]; rfl)), fun z hz => ?_, ?_, by rw [hd]; exact G.top, fun {k z} hz => ?_, fun {k n c} hc => ?_, by rw [hs, hd]; exact G.tree⟩
 ·rcases mem_set hz with rfl | ⟨hz, _⟩
  ·exact G.pos (i, x) (node_mem h)
  ·exact G.pos z hz
 ·rw [len_set, h]; exact G.few
 ·rw [node_set] at hz
  split at hz
  ·injection hz with hz; rw [← hz]; exact hR
  ·exact G.right hz
 ·rw [hs] at hc
  rw [node_set]
  split
  ·rfl
  ·exact G.there hc
theorem Good.same (G : Good E f) {i : Int} {x y : Node} (h : node f.l i = some x) (he : y.ents = x.ents) (hk : y.kind = x.kind) (hR : Nd.Right E.lt E.nm y) : Good E ⟨setL f.l i y, f.next⟩ := by
 refine ⟨G.toHalf.same h he hk hR, fun {k z} hz => ?_⟩
 show ∃ ns, go (step (setL f.l i y)) 1 ns = some k
 rw [step_same h he]
 have hz : node (setL f.l i y) k = some z := hz
 rw [node_set] at hz
 split at hz
 ·rename_i e; rw [e]; exact G.reach h
 ·exact G.reach hz
end
end Fs

namespace Fs
open Nd (En Node none0)
open Gr (go upd)
section
variable {E : Env} {f : FS}
theorem Half.gone (H : Half E f) {i : Int} (h : f.next ≤ i) : node f.l i = none := node_none.2 fun y hy e => by have := (H.pos y hy).2; omega
theorem Half.next_pos (H : Half E f) : 1 < f.next := by
 obtain ⟨x, h, _⟩ := H.top
 exact (H.pos (1, x) (node_mem h)).2
theorem step_of_none {l : List Item} {i : Int} (h : node l i = none) (n : ByteArray) : step l i n = none := by unfold step; rw [h]; rfl
theorem Half.none_to (H : Half E f) {c : Int} (h : node f.l c = none) (i : Int) (n : ByteArray) : step f.l i n ≠ some c := fun e => by
 have := H.there e
 rw [h] at this; cases this
theorem step_make {l : List Item} {i : Int} {x : Node} (h : node l i = none) (hx : x.ents = []) : step (setL l i x) = step l := by
 rw [step_set]
 funext k n
 split
 ·rename_i e; rw [e, step_of_none h, hx]; rfl
 ·rfl
theorem Half.make (H : Half E f) {x : Node} (hR : Nd.Right E.lt E.nm x) (hx : x.ents = []) (hl : f.l.length < 256) : Half E ⟨setL f.l f.next x, f.next + 1⟩ := by
 have hg := H.gone (Int.le_refl f.next)
 have hs := step_make (x := x) hg hx
 have h1 := H.next_pos
 refine ⟨rising_set H.inos (.inr fun y hy => (H.pos y hy).2), fun z hz => ?_, ?_, dir_set.2 (.inr ⟨by omega, H.top⟩), fun {k z} hz => ?_, fun {k n c} hc => ?_, ?_⟩
 ·rcases mem_set hz with rfl | ⟨hz, _⟩
  ·show 1 ≤ f.next ∧ f.next < f.next + 1; omega
  ·have := H.pos z hz; show 1 ≤ z.1 ∧ z.1 < f.next + 1; omega
 ·rw [len_set, hg]; show f.l.length + 1 ≤ 256; omega
 ·rw [node_set] at hz
  split at hz
  ·injection hz with hz; rw [← hz]; exact hR
  ·exact H.right hz
 ·rw [hs] at hc
  rw [node_set]
  split
  ·rfl
  ·exact H.there hc
 ·rw [hs]
  refine H.tree.turn (fun c hc => ?_) (fun i n c _ hd => ?_)
  ·rcases dir_set.1 hc with ⟨rfl, _⟩ | ⟨_, hc⟩
   ·exact .inr (H.none_to hg)
   ·exact .inl hc
  ·refine dir_set.2 (.inr ⟨fun e => ?_, hd⟩)
   obtain ⟨y, hy, _⟩ := hd
   rw [e, hg] at hy; cases hy
theorem Half.add (H : Half E f) (K : EnvOk E) {d c : Int} {n : ByteArray} {ps : List ByteArray} (hd : isDir f.l d) (hn : E.nm (Nd.bs n) = true) (hs : step f.l d n = none) (hl : (nodeD f.l d).ents.length < 64)
  (hc : (node f.l c).isSome = true) (hb : c ≤ 2147483647) (hp : go (step f.l) 1 ps = some d) (h1 : c ≠ 1) (hone : isDir f.l c → ∀ i m, step f.l i m ≠ some c) (hout : ∀ qs, go (step f.l) c qs ≠ some d)
  (hdeep : ∀ qs j, go (step f.l) c qs = some j → ps.length + 1 + qs.length ≤ 8) : Half E ⟨enter E f.l d n c, f.next⟩ ∧ step (enter E f.l d n c) = upd (step f.l) d n (some c) ∧ isDir (enter E f.l d n c) = isDir f.l := by
 obtain ⟨x, hx, hk⟩ := hd
 have hf : Nd.find x.ents n = none := by unfold step at hs; rw [hx] at hs; exact hs
 rw [nodeD_of hx] at hl
 have he := enter_is (E := E) (c := c) hx hk hn hf hl
 have hst : step (enter E f.l d n c) = upd (step f.l) d n (some c) := by rw [he]; exact step_enter hx hf
 have hdr : isDir (enter E f.l d n c) = isDir f.l := by rw [he]; exact dir_same hx rfl
 refine ⟨⟨?_, fun z hz => ?_, ?_, by rw [hdr]; exact H.top, fun {k z} hz => ?_, fun {k m e} hm => ?_, ?_⟩, hst, hdr⟩
 ·rw [he]; exact rising_set H.inos (.inl (by rw [hx]; rfl))
 ·rw [he] at hz
  rcases mem_set hz with rfl | ⟨hz, _⟩
  ·exact H.pos (d, x) (node_mem hx)
  ·exact H.pos z hz
 ·rw [he, len_set, hx]; exact H.few
 ·rw [he, node_set] at hz
  split at hz
  ·injection hz with hz
   rw [← hz]
   obtain ⟨y, hy⟩ := Option.isSome_iff_exists.1 hc
   exact Nd.right_ins K.rising (H.right hx) hk hn hf hl (H.pos (c, y) (node_mem hy)).1 hb
  ·exact H.right hz
 ·have hm : upd (step f.l) d n (some c) k m = some e := hst ▸ hm
  have key : (node f.l e).isSome = true := by
   unfold upd at hm
   split at hm
   ·injection hm with hm; rw [← hm]; exact hc
   ·exact H.there hm
  rw [he, node_set]
  split
  ·rfl
  ·exact key
 ·rw [hdr, hst]
  exact H.tree.add ⟨x, hx, hk⟩ hp h1 hone hout hdeep
theorem Half.less (H : Half E f) (K : EnvOk E) {d c : Int} {n : ByteArray} (hs : step f.l d n = some c) : Half E ⟨leave f.l d n, f.next⟩ ∧ step (leave f.l d n) = upd (step f.l) d n none ∧ isDir (leave f.l d n) = isDir f.l := by
 obtain ⟨x, hx, hk, hf⟩ := H.step_dir hs
 have he := leave_is (n := n) hx hk (by rw [hf]; rfl)
 have hst : step (leave f.l d n) = upd (step f.l) d n none := by rw [he]; exact step_leave K.rising hx ((Nd.rises_iff K.rising _).1 (H.right hx).rise)
 have hdr : isDir (leave f.l d n) = isDir f.l := by rw [he]; exact dir_same hx rfl
 refine ⟨⟨?_, fun z hz => ?_, ?_, by rw [hdr]; exact H.top, fun {k z} hz => ?_, fun {k m e} hm => ?_, ?_⟩, hst, hdr⟩
 ·rw [he]; exact rising_set H.inos (.inl (by rw [hx]; rfl))
 ·rw [he] at hz
  rcases mem_set hz with rfl | ⟨hz, _⟩
  ·exact H.pos (d, x) (node_mem hx)
  ·exact H.pos z hz
 ·rw [he, len_set, hx]; exact H.few
 ·rw [he, node_set] at hz
  split at hz
  ·injection hz with hz; rw [← hz]; exact right_cut K.rising (H.right hx) n
  ·exact H.right hz
 ·have hm : upd (step f.l) d n none k m = some e := hst ▸ hm
  rw [he, node_set]
  split
  ·rfl
  ·exact H.there (Gr.upd_less _ _ _ hm)
 ·rw [hdr, hst]
  exact H.tree.sub Gr.upd_less
theorem Half.drop (H : Half E f) {i : Int} (h1 : i ≠ 1) (hno : ∀ n, step f.l i n = none) (hto : ∀ k n, step f.l k n ≠ some i) : Half E ⟨dropL f.l i, f.next⟩ ∧ step (dropL f.l i) = step f.l := by
 have hs := step_drop hno
 have hdir : ∀ k, isDir (dropL f.l i) k ↔ k ≠ i ∧ isDir f.l k := fun k => by
  unfold isDir
  rw [node_drop]
  by_cases hk : k = i
  ·rw [if_pos hk]
   constructor
   ·rintro ⟨x, h, _⟩; cases h
   ·rintro ⟨h, _⟩; exact absurd hk h
  ·rw [if_neg hk]
   exact ⟨fun h => ⟨hk, h⟩, fun h => h.2⟩
 refine ⟨⟨rising_drop H.inos i, fun z hz => H.pos z (List.mem_filter.1 hz).1, Nat.le_trans (len_drop _ _) H.few, (hdir 1).2 ⟨fun e => h1 e.symm, H.top⟩, fun {k z} hz => ?_, fun {k m e} hm => ?_, ?_⟩, hs⟩
 ·rw [node_drop] at hz
  split at hz
  ·cases hz
  ·exact H.right hz
 ·rw [hs] at hm
  rw [node_drop, if_neg (fun (e' : e = i) => hto k m (e' ▸ hm))]
  exact H.there hm
 ·rw [hs]
  refine H.tree.turn (fun c hc => .inl ((hdir c).1 hc).2) (fun k n c hk hd => (hdir k).2 ⟨fun e => ?_, hd⟩)
  rw [e, hno] at hk; cases hk
end
end Fs
