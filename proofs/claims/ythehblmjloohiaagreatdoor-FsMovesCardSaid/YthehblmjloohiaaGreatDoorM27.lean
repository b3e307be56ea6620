/- Layer 11, a part of the proofs: no statement of its own. -/
import Derived.Laws.EntriesVeiled
import Derived.Lib.CountLaws
import Derived.Test.YthehblmjloohiaaGreatDoorM26
namespace Go.Proofs.YthehblmjloohiaaGreatDoor
set_option maxRecDepth 100000
open Go.RowKit Go.Less
open T8 (pv Dg)
attribute [local go_sem 9000] sem_eql sem_neq
structure Ints (a : Option Addr) (n : Nat) (l : List Int) (w : World) : Prop where
 count : n = l.length
 cell : ∀ i, i < n → ∃ b off, a = some ⟨b, off, none⟩ ∧ w.cell? ⟨b, off + i, none⟩ = some (.int .i64 (l.getD i 0))
theorem Ints.below {a : Option Addr} {n : Nat} {l : List Int} {w w' : World} (h : Ints a n l w) (hb : Below w.heap.size w w') : Ints a n l w' :=
 ⟨h.count, fun i hi => by
  obtain ⟨b, off, e, hc⟩ := h.cell i hi
  exact ⟨b, off, e, (hb.cell (p := ⟨b, off + i, none⟩) (block_lt_of_cell hc)).trans hc⟩⟩
theorem irow_ints {base n : Nat} {a : Option Addr} {c : Nat} {l : List Int} {w : World} (h : Irow base (.slice a n c) l w) (hn : n = l.length) : Ints a n l w := by
 subst hn
 have h2 := h
 refine ⟨rfl, fun i hi => ?_⟩
 obtain ⟨_, ⟨e, h0⟩ | ⟨g, cap, cur, e, _⟩⟩ := h
 ·omega
 ·injection e with e1 e2 e3
  subst e1
  subst e3
  refine ⟨g, 0, rfl, ?_⟩
  rw [Nat.zero_add, World.ownsRow.cellAt h2 i (by omega), List.getElem?_map, List.getElem?_eq_getElem hi]
  simp [List.getD, List.getElem?_eq_getElem hi]
theorem any_more {α : Type} {p : α → Bool} {l : List α} {k : Nat} {z : α} (h : (l.take k).any p = false) (hk : k < l.length) (hp : p (l.getD k z) = false) : (l.take (k + 1)).any p = false := by
 rw [List.take_succ_eq_append_getElem hk, List.any_append, h]
 rw [List.getD, List.getElem?_eq_getElem hk, Option.getD_some] at hp
 simp [hp]
theorem any_hit {α : Type} {p : α → Bool} {l : List α} {k : Nat} {z : α} (hk : k < l.length) (hp : p (l.getD k z) = true) : l.any p = true := by
 rw [List.getD, List.getElem?_eq_getElem hk, Option.getD_some] at hp
 exact List.any_eq_true.2 ⟨_, List.getElem_mem hk, hp⟩
set_option maxHeartbeats 4000000 in
theorem ixfE_any (gk : Nat) (lb : Array Value) (eg : ∀ args w, (callFunc gk args).run Tryz.prog w = .ok (.enter gk args) w) (p : En → Bool) (a : Option Addr) (n cap : Nat) (l : List En) (w : World) (hE : Ents a n l w) (hn : n ≤ 1000000)
  (HC0 : ∀ x ∈ l, ∀ W, Below w.heap.size w W → Calls Tryz.prog gk (#[ev x] ++ lb) W fun e w' => e = .returned (.bool (p x)) ∧ Below W.heap.size W w') :
  Calls Tryz.prog 139 #[.slice a n cap, .func (.func gk) #[] lb] w fun e w' => (∃ z : Int, e = .returned (.int .i64 z) ∧ (0 ≤ z ↔ l.any p = true)) ∧ Below w.heap.size w w' := by
 have HNL := Lib.hid hE.count
 have hni : (n : Int) ≤ 1000000 := by omega
 have HE := Lib.hid (fun W (hb : Below w.heap.size w W) => hE.below hb)
 have HCa := Lib.hid HC0
 clear hE HC0
 go_enter Tryz.func139, Tryz.ntmps139
 go_wp2_with fail
 go_loopw [8] (fun v wr => ∃ k : Nat, k ≤ n ∧ v = .int .i64 k ∧ Below w.heap.size w wr ∧ Hid ((l.take k).any p = false)) (fun v _ => n - (intOf v).toNat)
 case atStart => exact ⟨0, Nat.zero_le _, rfl, Below.refl _ _, rfl⟩
 case round =>
  obtain ⟨k, hk, rfl, hB, HA⟩ := hrel
  by_cases hlt : k < n
  ·have k0 : (k : Int) < (n : Int) := by omega
   have hk0 : (0 : Int) ≤ (k : Int) := by omega
   have hkl : k < l.length := by rw [← HNL.out]; exact hlt
   obtain ⟨b, off, rfl, c0, c1⟩ := (HE.out _ hB).cell k hlt
   have HM := Lib.hid (fun h => any_more (p := p) (z := z0) HA.out hkl h)
   have HH := Lib.hid (fun h => any_hit (p := p) (z := z0) hkl h)
   have hmem : l.getD k z0 ∈ l := by rw [List.getD, List.getElem?_eq_getElem hkl]; exact List.getElem_mem hkl
   generalize l.getD k z0 = x at *
   have HC := Lib.hid (HCa.out x hmem wr hB)
   have HBh := Lib.hid hB
   clear hB hkl hmem
   cases hr : p x with
   | false =>
    rw [hr] at HC
    have HR := Lib.hid (HM.out hr)
    clear hr HM HH
    go_wp2_with fail
    refine HC.out.mono ?_
    rintro e w2 ⟨rfl, hw2⟩
    have HB2 := Lib.hid (HBh.out.trans (hw2.mono HBh.out.size))
    clear hw2
    dsimp only
    go_wp2_with fail
    go_roundw
    case rel => exact ⟨k + 1, by omega, by go_num, HB2.out, HR.out⟩
    case measure => simp [intOf]; omega
   | true =>
    rw [hr] at HC
    have HR := Lib.hid (HH.out hr)
    clear hr HM HH
    go_wp2_with fail
    refine HC.out.mono ?_
    rintro e w2 ⟨rfl, hw2⟩
    have HB2 := Lib.hid (HBh.out.trans (hw2.mono HBh.out.size))
    clear hw2
    dsimp only
    go_wp2_with fail
    go_ret
    exact ⟨⟨_, rfl, by rw [HR.out]; simp⟩, HB2.out⟩
  ·obtain rfl : k = n := by omega
   have HR := Lib.hid (show l.any p = false by have h := HA.out; rw [HNL.out, List.take_length] at h; exact h)
   have HBh := Lib.hid hB
   clear hB
   go_wp2_with fail
   go_ret
   exact ⟨⟨_, rfl, by rw [HR.out]; decide⟩, HBh.out⟩
set_option maxHeartbeats 2000000 in
theorem cofE_any (gk : Nat) (lb : Array Value) (eg : ∀ args w, (callFunc gk args).run Tryz.prog w = .ok (.enter gk args) w) (p : En → Bool) (a : Option Addr) (n cap : Nat) (l : List En) (w : World) (hE : Ents a n l w) (hn : n ≤ 1000000)
  (HC0 : ∀ x ∈ l, ∀ W, Below w.heap.size w W → Calls Tryz.prog gk (#[ev x] ++ lb) W fun e w' => e = .returned (.bool (p x)) ∧ Below W.heap.size W w') :
  Calls Tryz.prog 162 #[.slice a n cap, .func (.func gk) #[] lb] w fun e w' => e = .returned (.bool (l.any p)) ∧ Below w.heap.size w w' := by
 have HI := Lib.hid (ixfE_any gk lb eg p a n cap l w hE hn HC0)
 clear hE hn HC0
 generalize l.any p = r at *
 go_enter Tryz.func162, Tryz.ntmps162
 go_wp2_with fail
 refine HI.out.mono ?_
 rintro e w1 ⟨⟨z, rfl, hz⟩, hB⟩
 dsimp only
 cases r with
 | true =>
  have h0 : 0 ≤ z := hz.2 rfl
  clear hz
  go_wp2_with fail
  go_ret
  exact ⟨by simp, hB⟩
 | false =>
  have h0 : ¬ 0 ≤ z := fun h => by have := hz.1 h; cases this
  clear hz
  go_wp2_with fail
  go_ret
  exact ⟨by simp, hB⟩
set_option maxHeartbeats 4000000 in
theorem ixfI_any (gk : Nat) (lb : Array Value) (eg : ∀ args w, (callFunc gk args).run Tryz.prog w = .ok (.enter gk args) w) (p : Int → Bool) (a : Option Addr) (n cap : Nat) (l : List Int) (w : World) (hE : Ints a n l w) (hn : n ≤ 1000000)
  (HC0 : ∀ x ∈ l, ∀ W, Below w.heap.size w W → Calls Tryz.prog gk (#[.int .i64 x] ++ lb) W fun e w' => e = .returned (.bool (p x)) ∧ Below W.heap.size W w') :
  Calls Tryz.prog 151 #[.slice a n cap, .func (.func gk) #[] lb] w fun e w' => (∃ z : Int, e = .returned (.int .i64 z) ∧ (0 ≤ z ↔ l.any p = true)) ∧ Below w.heap.size w w' := by
 have HNL := Lib.hid hE.count
 have hni : (n : Int) ≤ 1000000 := by omega
 have HE := Lib.hid (fun W (hb : Below w.heap.size w W) => hE.below hb)
 have HCa := Lib.hid HC0
 clear hE HC0
 go_enter Tryz.func151, Tryz.ntmps151
 go_wp2_with fail
 go_loopw [8] (fun v wr => ∃ k : Nat, k ≤ n ∧ v = .int .i64 k ∧ Below w.heap.size w wr ∧ Hid ((l.take k).any p = false)) (fun v _ => n - (intOf v).toNat)
 case atStart => exact ⟨0, Nat.zero_le _, rfl, Below.refl _ _, rfl⟩
 case round =>
  obtain ⟨k, hk, rfl, hB, HA⟩ := hrel
  by_cases hlt : k < n
  ·have k0 : (k : Int) < (n : Int) := by omega
   have hk0 : (0 : Int) ≤ (k : Int) := by omega
   have hkl : k < l.length := by rw [← HNL.out]; exact hlt
   obtain ⟨b, off, rfl, c0⟩ := (HE.out _ hB).cell k hlt
   have HM := Lib.hid (fun h => any_more (p := p) (z := 0) HA.out hkl h)
   have HH := Lib.hid (fun h => any_hit (p := p) (z := 0) hkl h)
   have hmem : l.getD k 0 ∈ l := by rw [List.getD, List.getElem?_eq_getElem hkl]; exact List.getElem_mem hkl
   generalize l.getD k 0 = x at *
   have HC := Lib.hid (HCa.out x hmem wr hB)
   have HBh := Lib.hid hB
   clear hB hkl hmem
   cases hr : p x with
   | false =>
    rw [hr] at HC
    have HR := Lib.hid (HM.out hr)
    clear hr HM HH
    go_wp2_with fail
    refine HC.out.mono ?_
    rintro e w2 ⟨rfl, hw2⟩
    have HB2 := Lib.hid (HBh.out.trans (hw2.mono HBh.out.size))
    clear hw2
    dsimp only
    go_wp2_with fail
    go_roundw
    case rel => exact ⟨k + 1, by omega, by go_num, HB2.out, HR.out⟩
    case measure => simp [intOf]; omega
   | true =>
    rw [hr] at HC
    have HR := Lib.hid (HH.out hr)
    clear hr HM HH
    go_wp2_with fail
    refine HC.out.mono ?_
    rintro e w2 ⟨rfl, hw2⟩
    have HB2 := Lib.hid (HBh.out.trans (hw2.mono HBh.out.size))
    clear hw2
    dsimp only
    go_wp2_with fail
    go_ret
    exact ⟨⟨_, rfl, by rw [HR.out]; simp⟩, HB2.out⟩
  ·obtain rfl : k = n := by omega
   have HR := Lib.hid (show l.any p = false by have h := HA.out; rw [HNL.out, List.take_length] at h; exact h)
   have HBh := Lib.hid hB
   clear hB
   go_wp2_with fail
   go_ret
   exact ⟨⟨_, rfl, by rw [HR.out]; decide⟩, HBh.out⟩
set_option maxHeartbeats 2000000 in
theorem cofI_any (gk : Nat) (lb : Array Value) (eg : ∀ args w, (callFunc gk args).run Tryz.prog w = .ok (.enter gk args) w) (p : Int → Bool) (a : Option Addr) (n cap : Nat) (l : List Int) (w : World) (hE : Ints a n l w) (hn : n ≤ 1000000)
  (HC0 : ∀ x ∈ l, ∀ W, Below w.heap.size w W → Calls Tryz.prog gk (#[.int .i64 x] ++ lb) W fun e w' => e = .returned (.bool (p x)) ∧ Below W.heap.size W w') :
  Calls Tryz.prog 112 #[.slice a n cap, .func (.func gk) #[] lb] w fun e w' => e = .returned (.bool (l.any p)) ∧ Below w.heap.size w w' := by
 have HI := Lib.hid (ixfI_any gk lb eg p a n cap l w hE hn HC0)
 clear hE hn HC0
 generalize l.any p = r at *
 go_enter Tryz.func112, Tryz.ntmps112
 go_wp2_with fail
 refine HI.out.mono ?_
 rintro e w1 ⟨⟨z, rfl, hz⟩, hB⟩
 dsimp only
 cases r with
 | true =>
  have h0 : 0 ≤ z := hz.2 rfl
  clear hz
  go_wp2_with fail
  go_ret
  exact ⟨by simp, hB⟩
 | false =>
  have h0 : ¬ 0 ≤ z := fun h => by have := hz.1 h; cases this
  clear hz
  go_wp2_with fail
  go_ret
  exact ⟨by simp, hB⟩
end Go.Proofs.YthehblmjloohiaaGreatDoor

namespace Go.Proofs.YthehblmjloohiaaGreatDoor
set_option maxRecDepth 100000
open Go.RowKit Go.Less
open T8 (pv Dg)
attribute [local go_sem 9000] sem_eql sem_neq
def namesB (i : Int) (x : En) : Bool := decide (x.2 = i)
def dirNames (l : List Fs.Item) (i d : Int) : Bool := (Fs.nodeD l d).ents.any (namesB i)
def namedB (l : List Fs.Item) (i : Int) : Bool := (inosL l).any (dirNames l i)
theorem namedB_is {l : List Fs.Item} (h : Okl l) (i : Int) : namedB l i = decide (Fs.links l i ≠ 0) := by
 have key : namedB l i = true ↔ Fs.links l i ≠ 0 := by
  rw [Ne, Fs.countP_zero]
  unfold namedB inosL dirNames namesB
  simp only [List.any_eq_true, List.mem_map, decide_eq_true_eq]
  constructor
  ·rintro ⟨d, ⟨y, hy, rfl⟩, e, he, rfl⟩ hall
   rw [Fs.nodeD_of (Fs.node_at h.inos (show (y.1, y.2) ∈ l from hy))] at he
   exact hall y hy e he rfl
  ·intro hn
   refine Classical.byContradiction fun hc => hn fun y hy e he heq => hc ⟨y.1, ⟨y, hy, rfl⟩, e, ?_, heq⟩
   rw [Fs.nodeD_of (Fs.node_at h.inos (show (y.1, y.2) ∈ l from hy))]
   exact he
 cases hb : namedB l i with
 | true => exact (decide_eq_true (key.1 hb)).symm
 | false => exact (decide_eq_false fun hc => by rw [key.2 hc] at hb; cases hb).symm
set_option maxHeartbeats 1000000 in
theorem c160_any (x : En) (i : Int) (g : Nat) (w : World) (hg : w.cell? ⟨g, 0, none⟩ = some (.int .i64 i)) : Calls Tryz.prog 160 #[ev x, .pointer (some ⟨g, 0, none⟩)] w fun e w' => e = .returned (.bool (namesB i x)) ∧ Below w.heap.size w w' := by
 have hlt := block_lt_of_cell hg
 have HR := Lib.hid (show namesB i x = decide (x.2 = i) from rfl)
 go_enter Tryz.func160, Tryz.ntmps160
 go_wp2_with fail
 go_ret
 rw [HR.out]
 exact ⟨by rfl, (Below.refl _ _).alloc (Nat.le_refl _) _⟩
set_option maxHeartbeats 4000000 in
theorem c161_any (m : Option Nat) (nx : Int) (l : List Fs.Item) (i d : Int) (gs gi gf : Nat) (w : World) (h : Sv w m l) (h1 : w.heap[gs]? = some (.cells #[pv m, .int .i64 nx] 88 (0, 0))) (h2 : w.cell? ⟨gi, 0, none⟩ = some (.int .i64 i)) (h3 : w.cell? ⟨gf, 0, none⟩ = some (.func (.func 160) #[] #[.pointer (some ⟨gi, 0, none⟩)])) :
  Calls Tryz.prog 161 #[.int .i64 d, .pointer (some ⟨gs, 0, none⟩), .pointer (some ⟨gf, 0, none⟩)] w fun e w' => e = .returned (.bool (dirNames l i d)) ∧ Below w.heap.size w w' := by
 have HN := Lib.hid (pNode_any m nx l d w h)
 have s0 : w.cell? ⟨gs, 0, none⟩ = some (pv m) := cell_obj h1 0
 have s1 : w.cell? ⟨gs, 1, none⟩ = some (.int .i64 nx) := cell_obj h1 1
 have hsm := h.ok.small d
 have eg : ∀ args w, (callFunc 160 args).run Tryz.prog w = .ok (.enter 160 args) w := enters_of Tryz.func160 (by kernel_rfl) rfl
 have HR := Lib.hid (show dirNames l i d = (Fs.nodeD l d).ents.any (namesB i) from rfl)
 have HG := Lib.hid (show ∀ W, Below w.heap.size w W → W.cell? ⟨gi, 0, none⟩ = some (.int .i64 i) from fun W hb => (hb.cell (block_lt_of_cell h2)).trans h2)
 have HF := Lib.hid (show ∀ W, Below w.heap.size w W → W.cell? ⟨gf, 0, none⟩ = some (.func (.func 160) #[] #[.pointer (some ⟨gi, 0, none⟩)]) from fun W hb => (hb.cell (block_lt_of_cell h3)).trans h3)
 clear h h1 h2 h3
 unfold Node11 at HN
 generalize Fs.nodeD l d = x at *
 obtain ⟨k, mo, dd, t, es⟩ := x
 dsimp only at hsm HN HR
 go_enter Tryz.func161, Tryz.ntmps161
 go_wp2_with fail
 refine HN.out.mono ?_
 rintro e w1 ⟨a, c, rfl, hE, hb⟩
 have HE := Lib.hid (hE.below (below_one w1 (.cells #[.int .i64 k, .int .i64 mo, .string dd, .string t, .slice a es.length c] 43)))
 have HB := Lib.hid (hb.trans ((below_one w1 (.cells #[.int .i64 k, .int .i64 mo, .string dd, .string t, .slice a es.length c] 43)).mono hb.size))
 have f0 := HF.out _ HB.out
 clear s0 s1 hE hb
 dsimp only
 go_wp2_with fail
 have hn9 : es.length ≤ 1000000 := by omega
 have HE9 := HE.out
 clear HF f0 hsm
 generalize w1.alloc (.cells #[.int .i64 k, .int .i64 mo, .string dd, .string t, .slice a es.length c] 43) = W3 at HE HE9 HB ⊢
 have HGB := Lib.hid (fun (W : World) (hW : Below W3.heap.size W3 W) => HG.out W (HB.out.trans (hW.mono HB.out.size)))
 clear HG
 have HC9 : ∀ x ∈ es, ∀ W, Below W3.heap.size W3 W → Calls Tryz.prog 160 (#[ev x] ++ #[.pointer (some ⟨gi, 0, none⟩)]) W fun e w' => e = .returned (.bool (namesB i x)) ∧ Below W.heap.size W w' := fun x _ W hW => by
  show Calls Tryz.prog 160 #[ev x, .pointer (some ⟨gi, 0, none⟩)] W _
  exact c160_any x i gi W (HGB.out W hW)
 have H9 := Lib.hid (cofE_any 160 #[.pointer (some ⟨gi, 0, none⟩)] eg (namesB i) a es.length c es W3 HE9 hn9 HC9)
 clear HE9 HC9 HGB
 refine H9.out.mono ?_
 rintro e w2 ⟨rfl, hb2⟩
 dsimp only
 go_wp2_with fail
 go_ret
 rw [HR.out]
 exact ⟨rfl, HB.out.trans (hb2.mono HB.out.size)⟩
set_option maxHeartbeats 4000000 in
theorem isNamed_any (m : Option Nat) (nx : Int) (l : List Fs.Item) (i : Int) (w : World) (h : Sv w m l) : Calls Tryz.prog 122 #[stv m nx, .int .i64 i] w fun e w' => e = .returned (.bool (decide (Fs.links l i ≠ 0))) ∧ Below w.heap.size w w' := by
 have HIn := Lib.hid (fun W (hb : Below w.heap.size w W) => inos_any m nx l W (h.below hb))
 have HR := Lib.hid (namedB_is h.ok i)
 have HSv := Lib.hid (fun W (hb : Below w.heap.size w W) => h.below hb)
 have hl : (inosL l).length ≤ 1000 := by unfold inosL; rw [List.length_map]; exact h.ok.few
 have eg : ∀ args w, (callFunc 161 args).run Tryz.prog w = .ok (.enter 161 args) w := enters_of Tryz.func161 (by kernel_rfl) rfl
 clear h
 have HB := Lib.hid (show Bxs w [(w.heap.size, #[pv m, .int .i64 nx], 88), (w.heap.size + 1, #[.int .i64 i], 3), (w.heap.size + 1 + 1, #[.func (.func 160) #[] #[.pointer (some ⟨w.heap.size + 1, 0, none⟩)]], 191)] (((w.alloc (.cells #[pv m, .int .i64 nx] 88)).alloc (.cells #[.int .i64 i] 3)).alloc (.cells #[.func (.func 160) #[] #[.pointer (some ⟨w.heap.size + 1, 0, none⟩)]] 191)) from Bxs.three w _ _ _ _ _ _)
 go_enter Tryz.func122, Tryz.ntmps122
 go_wp2_with fail
 generalize ((w.alloc (.cells #[pv m, .int .i64 nx] 88)).alloc (.cells #[.int .i64 i] 3)).alloc (.cells #[.func (.func 160) #[] #[.pointer (some ⟨w.heap.size + 1, 0, none⟩)]] 191) = W0 at HB ⊢
 obtain ⟨b0_0, b0_1⟩ := HB.out.c2 0 rfl
 have b1_0 : W0.cell? ⟨w.heap.size + 1, 0, none⟩ = some (.int .i64 i) := HB.out.cell 1 rfl 0
 have b2_0 : W0.cell? ⟨w.heap.size + 1 + 1, 0, none⟩ = some (.func (.func 160) #[] #[.pointer (some ⟨w.heap.size + 1, 0, none⟩)]) := HB.out.cell 2 rfl 0
 go_wp2_with fail
 refine (HIn.out W0 HB.out.below).mono ?_
 rintro e w1 ⟨ao, cap, rfl, hrow, hb⟩
 have hbk := hb
 have HI := Lib.hid (irow_ints hrow rfl)
 clear hrow
 have HB := Lib.hid (HB.out.kept hbk)
 clear b0_0 b0_1 b1_0 b2_0
 clear hbk
 obtain ⟨b0_0, b0_1⟩ := HB.out.c2 0 rfl
 have b1_0 : w1.cell? ⟨w.heap.size + 1, 0, none⟩ = some (.int .i64 i) := HB.out.cell 1 rfl 0
 have b2_0 : w1.cell? ⟨w.heap.size + 1 + 1, 0, none⟩ = some (.func (.func 160) #[] #[.pointer (some ⟨w.heap.size + 1, 0, none⟩)]) := HB.out.cell 2 rfl 0
 dsimp only
 go_wp2_with fail
 have HC9 : ∀ x ∈ inosL l, ∀ W, Below w1.heap.size w1 W → Calls Tryz.prog 161 (#[.int .i64 x] ++ #[.pointer (some ⟨w.heap.size, 0, none⟩), .pointer (some ⟨w.heap.size + 1 + 1, 0, none⟩)]) W fun e w' => e = .returned (.bool (dirNames l i x)) ∧ Below W.heap.size W w' := fun x _ W hW => by
  show Calls Tryz.prog 161 #[.int .i64 x, .pointer (some ⟨w.heap.size, 0, none⟩), .pointer (some ⟨w.heap.size + 1 + 1, 0, none⟩)] W _
  exact c161_any m nx l i x w.heap.size (w.heap.size + 1) (w.heap.size + 1 + 1) W (HSv.out W (HB.out.below.trans (hW.mono HB.out.below.size))) ((HB.out.kept hW).obj 0 rfl) ((HB.out.kept hW).cell 1 rfl 0) ((HB.out.kept hW).cell 2 rfl 0)
 have H9 := Lib.hid (cofI_any 161 #[.pointer (some ⟨w.heap.size, 0, none⟩), .pointer (some ⟨w.heap.size + 1 + 1, 0, none⟩)] eg (dirNames l i) ao (inosL l).length cap (inosL l) w1 HI.out (by omega) HC9)
 clear HC9
 refine H9.out.mono ?_
 rintro e w8 ⟨rfl, hb2⟩
 have HB2 := Lib.hid (HB.out.below.trans (hb2.mono HB.out.below.size))
 clear b0_0 b0_1 b1_0 b2_0
 clear hb2
 dsimp only
 go_wp2_with fail
 go_ret
 rw [← HR.out]
 exact ⟨rfl, HB2.out⟩
end Go.Proofs.YthehblmjloohiaaGreatDoor

namespace Go.Proofs.YthehblmjloohiaaGreatDoor
set_option maxRecDepth 100000
open Go.RowKit Go.Less
open T8 (pv Dg)
attribute [local go_sem 9000] sem_eql sem_neq
set_option maxHeartbeats 8000000 in
theorem height_step (m : Option Nat) (nx : Int) (l : List Fs.Item) (k mo : Int) (d t : ByteArray) (es : List En) (a : Option Addr) (c : Nat) (w : World) (V : En → Nat) (h : Sv w m l) (hE : Ents a es.length es w) (hel : es.length ≤ 64)
  (hV : ∀ e ∈ es, V e ≤ 100 ∧ ∀ W a' c', Below w.heap.size w W → Ents a' (Fs.nodeD l e.2).ents.length (Fs.nodeD l e.2).ents W → Calls Tryz.prog 129 #[stv m nx, nv (Fs.nodeD l e.2).kind (Fs.nodeD l e.2).mode (Fs.nodeD l e.2).data (Fs.nodeD l e.2).target a' (Fs.nodeD l e.2).ents.length c'] W fun r w' => r = .returned (.int .i64 (V e)) ∧ Below W.heap.size W w') :
  Calls Tryz.prog 129 #[stv m nx, nv k mo d t a es.length c] w fun e w' => e = .returned (.int .i64 (vfold V es)) ∧ Below w.heap.size w w' := by
 have HN := Lib.hid (fun i W (hb : Below w.heap.size w W) => pNode_any m nx l i W (h.below hb))
 have HEn := Lib.hid (fun W (hb : Below w.heap.size w W) => hE.below hb)
 have HV := Lib.hid hV
 have heli : (es.length : Int) ≤ 64 := by omega
 have HB := Lib.hid (show Bxs w [(w.heap.size, #[pv m, .int .i64 nx], 88), (w.heap.size + 1, #[.int .i64 k, .int .i64 mo, .string d, .string t, .slice a es.length c], 43)] ((w.alloc (.cells #[pv m, .int .i64 nx] 88)).alloc (.cells #[.int .i64 k, .int .i64 mo, .string d, .string t, .slice a es.length c] 43)) from Bxs.two w _ _ _ _)
 clear h hE hV
 go_enter Tryz.func129, Tryz.ntmps129
 go_wp2_with fail
 generalize (w.alloc (.cells #[pv m, .int .i64 nx] 88)).alloc (.cells #[.int .i64 k, .int .i64 mo, .string d, .string t, .slice a es.length c] 43) = W0 at HB ⊢
 go_loopw [5, 7, 8, 9, 13] (fun x5 _ _ _ x13 wr => ∃ q : Nat, q ≤ es.length ∧ x13 = .int .i64 q ∧ x5 = .int .i64 (vfold V (es.take q)) ∧ Bxs w [(w.heap.size, #[pv m, .int .i64 nx], 88), (w.heap.size + 1, #[.int .i64 k, .int .i64 mo, .string d, .string t, .slice a es.length c], 43)] wr) (fun _ _ _ _ x13 _ => es.length - (intOf x13).toNat)
 case atStart => exact ⟨0, Nat.zero_le _, rfl, rfl, HB.out⟩
 case round =>
  clear HB
  obtain ⟨q, hq, rfl, rfl, hb⟩ := hrel
  have HB := Lib.hid hb
  clear hb
  by_cases hlt : q < es.length
  ·have q0 : (q : Int) < (es.length : Int) := by omega
   have hq0 : (0 : Int) ≤ (q : Int) := by omega
   have hE := HEn.out wr HB.out.below
   obtain ⟨b2, o2, rfl, -, -⟩ := hE.cell q hlt
   obtain ⟨y, hy, d0, d1⟩ := ents_at hE hlt
   obtain ⟨hy1, hy2⟩ := HV.out y (List.mem_of_getElem? hy)
   have HY2 := Lib.hid hy2
   have HT := Lib.hid (show vfold V (es.take (q + 1)) = max (vfold V (es.take q)) (1 + V y) by rw [take_succ_some hy, vfold_snoc])
   have hvs : vfold V (es.take q) ≤ 101 := vfold_small fun e he => (HV.out e (List.mem_of_mem_take he)).1
   clear hy hE hy2
   generalize vfold V (es.take q) = N at *
   generalize V y = M at *
   have hwr : IntKind.i64.wrap (1 + (M : Int)) = 1 + (M : Int) := IntWalk.i64_in _ (by omega)
   have hmx : max (N : Int) (1 + (M : Int)) = ((max N (1 + M) : Nat) : Int) := by omega
   have s0 : (wr.alloc (.cells #[.string y.1, .int .i64 y.2] 85)).cell? ⟨w.heap.size, 0, none⟩ = some (pv m) := (HB.out.kept (below_one wr _)).cell 0 rfl 0
   have s1 : (wr.alloc (.cells #[.string y.1, .int .i64 y.2] 85)).cell? ⟨w.heap.size, 1, none⟩ = some (.int .i64 nx) := (HB.out.kept (below_one wr _)).cell 0 rfl 1
   go_wp2_with fail
   refine (HN.out y.2 _ (HB.out.kept (below_one wr (.cells #[.string y.1, .int .i64 y.2] 85))).below).mono ?_
   rintro e w2 ⟨ea, ec, rfl, hE2, hb2⟩
   have HB2 := Lib.hid ((HB.out.kept (below_one wr (.cells #[.string y.1, .int .i64 y.2] 85))).kept hb2)
   have HY3 := Lib.hid (fun W a' c' (hb : Below w.heap.size w W) hE => HY2.out W a' c' hb hE)
   obtain ⟨z, hz⟩ : ∃ z, Fs.nodeD l y.2 = z := ⟨_, rfl⟩
   rw [hz] at HY3 hE2 ⊢
   obtain ⟨k2, m2, dd2, t2, e2⟩ := z
   clear HY2 hz s0 s1 hb2 d0 d1
   have HB3 := Lib.hid (HB2.out.kept (below_one w2 (.cells #[.int .i64 k2, .int .i64 m2, .string dd2, .string t2, .slice ea e2.length ec] 43)))
   have HE3 := Lib.hid (hE2.below (below_one w2 (.cells #[.int .i64 k2, .int .i64 m2, .string dd2, .string t2, .slice ea e2.length ec] 43)))
   have s0 : (w2.alloc (.cells #[.int .i64 k2, .int .i64 m2, .string dd2, .string t2, .slice ea e2.length ec] 43)).cell? ⟨w.heap.size, 0, none⟩ = some (pv m) := HB3.out.cell 0 rfl 0
   have s1 : (w2.alloc (.cells #[.int .i64 k2, .int .i64 m2, .string dd2, .string t2, .slice ea e2.length ec] 43)).cell? ⟨w.heap.size, 1, none⟩ = some (.int .i64 nx) := HB3.out.cell 0 rfl 1
   clear hE2
   dsimp only
   go_wp2_with fail
   refine (HY3.out _ ea ec HB3.out.below HE3.out).mono ?_
   rintro e w3 ⟨rfl, hb3⟩
   have HB4 := Lib.hid (HB3.out.kept hb3)
   clear s0 s1 hb3
   dsimp only
   go_wp2_with fail
   go_roundw
   case rel => exact ⟨q + 1, by omega, by go_num, by rw [HT.out], HB4.out⟩
   case measure => simp [intOf]; omega
  ·obtain rfl : q = es.length := by omega
   have HR := Lib.hid (show vfold V (es.take es.length) = vfold V es by rw [List.take_length])
   go_wp2_with fail
   go_ret
   rw [HR.out]
   exact ⟨rfl, HB.out.below⟩
theorem height_any (m : Option Nat) (nx : Int) (l : List Fs.Item) (w0 : World) (h : Sv w0 m l) : ∀ (K : Nat), K ≤ 100 → ∀ (i : Int) (a : Option Addr) (c : Nat) (w : World), Below w0.heap.size w0 w → Ents a (Fs.nodeD l i).ents.length (Fs.nodeD l i).ents w → Dp l K i →
  Calls Tryz.prog 129 #[stv m nx, nv (Fs.nodeD l i).kind (Fs.nodeD l i).mode (Fs.nodeD l i).data (Fs.nodeD l i).target a (Fs.nodeD l i).ents.length c] w fun e w' => e = .returned (.int .i64 (Fs.deep l K i)) ∧ Below w.heap.size w w' := by
 intro K
 induction K with
 | zero =>
  intro _ i a c w hb hE hD
  have hD : (Fs.nodeD l i).ents = [] := hD
  refine (height_step m nx l _ _ _ _ (Fs.nodeD l i).ents a c w (fun _ => 0) (h.below hb) hE (h.ok.small i) (by rw [hD]; intro e he; cases he)).mono ?_
  rintro e w' ⟨rfl, hb⟩
  rw [hD]
  exact ⟨rfl, hb⟩
 | succ K ih =>
  intro hK i a c w hb hE hD
  exact height_step m nx l _ _ _ _ (Fs.nodeD l i).ents a c w (fun e => Fs.deep l K e.2) (h.below hb) hE (h.ok.small i) fun e he => ⟨Nat.le_trans (deep_small _ _ _) (by omega), fun W a' c' hb' hE' => ih (by omega) e.2 a' c' W (hb.trans (hb'.mono hb.size)) hE' (hD e he)⟩
end Go.Proofs.YthehblmjloohiaaGreatDoor

namespace Go.Proofs.YthehblmjloohiaaGreatDoor
set_option maxRecDepth 100000
open Go.RowKit Go.Less
attribute [local go_sem 9000] sem_eql sem_neq
set_option maxHeartbeats 1000000 in
theorem count_any (s : ByteArray) (w : World) : Calls Tryz.prog 128 #[.string s, .string ⟨#[47]⟩] w fun e w' => e = .returned (.int .i64 (Lib.countByte s.data.toList 47)) ∧ w' = w := by
 go_enter Tryz.func128, Tryz.ntmps128
 go_wp2
 rw [run_callFunc_extern Tryz.func167 (by kernel_rfl) (by kernel_rfl) (by kernel_rfl) (e := Extern.BytealgCount.count) (by kernel_rfl), Lib.run_countString]
 simp only [Result.andThen]
 rw [Oper.upon_value]
 go_wp2
 go_ret
 exact ⟨rfl, rfl⟩
end Go.Proofs.YthehblmjloohiaaGreatDoor
