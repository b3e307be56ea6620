/- A part of the proofs. -/
import Derived.Test.YthbajmlmjjfgpaaGreatDoorC15
set_option maxRecDepth 1000000
namespace Fs
open Nd (En Node none0)
open Gr (go upd)
section
variable {E : Env} {f : FS}
theorem Half.gone (H : Half E f) {i : Int} (h : f.next <= i) : node f.l i = none := node_none.2 λy hy e => by have := (H.pos y hy).2; omega
theorem Half.next_pos (H : Half E f) : 1 < f.next := by
 obtain ⟨x, h, _⟩ := H.top
 exact (H.pos (1, x) (node_mem h)).2
theorem step_of_none {l : List Item} {i : Int} (h : node l i = none) (n : ByteArray) : step l i n = none := by unfold step; rw [h]; rfl
theorem Half.none_to (H : Half E f) {c : Int} (h : node f.l c = none) (i : Int) (n : ByteArray) : step f.l i n ≠ some c := λe => by
 have := H.there e
 rw [h] at this; cases this
theorem step_make {l : List Item} {i : Int} {x : Node} (h : node l i = none) (hx : x.ents = []) : step (setL l i x) = step l := by
 rw [step_set]
 funext k n
 split
 ·rename_i e; rw [e, step_of_none h, hx]; rfl
 ·rfl
theorem Half.make (H : Half E f) {x : Node} (hR : Nd.Right E.lt E.nm x) (hx : x.ents = []) (hl : f.l.length < 256) : Half E ⟨setL f.l f.next x, f.next + 1⟩ := by
 have hg := H.gone (Int.le_refl f.next)
 have hs := step_make (x := x) hg hx
 have h1 := H.next_pos
 refine ⟨rising_set H.inos (.inr λy hy => (H.pos y hy).2), λz hz => ?_, ?_, dir_set.2 (.inr ⟨by omega, H.top⟩), λ{k z} hz => ?_, λ{k n c} hc => ?_, ?_⟩
 ·rcases mem_set hz with rfl | ⟨hz, _⟩
  ·show 1 <= f.next /\ f.next < f.next + 1; omega
  ·have := H.pos z hz; show 1 <= z.1 /\ z.1 < f.next + 1; omega
 ·rw [len_set, hg]; show f.l.length + 1 <= 256; omega
 ·rw [node_set] at hz
  split at hz
  ·injection hz with hz; rw [<- hz]; exact hR
  ·exact H.right hz
 ·rw [hs] at hc
  rw [node_set]
  split
  ·rfl
  ·exact H.there hc
 ·rw [hs]
  refine H.tree.turn (λc hc => ?_) (λi n c _ hd => ?_)
  ·rcases dir_set.1 hc with ⟨rfl, _⟩ | ⟨_, hc⟩
   ·exact .inr (H.none_to hg)
   ·exact .inl hc
  ·refine dir_set.2 (.inr ⟨λe => ?_, hd⟩)
   obtain ⟨y, hy, _⟩ := hd
   rw [e, hg] at hy; cases hy
theorem Half.add (H : Half E f) (K : EnvOk E) {d c : Int} {n : ByteArray} {ps : List ByteArray} (hd : isDir f.l d) (hn : E.nm (Nd.bs n) = true) (hs : step f.l d n = none) (hl : (nodeD f.l d).ents.length < 64)
  (hc : (node f.l c).isSome = true) (hb : c <= 2147483647) (hp : go (step f.l) 1 ps = some d) (h1 : c ≠ 1) (hone : isDir f.l c -> ∀ i m, step f.l i m ≠ some c) (hout : ∀ qs, go (step f.l) c qs ≠ some d)
  (hdeep : ∀ qs j, go (step f.l) c qs = some j -> ps.length + 1 + qs.length <= 8) : Half E ⟨enter E f.l d n c, f.next⟩ /\ step (enter E f.l d n c) = upd (step f.l) d n (some c) /\ isDir (enter E f.l d n c) = isDir f.l := by
 obtain ⟨x, hx, hk⟩ := hd
 have hf : Nd.find x.ents n = none := by unfold step at hs; rw [hx] at hs; exact hs
 rw [nodeD_of hx] at hl
 have he := enter_is (E := E) (c := c) hx hk hn hf hl
 have hst : step (enter E f.l d n c) = upd (step f.l) d n (some c) := by rw [he]; exact step_enter hx hf
 have hdr : isDir (enter E f.l d n c) = isDir f.l := by rw [he]; exact dir_same hx rfl
 refine ⟨⟨?_, λz hz => ?_, ?_, by rw [hdr]; exact H.top, λ{k z} hz => ?_, λ{k m e} hm => ?_, ?_⟩, hst, hdr⟩
 ·rw [he]; exact rising_set H.inos (.inl (by rw [hx]; rfl))
 ·rw [he] at hz
  rcases mem_set hz with rfl | ⟨hz, _⟩
  ·exact H.pos (d, x) (node_mem hx)
  ·exact H.pos z hz
 ·rw [he, len_set, hx]; exact H.few
 ·rw [he, node_set] at hz
  split at hz
  ·injection hz with hz
   rw [<- hz]
   obtain ⟨y, hy⟩ := Option.isSome_iff_exists.1 hc
   exact Nd.right_ins K.rising (H.right hx) hk hn hf hl (H.pos (c, y) (node_mem hy)).1 hb
  ·exact H.right hz
 ·have hm : upd (step f.l) d n (some c) k m = some e := hst ▸ hm
  have key : (node f.l e).isSome = true := by
   unfold upd at hm
   split at hm
   ·injection hm with hm; rw [<- hm]; exact hc
   ·exact H.there hm
  rw [he, node_set]
  split
  ·rfl
  ·exact key
 ·rw [hdr, hst]
  exact H.tree.add ⟨x, hx, hk⟩ hp h1 hone hout hdeep
theorem Half.less (H : Half E f) (K : EnvOk E) {d c : Int} {n : ByteArray} (hs : step f.l d n = some c) : Half E ⟨leave f.l d n, f.next⟩ /\ step (leave f.l d n) = upd (step f.l) d n none /\ isDir (leave f.l d n) = isDir f.l := by
 obtain ⟨x, hx, hk, hf⟩ := H.step_dir hs
 have he := leave_is (n := n) hx hk (by rw [hf]; rfl)
 have hst : step (leave f.l d n) = upd (step f.l) d n none := by rw [he]; exact step_leave K.rising hx ((Nd.rises_iff K.rising _).1 (H.right hx).rise)
 have hdr : isDir (leave f.l d n) = isDir f.l := by rw [he]; exact dir_same hx rfl
 refine ⟨⟨?_, λz hz => ?_, ?_, by rw [hdr]; exact H.top, λ{k z} hz => ?_, λ{k m e} hm => ?_, ?_⟩, hst, hdr⟩
 ·rw [he]; exact rising_set H.inos (.inl (by rw [hx]; rfl))
 ·rw [he] at hz
  rcases mem_set hz with rfl | ⟨hz, _⟩
  ·exact H.pos (d, x) (node_mem hx)
  ·exact H.pos z hz
 ·rw [he, len_set, hx]; exact H.few
 ·rw [he, node_set] at hz
  split at hz
  ·injection hz with hz; rw [<- hz]; exact right_cut K.rising (H.right hx) n
  ·exact H.right hz
 ·have hm : upd (step f.l) d n none k m = some e := hst ▸ hm
  rw [he, node_set]
  split
  ·rfl
  ·exact H.there (Gr.upd_less _ _ _ hm)
 ·rw [hdr, hst]
  exact H.tree.sub Gr.upd_less
theorem Half.drop (H : Half E f) {i : Int} (h1 : i ≠ 1) (hno : ∀ n, step f.l i n = none) (hto : ∀ k n, step f.l k n ≠ some i) : Half E ⟨dropL f.l i, f.next⟩ /\ step (dropL f.l i) = step f.l := by
 have hs := step_drop hno
 have hdir : ∀ k, isDir (dropL f.l i) k ↔ k ≠ i /\ isDir f.l k := λk => by
  unfold isDir
  rw [node_drop]
  by_cases hk : k = i
  ·rw [if_pos hk]
   constructor
   ·rintro ⟨x, h, _⟩; cases h
   ·rintro ⟨h, _⟩; exact absurd hk h
  ·rw [if_neg hk]
   exact ⟨λh => ⟨hk, h⟩, λh => h.2⟩
 refine ⟨⟨rising_drop H.inos i, λz hz => H.pos z (List.mem_filter.1 hz).1, Nat.le_trans (len_drop _ _) H.few, (hdir 1).2 ⟨λe => h1 e.symm, H.top⟩, λ{k z} hz => ?_, λ{k m e} hm => ?_, ?_⟩, hs⟩
 ·rw [node_drop] at hz
  split at hz
  ·cases hz
  ·exact H.right hz
 ·rw [hs] at hm
  rw [node_drop, if_neg (λ(e' : e = i) => hto k m (e' ▸ hm))]
  exact H.there hm
 ·rw [hs]
  refine H.tree.turn (λc hc => .inl ((hdir c).1 hc).2) (λk n c hk hd => (hdir k).2 ⟨λe => ?_, hd⟩)
  rw [e, hno] at hk; cases hk
end
theorem some_set {l : List Item} {i k : Int} {x : Node} : (node (setL l i x) k).isSome = true ↔ k = i \/ (node l k).isSome = true := by
 rw [node_set]
 by_cases h : k = i
 ·simp [h]
 ·simp [h]
theorem some_of {l : List Item} {i : Int} {x : Node} (h : node l i = some x) : (node l i).isSome = true := by rw [h]; rfl
theorem go_fun {s : Gr.Step} {i j k : Int} {ns : List ByteArray} (h : go s i ns = some j) (h' : go s i ns = some k) : j = k := by rw [h] at h'; injection h'
section
variable {E : Env} {f : FS}
theorem enter_eq {l : List Item} {d c : Int} {n : ByteArray} (hd : isDir l d) (hn : E.nm (Nd.bs n) = true) (hs : step l d n = none) (hl : (nodeD l d).ents.length < 64) : ∃ x, node l d = some x /\ x.kind = 2 /\ enter E l d n c = setL l d { x with ents := Nd.ins E.lt x.ents n c } := by
 obtain ⟨x, hx, hk⟩ := hd
 rw [nodeD_of hx] at hl
 exact ⟨x, hx, hk, enter_is hx hk hn (by unfold step at hs; rw [hx] at hs; exact hs) hl⟩
theorem Half.leave_eq (H : Half E f) {d c : Int} {n : ByteArray} (hs : step f.l d n = some c) : ∃ x, node f.l d = some x /\ x.kind = 2 /\ Nd.find x.ents n = some c /\ leave f.l d n = setL f.l d { x with ents := Nd.cut x.ents n } := by
 obtain ⟨x, hx, hk, hf⟩ := H.step_dir hs
 exact ⟨x, hx, hk, hf, leave_is hx hk (by rw [hf]; rfl)⟩
theorem Half.some_leave (H : Half E f) {d c : Int} {n : ByteArray} (hs : step f.l d n = some c) (k : Int) : (node (leave f.l d n) k).isSome = true ↔ (node f.l k).isSome = true := by
 obtain ⟨x, hx, _, _, he⟩ := H.leave_eq hs
 rw [he, some_set]
 constructor
 ·rintro (rfl | h)
  ·exact some_of hx
  ·exact h
 ·exact .inr
theorem some_enter {l : List Item} {d c : Int} {n : ByteArray} (hd : isDir l d) (hn : E.nm (Nd.bs n) = true) (hs : step l d n = none) (hl : (nodeD l d).ents.length < 64) (k : Int) : (node (enter E l d n c) k).isSome = true ↔ (node l k).isSome = true := by
 obtain ⟨x, hx, _, he⟩ := enter_eq (c := c) hd hn hs hl
 rw [he, some_set]
 constructor
 ·rintro (rfl | h)
  ·exact some_of hx
  ·exact h
 ·exact .inr
theorem Good.reach' (G : Good E f) {i : Int} (h : (node f.l i).isSome = true) : ∃ ns, go (step f.l) 1 ns = some i := by
 obtain ⟨x, hx⟩ := Option.isSome_iff_exists.1 h
 exact G.reach hx
theorem Good.of_half {g : FS} (H : Half E g) (h : ∀ k, (node g.l k).isSome = true -> ∃ ns, go (step g.l) 1 ns = some k) : Good E g := ⟨H, λhz => h _ (some_of hz)⟩
theorem create_good (K : EnvOk E) (G : Good E f) (hb : f.next <= 2147483647) {o : Op} {az : List ByteArray} (h8 : az.length <= 8) (hnm : ∀ n ∈ az, E.nm (Nd.bs n) = true) {g : FS} (h : create E f o az = .ok g) : Good E g /\ g.next = f.next + 1 := by
 have H := G.toHalf
 unfold create at h
 cases hf : fresh f.l az with
 | error e => rw [hf] at h; cases h
 | ok r =>
  obtain ⟨d, n⟩ := r
  obtain ⟨ps, rfl, hp, hd, hs⟩ := H.fresh_iff.1 hf
  rw [hf] at h
  simp only at h
  split at h
  ·cases h
  rename_i hR
  split at h
  ·cases h
  rename_i hl
  split at h
  ·cases h
  rename_i hfew
  injection h with h
  subst h
  refine ⟨?_, rfl⟩
  have hx : (madeNode o).ents = [] := by unfold madeNode; split <;> rfl
  have hR : Nd.Right E.lt E.nm (madeNode o) := (Nd.right_iff _).1 (by simpa using hR)
  have H1 := H.make hR hx (by omega)
  have hg := H.gone (Int.le_refl f.next)
  have hst := step_make (x := madeNode o) hg hx
  have hdn : d ≠ f.next := λe => by
   obtain ⟨y, hy, _⟩ := hd
   rw [e, hg] at hy; cases hy
  have hd1 : isDir (setL f.l f.next (madeNode o)) d := dir_set.2 (.inr ⟨hdn, hd⟩)
  have hD : nodeD (setL f.l f.next (madeNode o)) d = nodeD f.l d := by unfold nodeD; rw [node_set, if_neg hdn]
  have hn1 := hnm n (by simp)
  have hleaf : ∀ m, step f.l f.next m = none := step_of_none hg
  have h1 := H.next_pos
  have A := H1.add K (d := d) (c := f.next) (n := n) (ps := ps) hd1 hn1 (by show step (setL f.l f.next (madeNode o)) d n = none; rw [hst]; exact hs) (by show (nodeD (setL f.l f.next (madeNode o)) d).ents.length < 64; rw [hD]; omega)
   (some_set.2 (.inl rfl)) hb (by show go (step (setL f.l f.next (madeNode o))) 1 ps = some d; rw [hst]; exact hp) (by omega)
   (λ_ i m => by show step (setL f.l f.next (madeNode o)) i m ≠ _; rw [hst]; exact H.none_to hg i m)
   (λqs hq => by
    have hq : go (step (setL f.l f.next (madeNode o))) f.next qs = some d := hq
    rw [hst] at hq
    exact hdn (Gr.go_leaf hleaf hq).2)
   (λqs j hq => by
    have hq : go (step (setL f.l f.next (madeNode o))) f.next qs = some j := hq
    rw [hst] at hq
    rw [(Gr.go_leaf hleaf hq).1]
    simp at h8 |-; omega)
  refine Good.of_half A.1 λk hk => ?_
  have hk : (node (enter E (setL f.l f.next (madeNode o)) d n f.next) k).isSome = true := hk
  rw [some_enter hd1 hn1 (by rw [hst]; exact hs) (by rw [hD]; omega), some_set] at hk
  show ∃ ns, go (step (enter E (setL f.l f.next (madeNode o)) d n f.next)) 1 ns = some k
  have hst2 : step (enter E (setL f.l f.next (madeNode o)) d n f.next) = upd (step f.l) d n (some f.next) := A.2.1.trans (by show upd (step (setL f.l f.next (madeNode o))) d n _ = _; rw [hst])
  rw [hst2]
  rcases hk with rfl | hk
  ·exact ⟨ps ++ [n], Gr.go_snoc.2 ⟨d, Gr.go_less (Gr.upd_more hs) hp, Gr.upd_same ..⟩⟩
  ·obtain ⟨ns, hns⟩ := G.reach' hk
   exact ⟨ns, Gr.go_less (Gr.upd_more hs) hns⟩
theorem link_good (K : EnvOk E) (G : Good E f) (hb : f.next <= 2147483647) {az bs : List ByteArray} (h8 : bs.length <= 8) (hnm : ∀ n ∈ bs, E.nm (Nd.bs n) = true) {g : FS} (h : link E f az bs = .ok g) : Good E g /\ g.next = f.next := by
 have H := G.toHalf
 unfold link at h
 cases hw : walk f.l 1 az with
 | error e => rw [hw] at h; cases h
 | ok i =>
  rw [hw] at h
  simp only at h
  split at h
  ·cases h
  rename_i hk
  cases hf : fresh f.l bs with
  | error e => rw [hf] at h; cases h
  | ok r =>
   obtain ⟨d, n⟩ := r
   obtain ⟨ps, rfl, hp, hd, hs⟩ := H.fresh_iff.1 hf
   rw [hf] at h
   simp only at h
   split at h
   ·cases h
   rename_i hl
   injection h with h
   subst h
   refine ⟨?_, rfl⟩
   obtain ⟨x, hx, _⟩ := H.walk_node hw
   have hnd : ¬ isDir f.l i := λe => hk (dir_iff.1 e)
   have hleaf := H.step_none hnd
   have hn1 := hnm n (by simp)
   have A := H.add K hd hn1 hs (by omega) (some_of hx) (by have := (H.pos (i, x) (node_mem hx)).2; simp only at this; omega) hp (λe => hnd (e ▸ H.top)) (λe => absurd e hnd)
    (λqs hq => hnd ((Gr.go_leaf hleaf hq).2 ▸ hd)) (λqs j hq => by rw [(Gr.go_leaf hleaf hq).1]; simp at h8 |-; omega)
   refine Good.of_half A.1 λk hk => ?_
   have hk : (node (enter E f.l d n i) k).isSome = true := hk
   rw [some_enter hd hn1 hs (by omega)] at hk
   obtain ⟨ns, hns⟩ := G.reach' hk
   refine ⟨ns, ?_⟩
   show go (step (enter E f.l d n i)) 1 ns = some k
   rw [A.2.1]
   exact Gr.go_less (Gr.upd_more hs) hns
theorem Half.place_step (H : Half E f) {az : List ByteArray} {i d : Int} {n : ByteArray} (hw : walk f.l 1 az = .ok i) (hp : place f.l az = .ok (d, n)) : ∃ ps, az = ps ++ [n] /\ go (step f.l) 1 ps = some d /\ step f.l d n = some i := by
 obtain ⟨ps, rfl, h1, _⟩ := H.place_iff.1 hp
 obtain ⟨k, h2, h3⟩ := Gr.go_snoc.1 (H.walk_iff.1 hw)
 obtain rfl := go_fun h1 h2
 exact ⟨ps, rfl, h1, h3⟩
theorem countP_zero {l : List Item} {i : Int} : links l i = 0 ↔ ∀ y ∈ l, ∀ e ∈ y.2.ents, e.2 ≠ i := by
 unfold links
 induction l with
 | nil => simp
 | cons y l ih =>
  rw [List.map_cons, List.sum_cons, Nat.add_eq_zero_iff, ih, List.countP_eq_zero]
  simp
theorem Half.links_iff (H : Half E f) (K : EnvOk E) {i : Int} : links f.l i = 0 ↔ ∀ k m, step f.l k m ≠ some i := by
 rw [countP_zero]
 constructor
 ·intro h k m e
  obtain ⟨x, hx, hf⟩ := step_iff.1 e
  exact h (k, x) (node_mem hx) (m, i) (Nd.find_mem hf) rfl
 ·intro h y hy e he hi
  have hx := node_at H.inos (i := y.1) (x := y.2) hy
  exact h y.1 e.1 (step_iff.2 ⟨y.2, hx, by rw [Nd.find_at K.rising ((Nd.rises_iff K.rising _).1 (H.right hx).rise) he, hi]⟩)
theorem unlink_good (K : EnvOk E) (G : Good E f) {az : List ByteArray} {g : FS} (h : unlink f az = .ok g) : Good E g /\ g.next = f.next := by
 have H := G.toHalf
 unfold unlink at h
 cases hw : walk f.l 1 az with
 | error e => rw [hw] at h; cases h
 | ok i =>
  rw [hw] at h
  simp only at h
  split at h
  ·cases h
  rename_i hk
  cases hp : place f.l az with
  | error e => rw [hp] at h; cases h
  | ok r =>
   obtain ⟨d, n⟩ := r
   rw [hp] at h
   simp only at h
   injection h with h
   subst h
   refine ⟨?_, rfl⟩
   obtain ⟨ps, rfl, hgo, hs⟩ := H.place_step hw hp
   obtain ⟨H1, hst, hdr⟩ := H.less K hs
   have hnd : ¬ isDir f.l i := λe => hk (dir_iff.1 e)
   have hleaf := H.step_none hnd
   have hnd1 : ¬ isDir (leave f.l d n) i := by rw [hdr]; exact hnd
   have hkeep : ∀ k, k ≠ i -> (node (leave f.l d n) k).isSome = true -> ∃ ns, go (upd (step f.l) d n none) 1 ns = some k := λk hki hk => by
    obtain ⟨ns, hns⟩ := G.reach' ((H.some_leave hs k).1 hk)
    rcases Gr.go_cut hns hs with h | ⟨_, qs, _, _, hq⟩
    ·exact ⟨ns, h⟩
    ·exact absurd (Gr.go_leaf hleaf hq).2 hki
   split
   ·rename_i h0
    have hto := (H1.links_iff K).1 h0
    obtain ⟨H2, hst2⟩ := H1.drop (i := i) (λe => hnd (e ▸ H.top)) (H1.step_none hnd1) hto
    refine Good.of_half H2 λk hk => ?_
    have hk : (node (dropL (leave f.l d n) i) k).isSome = true := hk
    have hst3 : step (dropL (leave f.l d n) i) = upd (step f.l) d n none := hst2.trans hst
    rw [node_drop] at hk
    split at hk
    ·cases hk
    ·rename_i hki
     obtain ⟨ns, hns⟩ := hkeep k hki hk
     exact ⟨ns, by show go (step (dropL (leave f.l d n) i)) 1 ns = some k; rw [hst3]; exact hns⟩
   ·rename_i h0
    refine Good.of_half H1 λk hk => ?_
    show ∃ ns, go (step (leave f.l d n)) 1 ns = some k
    rw [hst]
    by_cases hki : k = i
    ·subst hki
     have hex : ∃ j m, step (leave f.l d n) j m = some k := by
      refine Classical.byContradiction λhno => h0 ((H1.links_iff K).2 λj m e => hno ⟨j, m, e⟩)
     obtain ⟨j, m, hj⟩ := hex
     have hjd := H1.tree.leaf hj
     rw [hdr] at hjd
     have hjk : j ≠ k := λe => hnd (e ▸ hjd)
     obtain ⟨y, hy, _⟩ := hjd
     obtain ⟨ns, hns⟩ := hkeep j hjk ((H.some_leave hs j).2 (some_of hy))
     exact ⟨ns ++ [m], Gr.go_snoc.2 ⟨j, hns, hst ▸ hj⟩⟩
    ·exact hkeep k hki hk
theorem rmdir_good (K : EnvOk E) (G : Good E f) {az : List ByteArray} {g : FS} (h : rmdir f az = .ok g) : Good E g /\ g.next = f.next := by
 have H := G.toHalf
 unfold rmdir at h
 cases hw : walk f.l 1 az with
 | error e => rw [hw] at h; cases h
 | ok i =>
  rw [hw] at h
  simp only at h
  split at h
  ·cases h
  rename_i hk
  split at h
  ·cases h
  rename_i h1
  split at h
  ·cases h
  rename_i hemp
  cases hp : place f.l az with
  | error e => rw [hp] at h; cases h
  | ok r =>
   obtain ⟨d, n⟩ := r
   rw [hp] at h
   simp only at h
   injection h with h
   subst h
   refine ⟨?_, rfl⟩
   obtain ⟨ps, rfl, hgo, hs⟩ := H.place_step hw hp
   obtain ⟨H1, hst, hdr⟩ := H.less K hs
   have hid : isDir f.l i := dir_iff.2 (by simpa using hk)
   have hleaf : ∀ m, step f.l i m = none := λm => by
    rw [<- dir_find m hid, show (nodeD f.l i).ents = [] by simpa using hemp]; rfl
   have hleaf1 : ∀ m, step (leave f.l d n) i m = none := λm => by
    rw [hst]
    cases hq : upd (step f.l) d n none i m with
    | none => rfl
    | some c => have := Gr.upd_less _ _ _ hq; rw [hleaf] at this; cases this
   have hto : ∀ k m, step (leave f.l d n) k m ≠ some i := λk m e => by
    rw [hst] at e
    obtain ⟨rfl, rfl⟩ := H.tree.one hid hs (Gr.upd_less _ _ _ e)
    rw [Gr.upd_same] at e; cases e
   obtain ⟨H2, hst2⟩ := H1.drop (i := i) h1 hleaf1 hto
   have hst3 : step (dropL (leave f.l d n) i) = upd (step f.l) d n none := hst2.trans hst
   refine Good.of_half H2 λk hk => ?_
   have hk : (node (dropL (leave f.l d n) i) k).isSome = true := hk
   rw [node_drop] at hk
   split at hk
   ·cases hk
   ·rename_i hki
    obtain ⟨ns, hns⟩ := G.reach' ((H.some_leave hs k).1 hk)
    refine ⟨ns, ?_⟩
    show go (step (dropL (leave f.l d n) i)) 1 ns = some k
    rw [hst3]
    rcases Gr.go_cut hns hs with h | ⟨_, qs, _, _, hq⟩
    ·exact h
    ·exact absurd (Gr.go_leaf hleaf hq).2 hki
end
theorem fold_max {l : List En} (g : En -> Nat) : ∀ a, a <= l.foldl (λn e => max n (g e)) a /\ ∀ e ∈ l, g e <= l.foldl (λn e => max n (g e)) a := by
 induction l with
 | nil => exact λa => ⟨Nat.le_refl _, λe he => by cases he⟩
 | cons x l ih =>
  intro a
  obtain ⟨h1, h2⟩ := ih (max a (g x))
  refine ⟨Nat.le_trans (Nat.le_max_left _ _) h1, λe he => ?_⟩
  rcases List.mem_cons.1 he with rfl | he
  ·exact Nat.le_trans (Nat.le_max_right _ _) h1
  ·exact h2 e he
theorem deep_ge {l : List Item} : ∀ (k : Nat) {i j : Int} {rs : List ByteArray}, go (step l) i rs = some j -> rs.length <= k -> rs.length <= deep l k i := by
 intro k
 induction k with
 | zero => intro i j rs _ h; exact Nat.le_trans h (Nat.zero_le _)
 | succ k ih =>
  intro i j rs h hk
  cases rs with
  | nil => exact Nat.zero_le _
  | cons n rs =>
   obtain ⟨c, h1, h2⟩ := Gr.go_cons.1 h
   obtain ⟨x, hx, hf⟩ := step_iff.1 h1
   have h3 := ih h2 (by simpa using hk)
   have h4 := (fold_max (l := x.ents) (λe => 1 + deep l k e.2) 0).2 (n, c) (Nd.find_mem hf)
   show rs.length + 1 <= (nodeD l i).ents.foldl (λn e => max n (1 + deep l k e.2)) 0
   rw [nodeD_of hx]
   simp only at h4
   omega
theorem prefix_iff (x y : List ByteArray) : y.take x.length = x ↔ ∃ z, y = x ++ z :=
 ⟨λh => ⟨y.drop x.length, by conv => lhs; rw [<- List.take_append_drop x.length y, h]⟩, λ⟨z, h⟩ => by rw [h]; exact List.take_left⟩
theorem cut_less {l : List En} {k : ByteArray} {c : Int} (h : Nd.find l k = some c) : (Nd.cut l k).length + 1 = l.length := by
 induction l with
 | nil => cases h
 | cons x l ih =>
  unfold Nd.find at h
  unfold Nd.cut
  by_cases hx : x.1 = k
  ·rw [if_pos hx]; rfl
  ·rw [if_neg hx] at h |-
   rw [List.length_cons, List.length_cons, ih h]
structure Moved (f : FS) (az bs : List ByteArray) (i c d : Int) (ps qs : List ByteArray) (m n : ByteArray) : Prop where
 a_is : az = ps ++ [m]
 b_is : bs = qs ++ [n]
 c_at : go (step f.l) 1 ps = some c
 d_at : go (step f.l) 1 qs = some d
 was : step f.l c m = some i
 free : step f.l d n = none
 dir : isDir f.l d
 notTop : i ≠ 1
 out : isDir f.l i -> ∀ z, bs ≠ az ++ z
 room : (nodeD f.l d).ents.length < 64 \/ c = d
 short : bs.length + deep f.l 9 i <= 8
section
variable {E : Env} {f : FS}
theorem rename_met (G : Half E f) {az bs : List ByteArray} {g : FS} (h : rename E f az bs = .ok g) : ∃ i c d ps qs m n, Moved f az bs i c d ps qs m n /\ walk f.l 1 az = .ok i /\ g = ⟨enter E (leave f.l c m) d n i, f.next⟩ := by
 unfold rename at h
 cases hw : walk f.l 1 az with
 | error e => rw [hw] at h; cases h
 | ok i =>
  rw [hw] at h
  simp only at h
  split at h
  ·cases h
  rename_i h1
  split at h
  ·cases h
  rename_i h2
  cases hf : fresh f.l bs with
  | error e => rw [hf] at h; cases h
  | ok r =>
   obtain ⟨d, n⟩ := r
   obtain ⟨qs, rfl, hq, hd, hs⟩ := G.fresh_iff.1 hf
   rw [hf] at h
   simp only at h
   cases hp : place f.l az with
   | error e => rw [hp] at h; cases h
   | ok r =>
    obtain ⟨c, m⟩ := r
    rw [hp] at h
    simp only at h
    split at h
    ·cases h
    rename_i h3
    injection h with h
    obtain ⟨ps, rfl, hgo, hst⟩ := G.place_step hw hp
    refine ⟨i, c, d, ps, qs, m, n, ⟨rfl, rfl, hgo, hq, hst, hs, hd, h1, λhid z e => h2 ⟨dir_iff.1 hid, (prefix_iff _ _).2 ⟨z, e⟩⟩, ?_, by omega⟩, rfl, h.symm⟩
    by_cases e : c = d
    ·exact .inr e
    ·exact .inl (by omega)
variable {az bs : List ByteArray} {i c d : Int} {ps qs : List ByteArray} {m n : ByteArray}
theorem Moved.out_way (M : Moved f az bs i c d ps qs m n) (H : Half E f) {rs : List ByteArray} : go (step f.l) i rs ≠ some d := λhr => by
 by_cases hid : isDir f.l i
 ·have h1 : go (step f.l) 1 (az ++ rs) = some d := by
   rw [M.a_is]
   exact Gr.go_append_iff.2 ⟨i, Gr.go_snoc.2 ⟨c, M.c_at, M.was⟩, hr⟩
  have := H.tree.path M.dir M.d_at h1
  exact M.out hid (rs ++ [n]) (by rw [M.b_is, this, List.append_assoc])
 ·exact hid ((Gr.go_leaf (H.step_none hid) hr).2 ▸ M.dir)
theorem Moved.way (M : Moved f az bs i c d ps qs m n) (H : Half E f) : go (upd (step f.l) c m none) 1 qs = some d := by
 rcases Gr.go_cut M.d_at M.was with h | ⟨_, rs, _, _, h⟩
 ·exact h
 ·exact absurd h (M.out_way H)
theorem Moved.below (M : Moved f az bs i c d ps qs m n) (H : Half E f) {rs : List ByteArray} {j : Int} (h : go (step f.l) i rs = some j) : go (upd (step f.l) c m none) i rs = some j := by
 rcases Gr.go_cut h M.was with h | ⟨r1, _, _, h1, _⟩
 ·exact h
 ·exact absurd (Gr.go_less Gr.upd_less h1) (H.tree.ahead M.c_at M.was)
theorem Moved.free' (M : Moved f az bs i c d ps qs m n) : upd (step f.l) c m none d n = none := by
 cases hq : upd (step f.l) c m none d n with
 | none => rfl
 | some k => have := Gr.upd_less _ _ _ hq; rw [M.free] at this; cases this
theorem Moved.ne (M : Moved f az bs i c d ps qs m n) : ¬ (d = c /\ n = m) := λe => by
 have := M.free
 rw [e.1, e.2, M.was] at this; cases this
structure Behind (E : Env) (f : FS) (c d i : Int) (m n : ByteArray) : Prop where
 good : Good E ⟨enter E (leave f.l c m) d n i, f.next⟩
 steps : step (enter E (leave f.l c m) d n i) = upd (upd (step f.l) c m none) d n (some i)
 dirs : isDir (enter E (leave f.l c m) d n i) = isDir f.l
 has : ∀ k, (node (enter E (leave f.l c m) d n i) k).isSome = true ↔ (node f.l k).isSome = true
theorem Moved.behind (M : Moved f az bs i c d ps qs m n) (K : EnvOk E) (G : Good E f) (hb : f.next <= 2147483647) (hnm : ∀ k ∈ bs, E.nm (Nd.bs k) = true) : Behind E f c d i m n := by
 have H := G.toHalf
 obtain ⟨H1, hst, hdr⟩ := H.less K M.was
 have hi := H.there M.was
 obtain ⟨xi, hxi⟩ := Option.isSome_iff_exists.1 hi
 have hsome := H.some_leave M.was
 have hd1 : isDir (leave f.l c m) d := by rw [hdr]; exact M.dir
 have hn1 : E.nm (Nd.bs n) = true := hnm n (by rw [M.b_is]; simp)
 have hs1 : step (leave f.l c m) d n = none := by rw [hst]; exact M.free'
 have hl1 : (nodeD (leave f.l c m) d).ents.length < 64 := by
  obtain ⟨x, hx, hk, hf, he⟩ := H.leave_eq M.was
  by_cases e : d = c
  ·subst e
   have : node (leave f.l d m) d = some { x with ents := Nd.cut x.ents m } := by rw [he, node_set, if_pos rfl]
   rw [nodeD_of this]
   have h1 := cut_less hf
   have h2 := (H.right hx).len
   show (Nd.cut x.ents m).length < 64
   omega
  ·have : nodeD (leave f.l c m) d = nodeD f.l d := by unfold nodeD; rw [he, node_set, if_neg e]
   rw [this]
   rcases M.room with h | h
   ·exact h
   ·exact absurd h.symm e
 have A := H1.add K (d := d) (c := i) (n := n) (ps := qs) hd1 hn1 hs1 hl1 ((hsome i).2 hi) (by have := (H.pos (i, xi) (node_mem hxi)).2; simp only at this; omega)
  (by show go (step (leave f.l c m)) 1 qs = some d; rw [hst]; exact M.way H) M.notTop
  (λhid k m' e => by
   have hid : isDir (leave f.l c m) i := hid
   have e : step (leave f.l c m) k m' = some i := e
   rw [hdr] at hid
   rw [hst] at e
   obtain ⟨rfl, rfl⟩ := H.tree.one hid M.was (Gr.upd_less _ _ _ e)
   rw [Gr.upd_same] at e; cases e)
  (λrs hr => by
   have hr : go (step (leave f.l c m)) i rs = some d := hr
   rw [hst] at hr
   exact M.out_way H (Gr.go_less Gr.upd_less hr))
  (λrs j hr => by
   have hr : go (step (leave f.l c m)) i rs = some j := hr
   rw [hst] at hr
   have hr := Gr.go_less Gr.upd_less hr
   have h8 := H.tree.deep (Gr.go_append_iff.2 ⟨i, Gr.go_snoc.2 ⟨c, M.c_at, M.was⟩, hr⟩)
   rw [List.length_append] at h8
   have h9 := deep_ge 9 hr (by omega)
   have h10 := M.short
   rw [M.b_is, List.length_append, List.length_singleton] at h10
   omega)
 have hstep : step (enter E (leave f.l c m) d n i) = upd (upd (step f.l) c m none) d n (some i) := A.2.1.trans (by show upd (step (leave f.l c m)) d n _ = _; rw [hst])
 have hhas : ∀ k, (node (enter E (leave f.l c m) d n i) k).isSome = true ↔ (node f.l k).isSome = true := λk => (some_enter hd1 hn1 hs1 hl1 k).trans (hsome k)
 refine ⟨Good.of_half A.1 λk hk => ?_, hstep, A.2.2.trans hdr, hhas⟩
 obtain ⟨ns, hns⟩ := G.reach' ((hhas k).1 hk)
 show ∃ ns, go (step (enter E (leave f.l c m) d n i)) 1 ns = some k
 rw [hstep]
 have up := Gr.upd_more (v := some i) M.free'
 rcases Gr.go_cut hns M.was with h | ⟨_, rs, _, _, h⟩
 ·exact ⟨ns, Gr.go_less up h⟩
 ·exact ⟨qs ++ n :: rs, Gr.go_append_iff.2 ⟨d, Gr.go_less up (M.way H), Gr.go_cons.2 ⟨i, Gr.upd_same .., Gr.go_less up (M.below H h)⟩⟩⟩
theorem file_met (H : Half E f) {az : List ByteArray} {i : Int} {x : Node} (h : file f.l az = .ok (i, x)) : walk f.l 1 az = .ok i /\ node f.l i = some x /\ x.kind = 1 := by
 unfold file at h
 cases hw : walk f.l 1 az with
 | error e => rw [hw] at h; cases h
 | ok k =>
  rw [hw] at h
  simp only at h
  split at h
  ·cases h
  rename_i h2
  split at h
  ·cases h
  rename_i h3
  injection h with h
  injection h with h4 h5
  subst h4
  obtain ⟨y, hy, hD⟩ := H.walk_node hw
  rw [hD] at h2 h3 h5
  subst h5
  refine ⟨rfl, hy, ?_⟩
  rcases (H.right hy).kinds with ⟨e, _⟩ | ⟨e, _⟩ | ⟨e, _⟩
  ·exact e
  ·exact absurd e h2
  ·exact absurd e h3
theorem edit_good (G : Good E f) {az : List ByteArray} {gg : Node -> Except Int ByteArray} (hgg : ∀ x s, x.data.size <= 4096 -> gg x = .ok s -> s.size <= 4096) {g : FS} (h : edit f az gg = .ok g) : Good E g /\ g.next = f.next := by
 unfold edit at h
 cases hf : file f.l az with
 | error e => rw [hf] at h; cases h
 | ok r =>
  obtain ⟨i, x⟩ := r
  obtain ⟨hw, hx, hk⟩ := file_met G.toHalf hf
  rw [hf] at h
  simp only at h
  cases hg : gg x with
  | error e => rw [hg] at h; cases h
  | ok s =>
   rw [hg] at h
   simp only at h
   injection h with h
   subst h
   refine ⟨G.same hx rfl rfl ?_, rfl⟩
   have R := G.right hx
   refine ⟨R.m0, R.m1, R.len, R.ok, R.rise, ?_⟩
   rcases R.kinds with ⟨h1, h2, h3, h4⟩ | ⟨h1, _⟩ | ⟨h1, _⟩
   ·exact .inl ⟨h1, h2, h3, hgg x s h4 hg⟩
   ·omega
   ·omega
theorem asked_ok {r : ByteArray × Int} {s : ByteArray} (h : asked r = .ok s) : r.2 = 0 /\ r.1 = s := by
 unfold asked at h
 split at h
 ·cases h
 ·rename_i e
  injection h with h
  exact ⟨by simpa using e, h⟩
theorem bytes_good (K : EnvOk E) (G : Good E f) {o : Op} {az bs : List ByteArray} {g : FS} (h : bytes E f o az bs = .ok g) : Good E g /\ g.next = f.next := by
 refine edit_good G (λx s hx hs => ?_) h
 split at hs
 ·obtain ⟨h1, h2⟩ := asked_ok hs
  rw [<- h2]; exact K.put _ _ _ hx h1
 ·split at hs
  ·obtain ⟨h1, h2⟩ := asked_ok hs
   rw [<- h2]; exact K.trunc _ _ h1
  ·cases hf : file f.l bs with
   | error e => rw [hf] at hs; cases hs
   | ok r =>
    rw [hf] at hs
    obtain ⟨h1, h2⟩ := asked_ok hs
    rw [<- h2]; exact K.copy _ _ _ _ _ hx h1
theorem chmod_good (G : Good E f) {o : Op} {az : List ByteArray} {g : FS} (h : chmod f o az = .ok g) : Good E g /\ g.next = f.next := by
 unfold chmod at h
 cases hw : walk f.l 1 az with
 | error e => rw [hw] at h; cases h
 | ok i =>
  rw [hw] at h
  simp only at h
  split at h
  ·cases h
  rename_i hN
  injection h with h
  subst h
  obtain ⟨x, hx, hD⟩ := G.toHalf.walk_node hw
  rw [hD]
  have R := G.right hx
  exact ⟨G.same hx rfl rfl ⟨by show 0 <= o.n; omega, by show o.n <= 511; omega, R.len, R.ok, R.rise, R.kinds⟩, rfl⟩
theorem rename_good (K : EnvOk E) (G : Good E f) (hb : f.next <= 2147483647) {az bs : List ByteArray} (hnm : ∀ n ∈ bs, E.nm (Nd.bs n) = true) {g : FS} (h : rename E f az bs = .ok g) : Good E g /\ g.next = f.next := by
 obtain ⟨i, c, d, ps, qs, m, n, M, _, rfl⟩ := rename_met G.toHalf h
 exact ⟨(M.behind K G hb hnm).good, rfl⟩
theorem act_good (K : EnvOk E) (G : Good E f) (hb : f.next <= 2147483647) {o : Op} {g : FS} (h : act E f o = .ok g) : Good E g /\ (g.next = f.next \/ g.next = f.next + 1) := by
 have keep : ∀ {g : FS}, Good E g /\ g.next = f.next -> Good E g /\ (g.next = f.next \/ g.next = f.next + 1) := λh => ⟨h.1, .inl h.2⟩
 unfold act at h
 split at h
 ·cases h
 cases ha : E.sp o.a with
 | none => rw [ha] at h; cases h
 | some az =>
  rw [ha] at h
  simp only at h
  split at h
  ·cases h
  rename_i hB
  have hbs : (o.kind = 4 \/ o.kind = 7 \/ o.kind = 10) -> ((E.sp o.b).getD []).length <= 8 /\ ∀ n ∈ (E.sp o.b).getD [], E.nm (Nd.bs n) = true := λhk => by
   cases hb : E.sp o.b with
   | none => exact absurd ⟨hk, hb⟩ hB
   | some bs => exact ⟨K.few hb, K.names hb⟩
  split at h
  ·have := create_good K G hb (K.few ha) (K.names ha) h
   exact ⟨this.1, .inr this.2⟩
  split at h
  ·exact keep (bytes_good K G h)
  split at h
  ·rename_i hk
   exact keep (link_good K G hb (hbs (.inl hk)).1 (hbs (.inl hk)).2 h)
  split at h
  ·exact keep (unlink_good K G h)
  split at h
  ·exact keep (rmdir_good K G h)
  split at h
  ·rename_i hk
   exact keep (rename_good K G hb (hbs (.inr (.inl hk))).2 h)
  ·exact keep (chmod_good G h)
theorem new_good : Good E new := by
 have hn : node new.l 1 = some ⟨2, 493, ByteArray.empty, ByteArray.empty, []⟩ := rfl
 have hno : ∀ i, i ≠ 1 -> node new.l i = none := λi h => by
  show (if (1 : Int) = i then _ else _) = none
  rw [if_neg (λe => h e.symm)]; rfl
 have hs : ∀ i n, step new.l i n = none := λi n => by
  unfold step
  by_cases h : i = 1
  ·rw [h, hn]; rfl
  ·rw [hno i h]; rfl
 refine ⟨⟨List.pairwise_singleton _ _, λy hy => ?_, by decide, ⟨_, hn, rfl⟩, λ{i x} h => ?_, λ{i n c} h => (by rw [hs] at h; cases h), ?_⟩, λ{i x} h => ?_⟩
 ·rw [List.mem_singleton.1 hy]; decide
 ·by_cases hi : i = 1
  ·rw [hi, hn] at h
   injection h with h
   rw [<- h]
   exact ⟨by decide, by decide, by decide, λe he => (by cases he), rfl, .inr (.inl ⟨rfl, rfl, rfl⟩)⟩
  ·rw [hno i hi] at h; cases h
 ·exact ⟨λ{i n c} h => (by rw [hs] at h; cases h), λi n h => (by rw [hs] at h; cases h), λ{c i n i' n'} _ h => (by rw [hs] at h; cases h), λ{ns j} h => by
   rw [(Gr.go_leaf (hs 1) h).1]; decide⟩
 ·by_cases hi : i = 1
  ·exact ⟨[], by rw [hi]; rfl⟩
  ·rw [hno i hi] at h; cases h
end
section
variable {E : Env} {f : FS}
theorem Half.ent_step (H : Half E f) (K : EnvOk E) {i : Int} {x : Node} (hx : node f.l i = some x) {e : En} (he : e ∈ x.ents) : step f.l i e.1 = some e.2 :=
 step_iff.2 ⟨x, hx, Nd.find_at K.rising ((Nd.rises_iff K.rising _).1 (H.right hx).rise) he⟩
variable {az bs : List ByteArray} {i c d : Int} {ps qs : List ByteArray} {m n : ByteArray}
end
section
variable (E : Env)
def enterP (l : List Item) (ns : List ByteArray) (i : Int) : Except Int (List Item) :=
 match place l ns with
 | .error e => .error e
 | .ok (d, n) => if (Nd.withE E.lt E.nm (nodeD l d) n i).2 ≠ 0 then .error (Nd.withE E.lt E.nm (nodeD l d) n i).2 else .ok (enter E l d n i)
def leaveP (l : List Item) (ns : List ByteArray) : Except Int (List Item) :=
 match place l ns with
 | .error e => .error e
 | .ok (d, n) => if (Nd.withoutE (nodeD l d) n).2 ≠ 0 then .error (Nd.withoutE (nodeD l d) n).2 else .ok (leave l d n)
end
section
variable {E : Env} {f : FS}
theorem place_dir {l : List Item} {ns : List ByteArray} {d : Int} {n : ByteArray} (h : place l ns = .ok (d, n)) : (nodeD l d).kind = 2 /\ n ∈ ns := by
 unfold place at h
 cases hl : ns.getLast? with
 | none => rw [hl] at h; cases h
 | some m =>
  rw [hl] at h
  simp only at h
  cases hw : walk l 1 ns.dropLast with
  | error e => rw [hw] at h; cases h
  | ok k =>
   rw [hw] at h
   simp only at h
   split at h
   ·cases h
   ·rename_i hk
    injection h with h
    injection h with h1 h2
    subst h1 h2
    exact ⟨by simpa using hk, List.mem_of_getLast? hl⟩
theorem withE_code {x : Node} {n : ByteArray} {i : Int} (hk : x.kind = 2) (hn : E.nm (Nd.bs n) = true) : (Nd.withE E.lt E.nm x n i).2 = if (Nd.find x.ents n).isSome = true then 5 else if 64 <= x.ents.length then 3 else 0 := by
 unfold Nd.withE
 rw [if_neg (by simp [hk]), if_neg (by simp [hn])]
 split
 ·rfl
 ·split <;> rfl
theorem withoutE_code {x : Node} {n : ByteArray} (hk : x.kind = 2) (hf : (Nd.find x.ents n).isSome = true) : (Nd.withoutE x n).2 = 0 := by
 unfold Nd.withoutE
 rw [if_neg (by simp [hk]), if_neg (by simp [hf])]
theorem enterP_is {l : List Item} {ns : List ByteArray} {i : Int} (hnm : ∀ n ∈ ns, E.nm (Nd.bs n) = true) : enterP E l ns i = match fresh l ns with
  | .error e => .error e
  | .ok (d, n) => if 64 <= (nodeD l d).ents.length then .error 3 else .ok (enter E l d n i) := by
 unfold enterP fresh
 cases hp : place l ns with
 | error e => rfl
 | ok r =>
  obtain ⟨d, n⟩ := r
  obtain ⟨hk, hm⟩ := place_dir hp
  simp only
  rw [withE_code hk (hnm n hm)]
  by_cases h1 : (Nd.find (nodeD l d).ents n).isSome = true
  ·simp [h1]
  ·by_cases h2 : 64 <= (nodeD l d).ents.length
   ·simp [h1, h2]
   ·simp [h1, h2]
theorem link_is {f : FS} {aa bs : List ByteArray} (hnm : ∀ n ∈ bs, E.nm (Nd.bs n) = true) : link E f aa bs = match walk f.l 1 aa with
  | .error e => .error e
  | .ok i => if (nodeD f.l i).kind = 2 then .error 11 else match enterP E f.l bs i with
   | .error e => .error e
   | .ok l => .ok ⟨l, f.next⟩ := by
 unfold link
 cases walk f.l 1 aa with
 | error e => rfl
 | ok i =>
  simp only
  split
  ·rfl
  ·rw [enterP_is hnm]
   cases fresh f.l bs with
   | error e => rfl
   | ok r =>
    obtain ⟨d, n⟩ := r
    simp only
    split <;> rfl
theorem Half.leaveP_is (H : Half E f) {aa : List ByteArray} {i : Int} (hw : walk f.l 1 aa = .ok i) : leaveP f.l aa = match place f.l aa with
  | .error e => .error e
  | .ok (d, n) => .ok (leave f.l d n) := by
 unfold leaveP
 cases hp : place f.l aa with
 | error e => rfl
 | ok r =>
  obtain ⟨d, n⟩ := r
  obtain ⟨ps, _, _, hs⟩ := H.place_step hw hp
  obtain ⟨hk, _⟩ := place_dir hp
  simp only
  rw [withoutE_code hk (by rw [dir_find n (dir_iff.2 hk), hs]; rfl), if_neg (by decide)]
theorem Half.unlink_is (H : Half E f) {aa : List ByteArray} : unlink f aa = match walk f.l 1 aa with
  | .error e => .error e
  | .ok i => if (nodeD f.l i).kind = 2 then .error 11 else match leaveP f.l aa with
   | .error e => .error e
   | .ok l => .ok ⟨if links l i = 0 then dropL l i else l, f.next⟩ := by
 unfold unlink
 cases hw : walk f.l 1 aa with
 | error e => rfl
 | ok i =>
  simp only
  split
  ·rfl
  ·rw [H.leaveP_is hw]
   cases place f.l aa <;> rfl
theorem Half.rmdir_is (H : Half E f) {aa : List ByteArray} : rmdir f aa = match walk f.l 1 aa with
  | .error e => .error e
  | .ok i => if (nodeD f.l i).kind ≠ 2 then .error 10 else if i = 1 then .error 17 else if (nodeD f.l i).ents ≠ [] then .error 12 else match leaveP f.l aa with
   | .error e => .error e
   | .ok l => .ok ⟨dropL l i, f.next⟩ := by
 unfold rmdir
 cases hw : walk f.l 1 aa with
 | error e => rfl
 | ok i =>
  simp only
  split
  ·rfl
  ·split
   ·rfl
   ·split
    ·rfl
    ·rw [H.leaveP_is hw]
     cases place f.l aa <;> rfl
theorem set_swap {l : List Item} {d k : Int} {x y : Node} (hne : d ≠ k) (hd : (node l d).isSome = true) (hk : node l k = none) : setL (setL l d y) k x = setL (setL l k x) d y := by
 have h1 : (node (setL l d y) k).isSome = false := by rw [node_set, if_neg (Ne.symm hne), hk]; rfl
 have h2 : (node (setL l k x) d).isSome = true := by rw [node_set, if_neg hne, hd]
 have hall := node_none.1 hk
 have h3 : setL l d y = l.map λz => if z.1 = d then (d, y) else z := by unfold setL; rw [if_pos hd, List.append_nil]
 have h4 : setL l k x = l ++ [(k, x)] := by unfold setL; rw [setL_no hall, hk]; rfl
 rw [show setL (setL l d y) k x = (setL l d y).map (λz => if z.1 = k then (k, x) else z) ++ if (node (setL l d y) k).isSome = true then [] else [(k, x)] from rfl,
  show setL (setL l k x) d y = (setL l k x).map (λz => if z.1 = d then (d, y) else z) ++ if (node (setL l k x) d).isSome = true then [] else [(d, y)] from rfl]
 rw [if_neg (by rw [h1]; decide), if_pos h2, List.append_nil, h3, h4, List.map_append]
 rw [setL_no (l := l.map λz => if z.1 = d then (d, y) else z) λz hz => ?_]
 ·simp [Ne.symm hne]
 ·obtain ⟨u, hu, e⟩ := List.mem_map.1 hz
  rw [<- e]
  split
  ·exact hne
  ·exact hall u hu
theorem Half.create_is (H : Half E f) {o : Op} {aa : List ByteArray} (hnm : ∀ n ∈ aa, E.nm (Nd.bs n) = true) : create E f o aa = match fresh f.l aa with
  | .error e => .error e
  | .ok (d, _) => if Nd.right E.lt E.nm (madeNode o) = false then .error 1 else if 64 <= (nodeD f.l d).ents.length then .error 3 else if 256 <= f.l.length then .error 6 else match enterP E f.l aa f.next with
   | .error e => .error e
   | .ok l => .ok ⟨setL l f.next (madeNode o), f.next + 1⟩ := by
 unfold create
 rw [enterP_is hnm]
 cases hf : fresh f.l aa with
 | error e => rfl
 | ok r =>
  obtain ⟨d, n⟩ := r
  obtain ⟨ps, h1, h2, h3, h4⟩ := H.fresh_iff.1 hf
  simp only
  split
  ·rfl
  ·split
   ·rfl
   ·split
    ·rfl
    ·rename_i h64 h256
     simp only
     have hno : node f.l f.next = none := H.gone (Int.le_refl _)
     obtain ⟨x, hx, _⟩ := h3
     have hne : d ≠ f.next := λe => by rw [e, hno] at hx; cases hx
     have e1 : nodeD (setL f.l f.next (madeNode o)) d = nodeD f.l d := by unfold nodeD; rw [node_set, if_neg hne]
     show Except.ok _ = Except.ok _
     unfold enter
     rw [e1, <- set_swap hne (by rw [hx]; rfl) hno]
theorem Half.rename_is (H : Half E f) (K : EnvOk E) {aa bs : List ByteArray} (hnm : ∀ n ∈ bs, E.nm (Nd.bs n) = true) : rename E f aa bs = match walk f.l 1 aa with
  | .error e => .error e
  | .ok i => if i = 1 then .error 17 else if (nodeD f.l i).kind = 2 /\ bs.take aa.length = aa then .error 15 else match fresh f.l bs with
   | .error e => .error e
   | .ok (d, _) => match place f.l aa with
    | .error e => .error e
    | .ok (c, _) => if 64 <= (nodeD f.l d).ents.length /\ c ≠ d then .error 3 else if 8 < bs.length + deep f.l 9 i then .error 3 else match leaveP f.l aa with
     | .error e => .error e
     | .ok l => match enterP E l bs i with
      | .error e => .error e
      | .ok l => .ok ⟨l, f.next⟩ := by
 have key : ∀ g, rename E f aa bs = .ok g -> ∃ i c d m n, walk f.l 1 aa = .ok i /\ leaveP f.l aa = .ok (leave f.l c m) /\ enterP E (leave f.l c m) bs i = .ok (enter E (leave f.l c m) d n i) /\ g = ⟨enter E (leave f.l c m) d n i, f.next⟩ := by
  intro g h
  obtain ⟨i, c, d, ps, qs, m, n, M, hw, e⟩ := rename_met H h
  obtain ⟨H1, hst, hdr⟩ := H.less K M.was
  have hp : place f.l aa = .ok (c, m) := H.place_iff.2 ⟨ps, M.a_is, M.c_at, H.tree.leaf M.was⟩
  refine ⟨i, c, d, m, n, hw, by rw [H.leaveP_is hw, hp], ?_, e⟩
  have hd1 : isDir (leave f.l c m) d := by rw [hdr]; exact M.dir
  have hfr : fresh (leave f.l c m) bs = .ok (d, n) := H1.fresh_iff.2 ⟨qs, M.b_is, by show go (step (leave f.l c m)) 1 qs = some d; rw [hst]; exact M.way H, hd1, by show step (leave f.l c m) d n = none; rw [hst]; exact M.free'⟩
  have hl1 : (nodeD (leave f.l c m) d).ents.length < 64 := by
   obtain ⟨x, hx, hk, hf, he⟩ := H.leave_eq M.was
   by_cases e : d = c
   ·subst e
    have : node (leave f.l d m) d = some { x with ents := Nd.cut x.ents m } := by rw [he, node_set, if_pos rfl]
    rw [nodeD_of this]
    have h1 := cut_less hf
    have h2 := (H.right hx).len
    show (Nd.cut x.ents m).length < 64
    omega
   ·have : nodeD (leave f.l c m) d = nodeD f.l d := by unfold nodeD; rw [he, node_set, if_neg e]
    rw [this]
    rcases M.room with h | h
    ·exact h
    ·exact absurd h.symm e
  rw [enterP_is hnm, hfr]
  simp only
  rw [if_neg (by omega)]
 cases hr : rename E f aa bs with
 | ok g =>
  obtain ⟨i, c, d, m, n, hw, hl, he, rfl⟩ := key g hr
  unfold rename at hr
  rw [hw] at hr |-
  simp only at hr |-
  split at hr
  ·cases hr
  rename_i h1
  rw [if_neg h1]
  split at hr
  ·cases hr
  rename_i h2
  rw [if_neg h2]
  cases hf : fresh f.l bs with
  | error e => rw [hf] at hr; cases hr
  | ok r =>
   obtain ⟨d', n'⟩ := r
   rw [hf] at hr
   simp only at hr |-
   cases hp : place f.l aa with
   | error e => rw [hp] at hr; cases hr
   | ok r =>
    obtain ⟨c', m'⟩ := r
    rw [hp] at hr
    simp only at hr |-
    split at hr
    ·cases hr
    rename_i h3
    rw [if_neg (λe => h3 (.inl e)), if_neg (λe => h3 (.inr e)), hl]
    simp only
    rw [he]
 | error e =>
  unfold rename at hr
  cases hw : walk f.l 1 aa with
  | error e' => rw [hw] at hr; exact hr.symm
  | ok i =>
   rw [hw] at hr
   simp only at hr |-
   split at hr
   ·rename_i h1; rw [if_pos h1]; exact hr.symm
   rename_i h1
   rw [if_neg h1]
   split at hr
   ·rename_i h2; rw [if_pos h2]; exact hr.symm
   rename_i h2
   rw [if_neg h2]
   cases hf : fresh f.l bs with
   | error e' => rw [hf] at hr; exact hr.symm
   | ok r =>
    obtain ⟨d', n'⟩ := r
    rw [hf] at hr
    simp only at hr |-
    cases hp : place f.l aa with
    | error e' => rw [hp] at hr; exact hr.symm
    | ok r =>
     obtain ⟨c', m'⟩ := r
     rw [hp] at hr
     simp only at hr |-
     split at hr
     ·rename_i h3
      rcases h3 with h3 | h3
      ·rw [if_pos h3]; exact hr.symm
      ·split
       ·exact hr.symm
       ·exact hr.symm
     ·cases hr
end
end Fs
namespace Go.Proofs.YthbajmlmjjfgpaaGreatDoor
open Go.RowKit
theorem prefix_long {xs ys : List (List UInt8)} (h : ys.length < xs.length) : xs.isPrefixOf ys = false := by
 induction xs generalizing ys with
 | nil => simp at h
 | cons x xs ih =>
  cases ys with
  | nil => rfl
  | cons y ys =>
   simp only [List.length_cons] at h
   show (x == y && xs.isPrefixOf ys) = false
   rw [ih (by omega), Bool.and_false]
def WithinPost (a b : List UInt8) (w : World) (e : Ending) (w' : World) : Prop := e = .returned (.bool (Nm.within a b)) /\ Below w.heap.size w w'
theorem within_post {a b : List UInt8} {w w' : World} {r : Bool} (h : Nm.within a b = r) (hb : Below w.heap.size w w') : WithinPost a b w (.returned (.bool r)) w' := by
 unfold WithinPost; rw [h]; exact ⟨rfl, hb⟩
end Go.Proofs.YthbajmlmjjfgpaaGreatDoor
namespace Go.Proofs.YthbajmlmjjfgpaaGreatDoor
open T6
open Go.RowKit Go.Less
attribute [local go_sem 9000] sem_eql sem_neq
abbrev ocs (o : Fs.Op) : Array Value := #[.int .i64 o.kind, .string o.a, .string o.b, .int .i64 o.off, .int .i64 o.from_, .int .i64 o.n, .string o.data]
def env : Fs.Env := ⟨less, Nm.right, spl, λs o d => (lstr (putR s.data.toList o d.data.toList).1, (putR s.data.toList o d.data.toList).2), λs n => (lstr (truncR s.data.toList n).1, (truncR s.data.toList n).2),
 λs o t f n => (lstr (copyR s.data.toList o t.data.toList f n).1, (copyR s.data.toList o t.data.toList f n).2), λs o n => (lstr (getR s.data.toList o n).1, (getR s.data.toList o n).2)⟩
theorem find_of {l : List Fs.Item} {p : ByteArray} {ns : List ByteArray} (h : spl p = some ns) : findR l p = match Fs.walk l 1 ns with
  | .error e => (0, Nd.none0, e)
  | .ok i => (i, Fs.nodeD l i, 0) := by unfold findR; rw [h]; rfl
theorem find_cases {l : List Fs.Item} {p : ByteArray} {ns : List ByteArray} (h : spl p = some ns) : (∃ e, e ≠ 0 /\ Fs.walk l 1 ns = .error e /\ findR l p = (0, Nd.none0, e)) \/ ∃ i, Fs.walk l 1 ns = .ok i /\ findR l p = (i, Fs.nodeD l i, 0) := by
 rw [find_of h]
 rcases walk_code l ns 1 with ⟨i, hw⟩ | hw | hw
 ·exact .inr ⟨i, hw, by rw [hw]⟩
 ·exact .inl ⟨10, by decide, hw, by rw [hw]⟩
 ·exact .inl ⟨4, by decide, hw, by rw [hw]⟩
theorem spl_small {p : ByteArray} {nb : List ByteArray} (h : spl p = some nb) : ∀ x ∈ nb, x.size <= 100000 := by
 unfold spl at h
 rw [Option.map_eq_some_iff] at h
 obtain ⟨ns, hs, rfl⟩ := h
 intro x hx
 obtain ⟨y, hy, rfl⟩ := List.mem_map.1 hx
 rw [lstr_size]
 have h1 := Nm.join_split hs
 unfold Nm.join at h1
 split at h1
 ·rename_i hx2
  exact Nat.le_trans (nm_len (List.all_eq_true.1 hx2.2 y hy)) (by decide)
 ·cases h1
end Go.Proofs.YthbajmlmjjfgpaaGreatDoor
