/- Layer 11, a part of the proofs: no statement of its own. -/
import Derived.Test.YthehblmjloohiaaGreatDoorM22
namespace Fs
open Nd (En Node none0)
open Gr (go upd)
theorem some_set {l : List Item} {i k : Int} {x : Node} : (node (setL l i x) k).isSome = true ↔ k = i ∨ (node l k).isSome = true := by
 rw [node_set]
 by_cases h : k = i
 ·simp [h]
 ·simp [h]
theorem some_of {l : List Item} {i : Int} {x : Node} (h : node l i = some x) : (node l i).isSome = true := by rw [h]; rfl
theorem go_fun {s : Gr.Step} {i j k : Int} {ns : List ByteArray} (h : go s i ns = some j) (h' : go s i ns = some k) : j = k := by rw [h] at h'; injection h'
section
variable {E : Env} {f : FS}
theorem enter_eq {l : List Item} {d c : Int} {n : ByteArray} (hd : isDir l d) (hn : E.nm (Nd.bs n) = true) (hs : step l d n = none) (hl : (nodeD l d).ents.length < 64) : ∃ x, node l d = some x ∧ x.kind = 2 ∧ enter E l d n c = setL l d { x with ents := Nd.ins E.lt x.ents n c } := by
 obtain ⟨x, hx, hk⟩ := hd
 rw [nodeD_of hx] at hl
 exact ⟨x, hx, hk, enter_is hx hk hn (by unfold step at hs; rw [hx] at hs; exact hs) hl⟩
theorem Half.leave_eq (H : Half E f) {d c : Int} {n : ByteArray} (hs : step f.l d n = some c) : ∃ x, node f.l d = some x ∧ x.kind = 2 ∧ Nd.find x.ents n = some c ∧ leave f.l d n = setL f.l d { x with ents := Nd.cut x.ents n } := by
 obtain ⟨x, hx, hk, hf⟩ := H.step_dir hs
 exact ⟨x, hx, hk, hf, leave_is hx hk (by rw [hf]; rfl)⟩
theorem Half.some_leave (H : Half E f) {d c : Int} {n : ByteArray} (hs : step f.l d n = some c) (k : Int) : (node (leave f.l d n) k).isSome = true ↔ (node f.l k).isSome = true := by
 obtain ⟨x, hx, _, _, he⟩ := H.leave_eq hs
 rw [he, some_set]
 constructor
 ·rintro (rfl | h)
  ·exact some_of hx
  ·exact h
 ·exact .inr
theorem some_enter {l : List Item} {d c : Int} {n : ByteArray} (hd : isDir l d) (hn : E.nm (Nd.bs n) = true) (hs : step l d n = none) (hl : (nodeD l d).ents.length < 64) (k : Int) : (node (enter E l d n c) k).isSome = true ↔ (node l k).isSome = true := by
 obtain ⟨x, hx, _, he⟩ := enter_eq (c := c) hd hn hs hl
 rw [he, some_set]
 constructor
 ·rintro (rfl | h)
  ·exact some_of hx
  ·exact h
 ·exact .inr
theorem Good.reach' (G : Good E f) {i : Int} (h : (node f.l i).isSome = true) : ∃ ns, go (step f.l) 1 ns = some i := by
 obtain ⟨x, hx⟩ := Option.isSome_iff_exists.1 h
 exact G.reach hx
theorem Good.of_half {g : FS} (H : Half E g) (h : ∀ k, (node g.l k).isSome = true → ∃ ns, go (step g.l) 1 ns = some k) : Good E g := ⟨H, fun hz => h _ (some_of hz)⟩
theorem create_good (K : EnvOk E) (G : Good E f) (hb : f.next ≤ 2147483647) {o : Op} {az : List ByteArray} (h8 : az.length ≤ 8) (hnm : ∀ n ∈ az, E.nm (Nd.bs n) = true) {g : FS} (h : create E f o az = .ok g) : Good E g ∧ g.next = f.next + 1 := by
 have H := G.toHalf
 unfold create at h
 cases hf : fresh f.l az with
 | error e => rw [hf] at h; cases h
 | ok r =>
  obtain ⟨d, n⟩ := r
  obtain ⟨ps, rfl, hp, hd, hs⟩ := H.fresh_iff.1 hf
  rw [hf] at h
  simp only at h
  split at h
  ·cases h
  rename_i hR
  split at h
  ·cases h
  rename_i hl
  split at h
  ·cases h
  rename_i hfew
  injection h with h
  subst h
  refine ⟨?_, rfl⟩
  have hx : (madeNode o).ents = [] := by unfold madeNode; split <;> rfl
  have hR : Nd.Right E.lt E.nm (madeNode o) := (Nd.right_iff _).1 (by simpa using hR)
  have H1 := H.make hR hx (by omega)
  have hg := H.gone (Int.le_refl f.next)
  have hst := step_make (x := madeNode o) hg hx
  have hdn : d ≠ f.next := fun e => by
   obtain ⟨y, hy, _⟩ := hd
   rw [e, hg] at hy; cases hy
  have hd1 : isDir (setL f.l f.next (madeNode o)) d := dir_set.2 (.inr ⟨hdn, hd⟩)
  have hD : nodeD (setL f.l f.next (madeNode o)) d = nodeD f.l d := by unfold nodeD; rw [node_set, if_neg hdn]
  have hn1 := hnm n (by simp)
  have hleaf : ∀ m, step f.l f.next m = none := step_of_none hg
  have h1 := H.next_pos
  have A := H1.add K (d := d) (c := f.next) (n := n) (ps := ps) hd1 hn1 (by show step (setL f.l f.next (madeNode o)) d n = none; rw [hst]; exact hs) (by show (nodeD (setL f.l f.next (madeNode o)) d).ents.length < 64; rw [hD]; omega)
   (some_set.2 (.inl rfl)) hb (by show go (step (setL f.l f.next (madeNode o))) 1 ps = some d; rw [hst]; exact hp) (by omega)
   (fun _ i m => by show step (setL f.l f.next (madeNode o)) i m ≠ _; rw [hst]; exact H.none_to hg i m)
   (fun qs hq => by
    have hq : go (step (setL f.l f.next (madeNode o))) f.next qs = some d := hq
    rw [hst] at hq
    exact hdn (Gr.go_leaf hleaf hq).2)
   (fun qs j hq => by
    have hq : go (step (setL f.l f.next (madeNode o))) f.next qs = some j := hq
    rw [hst] at hq
    rw [(Gr.go_leaf hleaf hq).1]
    simp at h8 ⊢; omega)
  refine Good.of_half A.1 fun k hk => ?_
  have hk : (node (enter E (setL f.l f.next (madeNode o)) d n f.next) k).isSome = true := hk
  rw [some_enter hd1 hn1 (by rw [hst]; exact hs) (by rw [hD]; omega), some_set] at hk
  show ∃ ns, go (step (enter E (setL f.l f.next (madeNode o)) d n f.next)) 1 ns = some k
  have hst2 : step (enter E (setL f.l f.next (madeNode o)) d n f.next) = upd (step f.l) d n (some f.next) := A.2.1.trans (by show upd (step (setL f.l f.next (madeNode o))) d n _ = _; rw [hst])
  rw [hst2]
  rcases hk with rfl | hk
  ·exact ⟨ps ++ [n], Gr.go_snoc.2 ⟨d, Gr.go_less (Gr.upd_more hs) hp, Gr.upd_same ..⟩⟩
  ·obtain ⟨ns, hns⟩ := G.reach' hk
   exact ⟨ns, Gr.go_less (Gr.upd_more hs) hns⟩
theorem link_good (K : EnvOk E) (G : Good E f) (hb : f.next ≤ 2147483647) {az bs : List ByteArray} (h8 : bs.length ≤ 8) (hnm : ∀ n ∈ bs, E.nm (Nd.bs n) = true) {g : FS} (h : link E f az bs = .ok g) : Good E g ∧ g.next = f.next := by
 have H := G.toHalf
 unfold link at h
 cases hw : walk f.l 1 az with
 | error e => rw [hw] at h; cases h
 | ok i =>
  rw [hw] at h
  simp only at h
  split at h
  ·cases h
  rename_i hk
  cases hf : fresh f.l bs with
  | error e => rw [hf] at h; cases h
  | ok r =>
   obtain ⟨d, n⟩ := r
   obtain ⟨ps, rfl, hp, hd, hs⟩ := H.fresh_iff.1 hf
   rw [hf] at h
   simp only at h
   split at h
   ·cases h
   rename_i hl
   injection h with h
   subst h
   refine ⟨?_, rfl⟩
   obtain ⟨x, hx, _⟩ := H.walk_node hw
   have hnd : ¬ isDir f.l i := fun e => hk (dir_iff.1 e)
   have hleaf := H.step_none hnd
   have hn1 := hnm n (by simp)
   have A := H.add K hd hn1 hs (by omega) (some_of hx) (by have := (H.pos (i, x) (node_mem hx)).2; simp only at this; omega) hp (fun e => hnd (e ▸ H.top)) (fun e => absurd e hnd)
    (fun qs hq => hnd ((Gr.go_leaf hleaf hq).2 ▸ hd)) (fun qs j hq => by rw [(Gr.go_leaf hleaf hq).1]; simp at h8 ⊢; omega)
   refine Good.of_half A.1 fun k hk => ?_
   have hk : (node (enter E f.l d n i) k).isSome = true := hk
   rw [some_enter hd hn1 hs (by omega)] at hk
   obtain ⟨ns, hns⟩ := G.reach' hk
   refine ⟨ns, ?_⟩
   show go (step (enter E f.l d n i)) 1 ns = some k
   rw [A.2.1]
   exact Gr.go_less (Gr.upd_more hs) hns
theorem Half.place_step (H : Half E f) {az : List ByteArray} {i d : Int} {n : ByteArray} (hw : walk f.l 1 az = .ok i) (hp : place f.l az = .ok (d, n)) : ∃ ps, az = ps ++ [n] ∧ go (step f.l) 1 ps = some d ∧ step f.l d n = some i := by
 obtain ⟨ps, rfl, h1, _⟩ := H.place_iff.1 hp
 obtain ⟨k, h2, h3⟩ := Gr.go_snoc.1 (H.walk_iff.1 hw)
 obtain rfl := go_fun h1 h2
 exact ⟨ps, rfl, h1, h3⟩
theorem countP_zero {l : List Item} {i : Int} : links l i = 0 ↔ ∀ y ∈ l, ∀ e ∈ y.2.ents, e.2 ≠ i := by
 unfold links
 induction l with
 | nil => simp
 | cons y l ih =>
  rw [List.map_cons, List.sum_cons, Nat.add_eq_zero_iff, ih, List.countP_eq_zero]
  simp
theorem Half.links_iff (H : Half E f) (K : EnvOk E) {i : Int} : links f.l i = 0 ↔ ∀ k m, step f.l k m ≠ some i := by
 rw [countP_zero]
 constructor
 ·intro h k m e
  obtain ⟨x, hx, hf⟩ := step_iff.1 e
  exact h (k, x) (node_mem hx) (m, i) (Nd.find_mem hf) rfl
 ·intro h y hy e he hi
  have hx := node_at H.inos (i := y.1) (x := y.2) hy
  exact h y.1 e.1 (step_iff.2 ⟨y.2, hx, by rw [Nd.find_at K.rising ((Nd.rises_iff K.rising _).1 (H.right hx).rise) he, hi]⟩)
theorem unlink_good (K : EnvOk E) (G : Good E f) {az : List ByteArray} {g : FS} (h : unlink f az = .ok g) : Good E g ∧ g.next = f.next := by
 have H := G.toHalf
 unfold unlink at h
 cases hw : walk f.l 1 az with
 | error e => rw [hw] at h; cases h
 | ok i =>
  rw [hw] at h
  simp only at h
  split at h
  ·cases h
  rename_i hk
  cases hp : place f.l az with
  | error e => rw [hp] at h; cases h
  | ok r =>
   obtain ⟨d, n⟩ := r
   rw [hp] at h
   simp only at h
   injection h with h
   subst h
   refine ⟨?_, rfl⟩
   obtain ⟨ps, rfl, hgo, hs⟩ := H.place_step hw hp
   obtain ⟨H1, hst, hdr⟩ := H.less K hs
   have hnd : ¬ isDir f.l i := fun e => hk (dir_iff.1 e)
   have hleaf := H.step_none hnd
   have hnd1 : ¬ isDir (leave f.l d n) i := by rw [hdr]; exact hnd
   have hkeep : ∀ k, k ≠ i → (node (leave f.l d n) k).isSome = true → ∃ ns, go (upd (step f.l) d n none) 1 ns = some k := fun k hki hk => by
    obtain ⟨ns, hns⟩ := G.reach' ((H.some_leave hs k).1 hk)
    rcases Gr.go_cut hns hs with h | ⟨_, qs, _, _, hq⟩
    ·exact ⟨ns, h⟩
    ·exact absurd (Gr.go_leaf hleaf hq).2 hki
   split
   ·rename_i h0
    have hto := (H1.links_iff K).1 h0
    obtain ⟨H2, hst2⟩ := H1.drop (i := i) (fun e => hnd (e ▸ H.top)) (H1.step_none hnd1) hto
    refine Good.of_half H2 fun k hk => ?_
    have hk : (node (dropL (leave f.l d n) i) k).isSome = true := hk
    have hst3 : step (dropL (leave f.l d n) i) = upd (step f.l) d n none := hst2.trans hst
    rw [node_drop] at hk
    split at hk
    ·cases hk
    ·rename_i hki
     obtain ⟨ns, hns⟩ := hkeep k hki hk
     exact ⟨ns, by show go (step (dropL (leave f.l d n) i)) 1 ns = some k; rw [hst3]; exact hns⟩
   ·rename_i h0
    refine Good.of_half H1 fun k hk => ?_
    show ∃ ns, go (step (leave f.l d n)) 1 ns = some k
    rw [hst]
    by_cases hki : k = i
    ·subst hki
     have hex : ∃ j m, step (leave f.l d n) j m = some k := by
      refine Classical.byContradiction fun hno => h0 ((H1.links_iff K).2 fun j m e => hno ⟨j, m, e⟩)
     obtain ⟨j, m, hj⟩ := hex
     have hjd := H1.tree.leaf hj
     rw [hdr] at hjd
     have hjk : j ≠ k := fun e => hnd (e ▸ hjd)
     obtain ⟨y, hy, _⟩ := hjd
     obtain ⟨ns, hns⟩ := hkeep j hjk ((H.some_leave hs j).2 (some_of hy))
     exact ⟨ns ++ [m], Gr.go_snoc.2 ⟨j, hns, hst ▸ hj⟩⟩
    ·exact hkeep k hki hk
theorem rmdir_good (K : EnvOk E) (G : Good E f) {az : List ByteArray} {g : FS} (h : rmdir f az = .ok g) : Good E g ∧ g.next = f.next := by
 have H := G.toHalf
 unfold rmdir at h
 cases hw : walk f.l 1 az with
 | error e => rw [hw] at h; cases h
 | ok i =>
  rw [hw] at h
  simp only at h
  split at h
  ·cases h
  rename_i hk
  split at h
  ·cases h
  rename_i h1
  split at h
  ·cases h
  rename_i hemp
  cases hp : place f.l az with
  | error e => rw [hp] at h; cases h
  | ok r =>
   obtain ⟨d, n⟩ := r
   rw [hp] at h
   simp only at h
   injection h with h
   subst h
   refine ⟨?_, rfl⟩
   obtain ⟨ps, rfl, hgo, hs⟩ := H.place_step hw hp
   obtain ⟨H1, hst, hdr⟩ := H.less K hs
   have hid : isDir f.l i := dir_iff.2 (by simpa using hk)
   have hleaf : ∀ m, step f.l i m = none := fun m => by
    rw [← dir_find m hid, show (nodeD f.l i).ents = [] by simpa using hemp]; rfl
   have hleaf1 : ∀ m, step (leave f.l d n) i m = none := fun m => by
    rw [hst]
    cases hq : upd (step f.l) d n none i m with
    | none => rfl
    | some c => have := Gr.upd_less _ _ _ hq; rw [hleaf] at this; cases this
   have hto : ∀ k m, step (leave f.l d n) k m ≠ some i := fun k m e => by
    rw [hst] at e
    obtain ⟨rfl, rfl⟩ := H.tree.one hid hs (Gr.upd_less _ _ _ e)
    rw [Gr.upd_same] at e; cases e
   obtain ⟨H2, hst2⟩ := H1.drop (i := i) h1 hleaf1 hto
   have hst3 : step (dropL (leave f.l d n) i) = upd (step f.l) d n none := hst2.trans hst
   refine Good.of_half H2 fun k hk => ?_
   have hk : (node (dropL (leave f.l d n) i) k).isSome = true := hk
   rw [node_drop] at hk
   split at hk
   ·cases hk
   ·rename_i hki
    obtain ⟨ns, hns⟩ := G.reach' ((H.some_leave hs k).1 hk)
    refine ⟨ns, ?_⟩
    show go (step (dropL (leave f.l d n) i)) 1 ns = some k
    rw [hst3]
    rcases Gr.go_cut hns hs with h | ⟨_, qs, _, _, hq⟩
    ·exact h
    ·exact absurd (Gr.go_leaf hleaf hq).2 hki
end
end Fs

namespace Fs
open Nd (En Node none0)
open Gr (go upd)
theorem fold_max {l : List En} (g : En → Nat) : ∀ a, a ≤ l.foldl (fun n e => max n (g e)) a ∧ ∀ e ∈ l, g e ≤ l.foldl (fun n e => max n (g e)) a := by
 induction l with
 | nil => exact fun a => ⟨Nat.le_refl _, fun e he => by cases he⟩
 | cons x l ih =>
  intro a
  obtain ⟨h1, h2⟩ := ih (max a (g x))
  refine ⟨Nat.le_trans (Nat.le_max_left _ _) h1, fun e he => ?_⟩
  rcases List.mem_cons.1 he with rfl | he
  ·exact Nat.le_trans (Nat.le_max_right _ _) h1
  ·exact h2 e he
theorem deep_ge {l : List Item} : ∀ (k : Nat) {i j : Int} {rs : List ByteArray}, go (step l) i rs = some j → rs.length ≤ k → rs.length ≤ deep l k i := by
 intro k
 induction k with
 | zero => intro i j rs _ h; exact Nat.le_trans h (Nat.zero_le _)
 | succ k ih =>
  intro i j rs h hk
  cases rs with
  | nil => exact Nat.zero_le _
  | cons n rs =>
   obtain ⟨c, h1, h2⟩ := Gr.go_cons.1 h
   obtain ⟨x, hx, hf⟩ := step_iff.1 h1
   have h3 := ih h2 (by simpa using hk)
   have h4 := (fold_max (l := x.ents) (fun e => 1 + deep l k e.2) 0).2 (n, c) (Nd.find_mem hf)
   show rs.length + 1 ≤ (nodeD l i).ents.foldl (fun n e => max n (1 + deep l k e.2)) 0
   rw [nodeD_of hx]
   simp only at h4
   omega
theorem prefix_iff (x y : List ByteArray) : y.take x.length = x ↔ ∃ z, y = x ++ z :=
 ⟨fun h => ⟨y.drop x.length, by conv => lhs; rw [← List.take_append_drop x.length y, h]⟩, fun ⟨z, h⟩ => by rw [h]; exact List.take_left⟩
theorem cut_less {l : List En} {k : ByteArray} {c : Int} (h : Nd.find l k = some c) : (Nd.cut l k).length + 1 = l.length := by
 induction l with
 | nil => cases h
 | cons x l ih =>
  unfold Nd.find at h
  unfold Nd.cut
  by_cases hx : x.1 = k
  ·rw [if_pos hx]; rfl
  ·rw [if_neg hx] at h ⊢
   rw [List.length_cons, List.length_cons, ih h]
structure Moved (f : FS) (az bs : List ByteArray) (i c d : Int) (ps qs : List ByteArray) (m n : ByteArray) : Prop where
 a_is : az = ps ++ [m]
 b_is : bs = qs ++ [n]
 c_at : go (step f.l) 1 ps = some c
 d_at : go (step f.l) 1 qs = some d
 was : step f.l c m = some i
 free : step f.l d n = none
 dir : isDir f.l d
 notTop : i ≠ 1
 out : isDir f.l i → ∀ z, bs ≠ az ++ z
 room : (nodeD f.l d).ents.length < 64 ∨ c = d
 short : bs.length + deep f.l 9 i ≤ 8
section
variable {E : Env} {f : FS}
theorem rename_met (G : Half E f) {az bs : List ByteArray} {g : FS} (h : rename E f az bs = .ok g) : ∃ i c d ps qs m n, Moved f az bs i c d ps qs m n ∧ walk f.l 1 az = .ok i ∧ g = ⟨enter E (leave f.l c m) d n i, f.next⟩ := by
 unfold rename at h
 cases hw : walk f.l 1 az with
 | error e => rw [hw] at h; cases h
 | ok i =>
  rw [hw] at h
  simp only at h
  split at h
  ·cases h
  rename_i h1
  split at h
  ·cases h
  rename_i h2
  cases hf : fresh f.l bs with
  | error e => rw [hf] at h; cases h
  | ok r =>
   obtain ⟨d, n⟩ := r
   obtain ⟨qs, rfl, hq, hd, hs⟩ := G.fresh_iff.1 hf
   rw [hf] at h
   simp only at h
   cases hp : place f.l az with
   | error e => rw [hp] at h; cases h
   | ok r =>
    obtain ⟨c, m⟩ := r
    rw [hp] at h
    simp only at h
    split at h
    ·cases h
    rename_i h3
    injection h with h
    obtain ⟨ps, rfl, hgo, hst⟩ := G.place_step hw hp
    refine ⟨i, c, d, ps, qs, m, n, ⟨rfl, rfl, hgo, hq, hst, hs, hd, h1, fun hid z e => h2 ⟨dir_iff.1 hid, (prefix_iff _ _).2 ⟨z, e⟩⟩, ?_, by omega⟩, rfl, h.symm⟩
    by_cases e : c = d
    ·exact .inr e
    ·exact .inl (by omega)
variable {az bs : List ByteArray} {i c d : Int} {ps qs : List ByteArray} {m n : ByteArray}
theorem Moved.out_way (M : Moved f az bs i c d ps qs m n) (H : Half E f) {rs : List ByteArray} : go (step f.l) i rs ≠ some d := fun hr => by
 by_cases hid : isDir f.l i
 ·have h1 : go (step f.l) 1 (az ++ rs) = some d := by
   rw [M.a_is]
   exact Gr.go_append_iff.2 ⟨i, Gr.go_snoc.2 ⟨c, M.c_at, M.was⟩, hr⟩
  have := H.tree.path M.dir M.d_at h1
  exact M.out hid (rs ++ [n]) (by rw [M.b_is, this, List.append_assoc])
 ·exact hid ((Gr.go_leaf (H.step_none hid) hr).2 ▸ M.dir)
theorem Moved.way (M : Moved f az bs i c d ps qs m n) (H : Half E f) : go (upd (step f.l) c m none) 1 qs = some d := by
 rcases Gr.go_cut M.d_at M.was with h | ⟨_, rs, _, _, h⟩
 ·exact h
 ·exact absurd h (M.out_way H)
theorem Moved.below (M : Moved f az bs i c d ps qs m n) (H : Half E f) {rs : List ByteArray} {j : Int} (h : go (step f.l) i rs = some j) : go (upd (step f.l) c m none) i rs = some j := by
 rcases Gr.go_cut h M.was with h | ⟨r1, _, _, h1, _⟩
 ·exact h
 ·exact absurd (Gr.go_less Gr.upd_less h1) (H.tree.ahead M.c_at M.was)
theorem Moved.free' (M : Moved f az bs i c d ps qs m n) : upd (step f.l) c m none d n = none := by
 cases hq : upd (step f.l) c m none d n with
 | none => rfl
 | some k => have := Gr.upd_less _ _ _ hq; rw [M.free] at this; cases this
theorem Moved.ne (M : Moved f az bs i c d ps qs m n) : ¬ (d = c ∧ n = m) := fun e => by
 have := M.free
 rw [e.1, e.2, M.was] at this; cases this
structure Behind (E : Env) (f : FS) (c d i : Int) (m n : ByteArray) : Prop where
 good : Good E ⟨enter E (leave f.l c m) d n i, f.next⟩
 steps : step (enter E (leave f.l c m) d n i) = upd (upd (step f.l) c m none) d n (some i)
 dirs : isDir (enter E (leave f.l c m) d n i) = isDir f.l
 has : ∀ k, (node (enter E (leave f.l c m) d n i) k).isSome = true ↔ (node f.l k).isSome = true
theorem Moved.behind (M : Moved f az bs i c d ps qs m n) (K : EnvOk E) (G : Good E f) (hb : f.next ≤ 2147483647) (hnm : ∀ k ∈ bs, E.nm (Nd.bs k) = true) : Behind E f c d i m n := by
 have H := G.toHalf
 obtain ⟨H1, hst, hdr⟩ := H.less K M.was
 have hi := H.there M.was
 obtain ⟨xi, hxi⟩ := Option.isSome_iff_exists.1 hi
 have hsome := H.some_leave M.was
 have hd1 : isDir (leave f.l c m) d := by rw [hdr]; exact M.dir
 have hn1 : E.nm (Nd.bs n) = true := hnm n (by rw [M.b_is]; simp)
 have hs1 : step (leave f.l c m) d n = none := by rw [hst]; exact M.free'
 have hl1 : (nodeD (leave f.l c m) d).ents.length < 64 := by
  obtain ⟨x, hx, hk, hf, he⟩ := H.leave_eq M.was
  by_cases e : d = c
  ·subst e
   have : node (leave f.l d m) d = some { x with ents := Nd.cut x.ents m } := by rw [he, node_set, if_pos rfl]
   rw [nodeD_of this]
   have h1 := cut_less hf
   have h2 := (H.right hx).len
   show (Nd.cut x.ents m).length < 64
   omega
  ·have : nodeD (leave f.l c m) d = nodeD f.l d := by unfold nodeD; rw [he, node_set, if_neg e]
   rw [this]
   rcases M.room with h | h
   ·exact h
   ·exact absurd h.symm e
 have A := H1.add K (d := d) (c := i) (n := n) (ps := qs) hd1 hn1 hs1 hl1 ((hsome i).2 hi) (by have := (H.pos (i, xi) (node_mem hxi)).2; simp only at this; omega)
  (by show go (step (leave f.l c m)) 1 qs = some d; rw [hst]; exact M.way H) M.notTop
  (fun hid k m' e => by
   have hid : isDir (leave f.l c m) i := hid
   have e : step (leave f.l c m) k m' = some i := e
   rw [hdr] at hid
   rw [hst] at e
   obtain ⟨rfl, rfl⟩ := H.tree.one hid M.was (Gr.upd_less _ _ _ e)
   rw [Gr.upd_same] at e; cases e)
  (fun rs hr => by
   have hr : go (step (leave f.l c m)) i rs = some d := hr
   rw [hst] at hr
   exact M.out_way H (Gr.go_less Gr.upd_less hr))
  (fun rs j hr => by
   have hr : go (step (leave f.l c m)) i rs = some j := hr
   rw [hst] at hr
   have hr := Gr.go_less Gr.upd_less hr
   have h8 := H.tree.deep (Gr.go_append_iff.2 ⟨i, Gr.go_snoc.2 ⟨c, M.c_at, M.was⟩, hr⟩)
   rw [List.length_append] at h8
   have h9 := deep_ge 9 hr (by omega)
   have h10 := M.short
   rw [M.b_is, List.length_append, List.length_singleton] at h10
   omega)
 have hstep : step (enter E (leave f.l c m) d n i) = upd (upd (step f.l) c m none) d n (some i) := A.2.1.trans (by show upd (step (leave f.l c m)) d n _ = _; rw [hst])
 have hhas : ∀ k, (node (enter E (leave f.l c m) d n i) k).isSome = true ↔ (node f.l k).isSome = true := fun k => (some_enter hd1 hn1 hs1 hl1 k).trans (hsome k)
 refine ⟨Good.of_half A.1 fun k hk => ?_, hstep, A.2.2.trans hdr, hhas⟩
 obtain ⟨ns, hns⟩ := G.reach' ((hhas k).1 hk)
 show ∃ ns, go (step (enter E (leave f.l c m) d n i)) 1 ns = some k
 rw [hstep]
 have up := Gr.upd_more (v := some i) M.free'
 rcases Gr.go_cut hns M.was with h | ⟨_, rs, _, _, h⟩
 ·exact ⟨ns, Gr.go_less up h⟩
 ·exact ⟨qs ++ n :: rs, Gr.go_append_iff.2 ⟨d, Gr.go_less up (M.way H), Gr.go_cons.2 ⟨i, Gr.upd_same .., Gr.go_less up (M.below H h)⟩⟩⟩
theorem file_met (H : Half E f) {az : List ByteArray} {i : Int} {x : Node} (h : file f.l az = .ok (i, x)) : walk f.l 1 az = .ok i ∧ node f.l i = some x ∧ x.kind = 1 := by
 unfold file at h
 cases hw : walk f.l 1 az with
 | error e => rw [hw] at h; cases h
 | ok k =>
  rw [hw] at h
  simp only at h
  split at h
  ·cases h
  rename_i h2
  split at h
  ·cases h
  rename_i h3
  injection h with h
  injection h with h4 h5
  subst h4
  obtain ⟨y, hy, hD⟩ := H.walk_node hw
  rw [hD] at h2 h3 h5
  subst h5
  refine ⟨rfl, hy, ?_⟩
  rcases (H.right hy).kinds with ⟨e, _⟩ | ⟨e, _⟩ | ⟨e, _⟩
  ·exact e
  ·exact absurd e h2
  ·exact absurd e h3
theorem edit_good (G : Good E f) {az : List ByteArray} {gg : Node → Except Int ByteArray} (hgg : ∀ x s, x.data.size ≤ 4096 → gg x = .ok s → s.size ≤ 4096) {g : FS} (h : edit f az gg = .ok g) : Good E g ∧ g.next = f.next := by
 unfold edit at h
 cases hf : file f.l az with
 | error e => rw [hf] at h; cases h
 | ok r =>
  obtain ⟨i, x⟩ := r
  obtain ⟨hw, hx, hk⟩ := file_met G.toHalf hf
  rw [hf] at h
  simp only at h
  cases hg : gg x with
  | error e => rw [hg] at h; cases h
  | ok s =>
   rw [hg] at h
   simp only at h
   injection h with h
   subst h
   refine ⟨G.same hx rfl rfl ?_, rfl⟩
   have R := G.right hx
   refine ⟨R.m0, R.m1, R.len, R.ok, R.rise, ?_⟩
   rcases R.kinds with ⟨h1, h2, h3, h4⟩ | ⟨h1, _⟩ | ⟨h1, _⟩
   ·exact .inl ⟨h1, h2, h3, hgg x s h4 hg⟩
   ·omega
   ·omega
theorem asked_ok {r : ByteArray × Int} {s : ByteArray} (h : asked r = .ok s) : r.2 = 0 ∧ r.1 = s := by
 unfold asked at h
 split at h
 ·cases h
 ·rename_i e
  injection h with h
  exact ⟨by simpa using e, h⟩
theorem bytes_good (K : EnvOk E) (G : Good E f) {o : Op} {az bs : List ByteArray} {g : FS} (h : bytes E f o az bs = .ok g) : Good E g ∧ g.next = f.next := by
 refine edit_good G (fun x s hx hs => ?_) h
 split at hs
 ·obtain ⟨h1, h2⟩ := asked_ok hs
  rw [← h2]; exact K.put _ _ _ hx h1
 ·split at hs
  ·obtain ⟨h1, h2⟩ := asked_ok hs
   rw [← h2]; exact K.trunc _ _ h1
  ·cases hf : file f.l bs with
   | error e => rw [hf] at hs; cases hs
   | ok r =>
    rw [hf] at hs
    obtain ⟨h1, h2⟩ := asked_ok hs
    rw [← h2]; exact K.copy _ _ _ _ _ hx h1
theorem chmod_good (G : Good E f) {o : Op} {az : List ByteArray} {g : FS} (h : chmod f o az = .ok g) : Good E g ∧ g.next = f.next := by
 unfold chmod at h
 cases hw : walk f.l 1 az with
 | error e => rw [hw] at h; cases h
 | ok i =>
  rw [hw] at h
  simp only at h
  split at h
  ·cases h
  rename_i hN
  injection h with h
  subst h
  obtain ⟨x, hx, hD⟩ := G.toHalf.walk_node hw
  rw [hD]
  have R := G.right hx
  exact ⟨G.same hx rfl rfl ⟨by show 0 ≤ o.n; omega, by show o.n ≤ 511; omega, R.len, R.ok, R.rise, R.kinds⟩, rfl⟩
theorem rename_good (K : EnvOk E) (G : Good E f) (hb : f.next ≤ 2147483647) {az bs : List ByteArray} (hnm : ∀ n ∈ bs, E.nm (Nd.bs n) = true) {g : FS} (h : rename E f az bs = .ok g) : Good E g ∧ g.next = f.next := by
 obtain ⟨i, c, d, ps, qs, m, n, M, _, rfl⟩ := rename_met G.toHalf h
 exact ⟨(M.behind K G hb hnm).good, rfl⟩
theorem act_good (K : EnvOk E) (G : Good E f) (hb : f.next ≤ 2147483647) {o : Op} {g : FS} (h : act E f o = .ok g) : Good E g ∧ (g.next = f.next ∨ g.next = f.next + 1) := by
 have keep : ∀ {g : FS}, Good E g ∧ g.next = f.next → Good E g ∧ (g.next = f.next ∨ g.next = f.next + 1) := fun h => ⟨h.1, .inl h.2⟩
 unfold act at h
 split at h
 ·cases h
 cases ha : E.sp o.a with
 | none => rw [ha] at h; cases h
 | some az =>
  rw [ha] at h
  simp only at h
  split at h
  ·cases h
  rename_i hB
  have hbs : (o.kind = 4 ∨ o.kind = 7 ∨ o.kind = 10) → ((E.sp o.b).getD []).length ≤ 8 ∧ ∀ n ∈ (E.sp o.b).getD [], E.nm (Nd.bs n) = true := fun hk => by
   cases hb : E.sp o.b with
   | none => exact absurd ⟨hk, hb⟩ hB
   | some bs => exact ⟨K.few hb, K.names hb⟩
  split at h
  ·have := create_good K G hb (K.few ha) (K.names ha) h
   exact ⟨this.1, .inr this.2⟩
  split at h
  ·exact keep (bytes_good K G h)
  split at h
  ·rename_i hk
   exact keep (link_good K G hb (hbs (.inl hk)).1 (hbs (.inl hk)).2 h)
  split at h
  ·exact keep (unlink_good K G h)
  split at h
  ·exact keep (rmdir_good K G h)
  split at h
  ·rename_i hk
   exact keep (rename_good K G hb (hbs (.inr (.inl hk))).2 h)
  ·exact keep (chmod_good G h)
theorem new_good : Good E new := by
 have hn : node new.l 1 = some ⟨2, 493, ByteArray.empty, ByteArray.empty, []⟩ := rfl
 have hno : ∀ i, i ≠ 1 → node new.l i = none := fun i h => by
  show (if (1 : Int) = i then _ else _) = none
  rw [if_neg (fun e => h e.symm)]; rfl
 have hs : ∀ i n, step new.l i n = none := fun i n => by
  unfold step
  by_cases h : i = 1
  ·rw [h, hn]; rfl
  ·rw [hno i h]; rfl
 refine ⟨⟨List.pairwise_singleton _ _, fun y hy => ?_, by decide, ⟨_, hn, rfl⟩, fun {i x} h => ?_, fun {i n c} h => (by rw [hs] at h; cases h), ?_⟩, fun {i x} h => ?_⟩
 ·rw [List.mem_singleton.1 hy]; decide
 ·by_cases hi : i = 1
  ·rw [hi, hn] at h
   injection h with h
   rw [← h]
   exact ⟨by decide, by decide, by decide, fun e he => (by cases he), rfl, .inr (.inl ⟨rfl, rfl, rfl⟩)⟩
  ·rw [hno i hi] at h; cases h
 ·exact ⟨fun {i n c} h => (by rw [hs] at h; cases h), fun i n h => (by rw [hs] at h; cases h), fun {c i n i' n'} _ h => (by rw [hs] at h; cases h), fun {ns j} h => by
   rw [(Gr.go_leaf (hs 1) h).1]; decide⟩
 ·by_cases hi : i = 1
  ·exact ⟨[], by rw [hi]; rfl⟩
  ·rw [hno i hi] at h; cases h
end
end Fs

namespace Fs
open Nd (En Node none0)
open Gr (go upd)
section
variable {E : Env} {f : FS}
theorem fold_le {l : List En} {g : En → Nat} {M : Nat} : ∀ {a : Nat}, a ≤ M → (∀ e ∈ l, g e ≤ M) → l.foldl (fun n e => max n (g e)) a ≤ M := by
 induction l with
 | nil => exact fun h _ => h
 | cons x l ih =>
  intro a ha h
  exact ih (Nat.max_le.2 ⟨ha, h x List.mem_cons_self⟩) (fun e he => h e (List.mem_cons_of_mem _ he))
theorem Half.ent_step (H : Half E f) (K : EnvOk E) {i : Int} {x : Node} (hx : node f.l i = some x) {e : En} (he : e ∈ x.ents) : step f.l i e.1 = some e.2 :=
 step_iff.2 ⟨x, hx, Nd.find_at K.rising ((Nd.rises_iff K.rising _).1 (H.right hx).rise) he⟩
theorem Half.deep_le (H : Half E f) (K : EnvOk E) : ∀ (k M : Nat) {i : Int}, (∀ rs j, go (step f.l) i rs = some j → rs.length ≤ M) → deep f.l k i ≤ M := by
 intro k
 induction k with
 | zero => exact fun M i _ => Nat.zero_le _
 | succ k ih =>
  intro M i h
  show (nodeD f.l i).ents.foldl (fun n e => max n (1 + deep f.l k e.2)) 0 ≤ M
  refine fold_le (Nat.zero_le _) fun e he => ?_
  cases hx : node f.l i with
  | none =>
   unfold nodeD at he
   rw [hx] at he
   cases he
  | some x =>
   rw [nodeD_of hx] at he
   have hs := H.ent_step K hx he
   have h1 := h [e.1] e.2 (Gr.go_cons.2 ⟨e.2, hs, rfl⟩)
   simp only [List.length_singleton] at h1
   have := ih (M - 1) (i := e.2) (fun rs j hr => by
    have := h (e.1 :: rs) j (Gr.go_cons.2 ⟨e.2, hs, hr⟩)
    simp only [List.length_cons] at this
    omega)
   omega
variable {az bs : List ByteArray} {i c d : Int} {ps qs : List ByteArray} {m n : ByteArray}
theorem Moved.ne_c (M : Moved f az bs i c d ps qs m n) (H : Half E f) : i ≠ c := fun e => H.tree.ahead (qs := []) M.c_at M.was (by rw [e]; rfl)
theorem Moved.ne_d (M : Moved f az bs i c d ps qs m n) (H : Half E f) : i ≠ d := fun e => M.out_way H (rs := []) (by rw [e]; rfl)
theorem Moved.old (M : Moved f az bs i c d ps qs m n) (H : Half E f) : go (upd (step f.l) c m none) 1 ps = some c := by
 rcases Gr.go_cut M.c_at M.was with h | ⟨_, rs, _, _, h⟩
 ·exact h
 ·exact absurd h (H.tree.ahead M.c_at M.was)
structure Lists (E : Env) (f : FS) (c d i : Int) (m n : ByteArray) (xc x1 : Node) : Prop where
 at_c : node f.l c = some xc
 kind_c : xc.kind = 2
 has_m : Nd.find xc.ents m = some i
 l1 : ∀ k, node (leave f.l c m) k = if k = c then some { xc with ents := Nd.cut xc.ents m } else node f.l k
 at_d : node (leave f.l c m) d = some x1
 kind_d : x1.kind = 2
 no_n : Nd.find x1.ents n = none
 len_d : x1.ents.length < 64
 l2 : ∀ k, node (enter E (leave f.l c m) d n i) k = if k = d then some { x1 with ents := Nd.ins E.lt x1.ents n i } else node (leave f.l c m) k
theorem Moved.lists (M : Moved f az bs i c d ps qs m n) (K : EnvOk E) (H : Half E f) (hnm : ∀ k ∈ bs, E.nm (Nd.bs k) = true) : ∃ xc x1, Lists E f c d i m n xc x1 := by
 obtain ⟨_, hst, hdr⟩ := H.less K M.was
 obtain ⟨x, hx, hk, hf, he⟩ := H.leave_eq M.was
 have hn1 : E.nm (Nd.bs n) = true := hnm n (by rw [M.b_is]; simp)
 have hs1 : step (leave f.l c m) d n = none := by rw [hst]; exact M.free'
 have hl1 : (nodeD (leave f.l c m) d).ents.length < 64 := by
  by_cases e : d = c
  ·subst e
   have : node (leave f.l d m) d = some { x with ents := Nd.cut x.ents m } := by rw [he, node_set, if_pos rfl]
   rw [nodeD_of this]
   have h1 := cut_less hf
   have h2 := (H.right hx).len
   show (Nd.cut x.ents m).length < 64
   omega
  ·have : nodeD (leave f.l c m) d = nodeD f.l d := by unfold nodeD; rw [he, node_set, if_neg e]
   rw [this]
   rcases M.room with h | h
   ·exact h
   ·exact absurd h.symm e
 obtain ⟨x1, hx1, hk1, he1⟩ := enter_eq (c := i) (show isDir (leave f.l c m) d by rw [hdr]; exact M.dir) hn1 hs1 hl1
 rw [nodeD_of hx1] at hl1
 refine ⟨x, x1, hx, hk, hf, fun k => by rw [he, node_set], hx1, hk1, ?_, hl1, fun k => by rw [he1, node_set]⟩
 unfold step at hs1
 rw [hx1] at hs1
 exact hs1
theorem Moved.back (M : Moved f az bs i c d ps qs m n) (K : EnvOk E) (G : Good E f) (hb : f.next ≤ 2147483647) (hna : ∀ k ∈ az, E.nm (Nd.bs k) = true) (hnb : ∀ k ∈ bs, E.nm (Nd.bs k) = true) :
  walk (enter E (leave f.l c m) d n i) 1 bs = .ok i ∧ node (enter E (leave f.l c m) d n i) i = node f.l i ∧ (∀ j, walk (enter E (leave f.l c m) d n i) 1 az ≠ .ok j) ∧
  rename E ⟨enter E (leave f.l c m) d n i, f.next⟩ bs az = .ok f := by
 have H := G.toHalf
 have B := M.behind K G hb hnb
 have HB := B.good.toHalf
 obtain ⟨xc, x1, L⟩ := M.lists K H hnb
 have up := Gr.upd_more (v := some i) M.free'
 have hdq : go (step (enter E (leave f.l c m) d n i)) 1 qs = some d := by rw [B.steps]; exact Gr.go_less up (M.way H)
 have hcp : go (step (enter E (leave f.l c m) d n i)) 1 ps = some c := by rw [B.steps]; exact Gr.go_less up (M.old H)
 have hdn : step (enter E (leave f.l c m) d n i) d n = some i := by rw [B.steps]; exact Gr.upd_same ..
 have hcm : step (enter E (leave f.l c m) d n i) c m = none := by
  rw [B.steps, Gr.upd_other (fun e => M.ne ⟨e.1.symm, e.2.symm⟩)]
  exact Gr.upd_same ..
 have hwb : walk (enter E (leave f.l c m) d n i) 1 bs = .ok i := by
  rw [M.b_is]
  exact HB.walk_iff.2 (Gr.go_snoc.2 ⟨d, hdq, hdn⟩)
 have hni : node (enter E (leave f.l c m) d n i) i = node f.l i := by rw [L.l2, if_neg (M.ne_d H), L.l1, if_neg (M.ne_c H)]
 refine ⟨hwb, hni, fun j hj => ?_, ?_⟩
 ·have h := HB.walk_iff.1 hj
  rw [M.a_is] at h
  obtain ⟨k, h1, h2⟩ := Gr.go_snoc.1 h
  obtain rfl := go_fun hcp h1
  have h2 : step (enter E (leave f.l c m) d n i) c m = some j := h2
  rw [hcm] at h2; cases h2
 ·have hfresh : fresh (enter E (leave f.l c m) d n i) az = .ok (c, m) := HB.fresh_iff.2 ⟨ps, M.a_is, hcp, by show isDir (enter E (leave f.l c m) d n i) c; rw [B.dirs]; exact H.tree.leaf M.was, hcm⟩
  have hplace : place (enter E (leave f.l c m) d n i) bs = .ok (d, n) := HB.place_iff.2 ⟨qs, M.b_is, hdq, by show isDir (enter E (leave f.l c m) d n i) d; rw [B.dirs]; exact M.dir⟩
  unfold rename
  simp only [hwb]
  rw [if_neg M.notTop, if_neg (fun h => by
   obtain ⟨z, hz⟩ := (prefix_iff _ _).1 h.2
   have h1 : go (step f.l) 1 (bs ++ z) = some i := by
    rw [← hz, M.a_is]; exact Gr.go_snoc.2 ⟨c, M.c_at, M.was⟩
   obtain ⟨k, h2, _⟩ := Gr.go_append_iff.1 h1
   rw [M.b_is] at h2
   obtain ⟨e, h3, h4⟩ := Gr.go_snoc.1 h2
   obtain rfl := go_fun M.d_at h3
   rw [M.free] at h4; cases h4)]
  rw [hfresh, hplace]
  simp only
  have hnc : node (enter E (leave f.l c m) d n i) c = if c = d then some { x1 with ents := Nd.ins E.lt x1.ents n i } else some { xc with ents := Nd.cut xc.ents m } := by
   rw [L.l2]
   split
   ·rfl
   ·rw [L.l1, if_pos rfl]
  have hlen : c ≠ d → (nodeD (enter E (leave f.l c m) d n i) c).ents.length < 64 := fun e => by
   rw [if_neg e] at hnc
   rw [nodeD_of hnc]
   have h1 := cut_less L.has_m
   have h2 := (H.right L.at_c).len
   show (Nd.cut xc.ents m).length < 64
   omega
  have hdeep : az.length + deep (enter E (leave f.l c m) d n i) 9 i ≤ 8 := by
   have h8 := H.tree.deep (show go (step f.l) 1 az = some i by rw [M.a_is]; exact Gr.go_snoc.2 ⟨c, M.c_at, M.was⟩)
   have := HB.deep_le K 9 (8 - az.length) (i := i) (fun rs j hr => by
    have hr : go (step (enter E (leave f.l c m) d n i)) i rs = some j := hr
    rw [B.steps] at hr
    have hr := Gr.go_less Gr.upd_less (Gr.go_keep (fun q hq => M.out_way H (Gr.go_less Gr.upd_less hq)) hr)
    have := H.tree.deep (show go (step f.l) 1 (az ++ rs) = some j by rw [M.a_is]; exact Gr.go_append_iff.2 ⟨i, Gr.go_snoc.2 ⟨c, M.c_at, M.was⟩, hr⟩)
    rw [List.length_append] at this
    omega)
   have this : deep (enter E (leave f.l c m) d n i) 9 i ≤ 8 - az.length := this
   omega
  rw [if_neg (by
   rintro (⟨h1, h2⟩ | h)
   ·have := hlen (fun e => h2 e.symm); omega
   ·omega)]
  congr 1
  show (⟨_, f.next⟩ : FS) = f
  have hl : enter E (leave (enter E (leave f.l c m) d n i) d n) c m i = f.l := by
   have h2d : node (enter E (leave f.l c m) d n i) d = some { x1 with ents := Nd.ins E.lt x1.ents n i } := by rw [L.l2, if_pos rfl]
   have hcut : Nd.cut (Nd.ins E.lt x1.ents n i) n = x1.ents := Nd.cut_ins L.no_n
   have he3 := leave_is (n := n) h2d L.kind_d (by show (Nd.find (Nd.ins E.lt x1.ents n i) n).isSome = true; rw [Nd.find_ins_same L.no_n]; rfl)
   have h3 : ∀ k, node (leave (enter E (leave f.l c m) d n i) d n) k = node (leave f.l c m) k := fun k => by
    rw [he3, node_set]
    split
    ·rename_i e
     rw [e, L.at_d]
     show some ({ x1 with ents := Nd.cut (Nd.ins E.lt x1.ents n i) n } : Node) = _
     rw [hcut]
    ·rename_i e
     rw [L.l2, if_neg e]
   have h3c : node (leave (enter E (leave f.l c m) d n i) d n) c = some { xc with ents := Nd.cut xc.ents m } := by rw [h3, L.l1, if_pos rfl]
   have hsort := (Nd.rises_iff K.rising _).1 (H.right L.at_c).rise
   have he4 := enter_is (E := E) (c := i) h3c L.kind_c (hna m (by rw [M.a_is]; simp)) (Nd.cut_none K.rising hsort) (by
    have h1 := cut_less L.has_m
    have h2 := (H.right L.at_c).len
    show (Nd.cut xc.ents m).length < 64
    omega)
   have hH3 := (HB.less K (d := d) (n := n) (c := i) hdn).1
   refine rising_ext ?_ H.inos fun k => ?_
   ·rw [he4]; exact rising_set hH3.inos (.inl (some_of h3c))
   ·rw [he4, node_set]
    split
    ·rename_i e
     rw [e, L.at_c]
     show some ({ xc with ents := Nd.ins E.lt (Nd.cut xc.ents m) m i } : Node) = _
     rw [Nd.ins_cut K.rising hsort L.has_m]
    ·rename_i e
     rw [h3, L.l1, if_neg e]
  rw [hl]
end
end Fs
