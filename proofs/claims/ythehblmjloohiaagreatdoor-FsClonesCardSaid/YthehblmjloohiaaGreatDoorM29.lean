/- Layer 11, a part of the proofs: no statement of its own. -/
import Derived.Test.YthehblmjloohiaaGreatDoorM28
namespace Go.Proofs.YthehblmjloohiaaGreatDoor
set_option maxRecDepth 100000
open Go.RowKit Go.Less T6
theorem put_ok {s d : List UInt8} {off : Int} (hs : s.length ≤ 4096) (h : (putR s off d).2 = 0) : (putR s off d).1.length ≤ 4096 := by
 unfold putR at h ⊢
 split at h
 ·simp at h
 rename_i h1
 rw [if_neg h1]
 split at h
 ·simp at h
 rename_i h2
 rw [if_neg h2]
 show (Chk.put s off.toNat d).length ≤ 4096
 by_cases hd : d = []
 ·subst hd; rw [Chk.put_nil]; exact hs
 ·rw [Chk.put_length hd]; omega
theorem trunc_ok {s : List UInt8} {n : Int} (h : (truncR s n).2 = 0) : (truncR s n).1.length ≤ 4096 := by
 unfold truncR at h ⊢
 split at h
 ·simp at h
 rename_i h1
 rw [if_neg h1]
 split at h
 ·simp at h
 rename_i h2
 rw [if_neg h2]
 show (Chk.trunc s n.toNat).length ≤ 4096
 rw [Chk.trunc_length]; omega
theorem copy_ok {s t : List UInt8} {off f n : Int} (hs : s.length ≤ 4096) (h : (copyR s off t f n).2 = 0) : (copyR s off t f n).1.length ≤ 4096 := by
 unfold copyR at h ⊢
 split at h
 ·simp at h
 ·rename_i h1
  rw [if_neg h1]
  exact put_ok hs h
theorem size_of {s : ByteArray} {n : Nat} (h : s.size ≤ n) : s.data.toList.length ≤ n := by rw [Array.length_toList]; exact h
theorem env_ok : Fs.EnvOk env where
 rising := rising
 few h := by
  obtain ⟨us, hus, rfl⟩ := spl_some h
  rw [List.length_map]
  exact (split_shape hus).1
 names h := spl_right h
 put s o d hs h := by
  show (lstr _).size ≤ 4096
  rw [lstr_size]
  exact put_ok (size_of hs) h
 trunc s n h := by
  show (lstr _).size ≤ 4096
  rw [lstr_size]
  exact trunc_ok h
 copy s o t f n hs h := by
  show (lstr _).size ≤ 4096
  rw [lstr_size]
  exact copy_ok (size_of hs) h
theorem dp_of {f : Fs.FS} (H : Fs.Half env f) : ∀ (k : Nat) {i : Int}, (∀ rs j, Gr.go (Fs.step f.l) i rs = some j → rs.length ≤ k) → Dp f.l k i := by
 intro k
 induction k with
 | zero =>
  intro i h
  show (Fs.nodeD f.l i).ents = []
  cases hn : Fs.node f.l i with
  | none => unfold Fs.nodeD; rw [hn]; rfl
  | some x =>
   rw [Fs.nodeD_of hn]
   cases hx : x.ents with
   | nil => rfl
   | cons e es =>
    have := H.ent_step env_ok hn (e := e) (by rw [hx]; exact List.mem_cons_self)
    have := h [e.1] e.2 (Gr.go_cons.2 ⟨e.2, this, rfl⟩)
    simp at this
 | succ k ih =>
  intro i h e he
  cases hn : Fs.node f.l i with
  | none => unfold Fs.nodeD at he; rw [hn] at he; cases he
  | some x =>
   rw [Fs.nodeD_of hn] at he
   have hs := H.ent_step env_ok hn he
   exact ih fun rs j hr => by
    have := h (e.1 :: rs) j (Gr.go_cons.2 ⟨e.2, hs, hr⟩)
    simpa using this
theorem dp_nine {f : Fs.FS} (H : Fs.Half env f) {ns : List ByteArray} {i : Int} (h : Fs.walk f.l 1 ns = .ok i) : Dp f.l 9 i := dp_of H 9 fun rs j hr => by
 have := H.tree.deep (Gr.go_append_iff.2 ⟨i, H.walk_iff.1 h, hr⟩)
 rw [List.length_append] at this
 omega
theorem within_is {a b : ByteArray} {na nb : List ByteArray} (ha : spl a = some na) (hb : spl b = some nb) : Nm.within a.data.toList b.data.toList = decide (nb.take na.length = na) := by
 obtain ⟨us, hus, rfl⟩ := spl_some ha
 obtain ⟨vs, hvs, rfl⟩ := spl_some hb
 unfold Nm.within
 rw [hus, hvs]
 have hinj : ∀ u v : List (List UInt8), u.map lstr = v.map lstr ↔ u = v := fun u v => by
  constructor
  ·intro h
   have := congrArg dat h
   rwa [dat_lstr, dat_lstr] at this
  ·intro h; rw [h]
 rw [List.length_map, ← List.map_take]
 show us.isPrefixOf vs = _
 cases hp : us.isPrefixOf vs with
 | true =>
  obtain ⟨z, rfl⟩ := (Nm.isPrefixOf_iff us vs).1 hp
  exact (decide_eq_true (by rw [List.take_append_of_le_length (Nat.le_refl _), List.take_length])).symm
 | false =>
  refine (decide_eq_false fun h => ?_).symm
  have h2 := (hinj _ _).1 h
  rw [(Nm.isPrefixOf_iff us vs).2 ⟨vs.drop us.length, by conv => lhs; rw [← List.take_append_drop us.length vs, h2]⟩] at hp
  cases hp
theorem slashes {b : ByteArray} {nb : List ByteArray} (h : spl b = some nb) (hne : nb ≠ []) : Lib.countByte b.data.toList 47 = nb.length := by
 obtain ⟨us, hus, rfl⟩ := spl_some h
 obtain ⟨hp, -, hr⟩ := Nm.split_path hus
 rw [hp]
 unfold Nm.pathOf
 rw [if_neg (fun e => hne (by rw [e]; rfl)), List.length_map]
 unfold Lib.countByte
 clear hp hus h hne
 revert hr
 induction us with
 | nil => intro _; rfl
 | cons u us ih =>
  intro hr
  rw [List.all_cons, Bool.and_eq_true] at hr
  have h0 : List.count 47 u = 0 := List.count_eq_zero.2 fun hm => Nm.right_none hr.1 _ hm rfl
  rw [List.map_cons, List.flatten_cons, List.count_append, List.count_cons, h0, ih hr.2, List.length_cons]
  simp
  omega
theorem fresh_ne {l : List Fs.Item} {ns : List ByteArray} {r : Int × ByteArray} (h : Fs.fresh l ns = .ok r) : ns ≠ [] := fun e => by rw [e] at h; cases h
end Go.Proofs.YthehblmjloohiaaGreatDoor
