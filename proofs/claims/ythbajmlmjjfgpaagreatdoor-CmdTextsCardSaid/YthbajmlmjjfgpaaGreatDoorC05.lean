/- A part of the proofs. -/
import Derived.Test.YthbajmlmjjfgpaaGreatDoorC04
set_option maxRecDepth 1000000
set_option maxHeartbeats 16000000
open Go.Lib (hid)
open Go.Proofs.Tryz
namespace Go.Proofs.YthbajmlmjjfgpaaGreatDoor.T6
open T8
open Go.RowKit Sha
theorem trunc_any (s : ByteArray) (n : Int) (w : World) :
  Calls prog 71 #[.string s, .int .i64 n] w (Both (truncR s.data.toList n) w) := by
 by_cases h1 : n < 0
 ·have HR := hid (show truncR s.data.toList n = ([], 1) from by unfold truncR; rw [if_pos h1])
  go_enter func71, ntmps71
  go_wp2_with fail
  go_ret2
  show Both (truncR s.data.toList n) w _ _
  rw [HR.out]
  exact ⟨rfl, Below.refl _ _⟩
 ·have h1' : 0 <= n := by omega
  by_cases h2 : 4096 < n
  ·have HR := hid (show truncR s.data.toList n = ([], 3) from by unfold truncR; rw [if_neg h1, if_pos h2])
   go_enter func71, ntmps71
   go_wp2_with fail
   go_ret2
   show Both (truncR s.data.toList n) w _ _
   rw [HR.out]
   exact ⟨rfl, Below.refl _ _⟩
  ·obtain ⟨m, rfl⟩ : ∃ m : Nat, n = (m : Int) := ⟨n.toNat, by omega⟩
   have h2' : (m : Int) <= 4096 := by omega
   have HR := hid (show truncR s.data.toList (m : Int) = (Chk.trunc s.data.toList m, 0) from by unfold truncR; rw [if_neg h1, if_neg h2]; rfl)
   have HX := hid (sized_any s m w (by omega))
   clear h1 h2
   go_enter func71, ntmps71
   go_wp2_with fail
   refine HX.out.mono ?_
   rintro e w1 ⟨g, hg, rfl, hf, hw⟩
   have hcv := hf.text m (by rw [Chk.trunc_length]) m
   have HW := hid hw
   clear hf hw
   generalize Chk.trunc s.data.toList m = l at hcv HR
   dsimp only
   go_wp2_with fail
   go_ret2
   show Both (truncR s.data.toList (m : Int)) w _ _
   rw [HR.out]
   exact ⟨rfl, HW.out⟩
theorem put_any (s : ByteArray) (off : Int) (d : ByteArray) (w : World) (hs : s.size <= 1000000) (hd : d.size <= 140737488355328) (ho : off <= 9223372036854775807) :
  Calls prog 36 #[.string s, .int .i64 off, .string d] w (Both (putR s.data.toList off d.data.toList) w) := by
 have hdl : d.data.toList.length = d.size := Array.length_toList
 have hsl : s.data.toList.length = s.size := Array.length_toList
 by_cases h1 : off < 0
 ·have HR := hid (show putR s.data.toList off d.data.toList = ([], 1) from by unfold putR; rw [if_pos h1])
  clear hdl hsl
  go_enter func36, ntmps36
  go_wp2_with fail
  go_ret2
  show Both (putR s.data.toList off d.data.toList) w _ _
  rw [HR.out]
  exact ⟨rfl, Below.refl _ _⟩
 ·have h1' : 0 <= off := by omega
  by_cases h2 : 4096 < off + (d.size : Int)
  ·have HR := hid (show putR s.data.toList off d.data.toList = ([], 3) from by unfold putR; rw [if_neg h1, if_pos (by rw [hdl]; exact h2)])
   have h2' : 4096 - (d.size : Int) < off := by omega
   clear hdl hsl h2
   go_enter func36, ntmps36
   go_wp2_with fail
   go_ret2
   show Both (putR s.data.toList off d.data.toList) w _ _
   rw [HR.out]
   exact ⟨rfl, Below.refl _ _⟩
  ·have h2' : off <= 4096 - (d.size : Int) := by omega
   have HR := hid (show putR s.data.toList off d.data.toList = (Chk.put s.data.toList off.toNat d.data.toList, 0) from by unfold putR; rw [if_neg h1, if_neg (by rw [hdl]; exact h2)])
   by_cases h3 : d.size = 0
   ·have hde : d.toList.isEmpty = true := str_isEmpty0 h3
    have HX := hid (clone_any s w (by omega))
    have HP := hid (show lstr (Chk.put s.data.toList off.toNat d.data.toList) = s from by rw [show d.data.toList = [] from by rw [str_empty h3], Chk.put_nil]; rfl)
    clear hdl hsl h2 h3
    go_enter func36, ntmps36
    go_wp2_with fail
    refine HX.out.mono ?_
    rintro e w1 ⟨rfl, hw⟩
    dsimp only
    go_wp2_with fail
    go_ret2
    show Both (putR s.data.toList off d.data.toList) w _ _
    rw [HR.out]
    refine ⟨?_, hw⟩
    show _ = Ending.returned (.tuple #[.string (lstr (Chk.put s.data.toList off.toNat d.data.toList)), .int .i64 0])
    rw [HP.out]
    rfl
   ·obtain ⟨o, rfl⟩ : ∃ o : Nat, off = (o : Int) := ⟨off.toNat, by omega⟩
    rw [Int.toNat_natCast] at HR
    exact put_some s o d w hs (by omega) (by omega) HR
theorem get_text (s : ByteArray) (o n : Nat) (ho : o <= s.size) : (s.extract o s.size).extract 0 (min n (s.size - o)) = lstr (Chk.get s.data.toList o n) := by
 have hl : s.data.toList.length = s.size := Array.length_toList
 have h1 : s.extract o s.size = lstr (s.data.toList.drop o) := by
  have h := cut_text s o (s.size - o) (by omega)
  rw [show o + (s.size - o) = s.size from by omega] at h
  rw [h, List.take_of_length_le (by rw [List.length_drop, hl]; omega)]
 have h2 := cut_text (lstr (s.data.toList.drop o)) 0 (min n (s.size - o)) (by rw [lstr_size, List.length_drop, hl]; omega)
 rw [Nat.zero_add, lstr_data, List.drop_zero] at h2
 rw [h1, h2, Chk.get_take]
 congr 1
 by_cases hn : n <= s.size - o
 ·rw [Nat.min_eq_left hn]
 ·rw [Nat.min_eq_right (by omega), List.take_of_length_le (by rw [List.length_drop, hl]; omega), List.take_of_length_le (by rw [List.length_drop, hl]; omega)]
theorem get_over (s : List UInt8) (o n : Nat) (ho : s.length <= o) : Chk.get s o n = Chk.get s s.length n := by
 rw [Chk.get_take, Chk.get_take, List.drop_eq_nil_of_le ho, List.drop_eq_nil_of_le (Nat.le_refl _)]
theorem get_any (s : ByteArray) (off n : Int) (w : World) (hs : s.size <= 1000000) (ho : off <= 9223372036854775807) (hn : n <= 9223372036854775807) :
  Calls prog 90 #[.string s, .int .i64 off, .int .i64 n] w (Both (getR s.data.toList off n) w) := by
 have hsl : s.data.toList.length = s.size := Array.length_toList
 by_cases h1 : off < 0 \/ n < 0
 ·have HR := hid (show getR s.data.toList off n = ([], 1) from by unfold getR; rw [if_pos h1])
  have key : ∀ e w', e = Ending.returned (.tuple #[.string ⟨#[]⟩, .int .i64 1]) /\ w = w' -> Both (getR s.data.toList off n) w e w' := by
   rintro e w' ⟨rfl, rfl⟩
   rw [HR.out]
   exact ⟨rfl, Below.refl _ _⟩
  refine Calls.mono ?_ key
  clear key hsl
  by_cases a1 : off < 0
  ·go_enter func90, ntmps90
   go_wp2_with fail
   go_ret2
   exact ⟨rfl, rfl⟩
  ·have a2 : n < 0 := by omega
   clear h1
   go_enter func90, ntmps90
   go_wp2_with fail
   go_ret2
   exact ⟨rfl, rfl⟩
 ·have h2 : 0 <= off := by omega
  have h3 : 0 <= n := by omega
  obtain ⟨o, rfl⟩ : ∃ o : Nat, off = (o : Int) := ⟨off.toNat, by omega⟩
  obtain ⟨m, rfl⟩ : ∃ m : Nat, n = (m : Int) := ⟨n.toNat, by omega⟩
  have HR := hid (show getR s.data.toList (o : Int) (m : Int) = (Chk.get s.data.toList o m, 0) from by unfold getR; rw [if_neg h1]; rfl)
  obtain ⟨p, hp⟩ : ∃ p, min o s.size = p := ⟨_, rfl⟩
  have hp1 : min (o : Int) (s.size : Int) = (p : Int) := by omega
  have hps : p <= s.size := by omega
  have hpsi : (p : Int) <= (s.size : Int) := by omega
  have hEq : Chk.get s.data.toList o m = Chk.get s.data.toList p m := by
   by_cases hos : o <= s.size
   ·rw [show p = o from by omega]
   ·rw [get_over _ o m (by rw [hsl]; omega), hsl, show s.size = p from by omega]
  have hT := get_text s p m hps
  rw [<- hEq] at hT
  have hxs : (s.extract p s.size).size = s.size - p := by rw [ByteArray.size_extract]; omega
  obtain ⟨q, hq⟩ : ∃ q, min m (s.size - p) = q := ⟨_, rfl⟩
  have hq1 : min (m : Int) ((s.size - p : Nat) : Int) = (q : Int) := by omega
  have hq2 : (q : Int) <= ((s.size - p : Nat) : Int) := by omega
  rw [hq] at hT
  have HX := hid (clone_any (lstr (Chk.get s.data.toList o m)) w (by rw [lstr_size, Chk.get_length]; omega))
  have HT := hid hT
  clear h1 hsl hEq hp hq hT
  generalize Chk.get s.data.toList o m = l at HR HT HX
  go_enter func90, ntmps90
  go_wp2_with fail
  rw [HT.out]
  refine HX.out.mono ?_
  rintro e w1 ⟨rfl, hw⟩
  have HW := hid hw
  clear hw
  dsimp only
  go_wp2_with fail
  go_ret2
  show Both (getR s.data.toList (o : Int) (m : Int)) w _ _
  rw [HR.out]
  exact ⟨rfl, HW.out⟩
theorem copy_any (s : ByteArray) (off : Int) (src : ByteArray) (f n : Int) (w : World) (hs : s.size <= 1000000) (hd : src.size <= 140737488355328) (ho : off <= 9223372036854775807) (hf : f <= 9223372036854775807) (hn : n <= 9223372036854775807) :
  Calls prog 111 #[.string s, .int .i64 off, .string src, .int .i64 f, .int .i64 n] w (Both (copyR s.data.toList off src.data.toList f n) w) := by
 have hdl : src.data.toList.length = src.size := Array.length_toList
 by_cases h1 : f < 0 \/ n < 0 \/ (src.size : Int) < f + n
 ·have HR := hid (show copyR s.data.toList off src.data.toList f n = ([], 1) from by unfold copyR; rw [if_pos (by rw [hdl]; exact h1)])
  clear hdl
  have key : ∀ e w', e = Ending.returned (.tuple #[.string ⟨#[]⟩, .int .i64 1]) /\ w = w' -> Both (copyR s.data.toList off src.data.toList f n) w e w' := by
   rintro e w' ⟨rfl, rfl⟩
   rw [HR.out]
   exact ⟨rfl, Below.refl _ _⟩
  refine Calls.mono ?_ key
  clear key
  by_cases a1 : f < 0
  ·go_enter func111, ntmps111
   go_wp2_with fail
   go_ret2
   exact ⟨rfl, rfl⟩
  ·by_cases a2 : n < 0
   ·go_enter func111, ntmps111
    go_wp2_with fail
    go_ret2
    exact ⟨rfl, rfl⟩
   ·by_cases a3 : (src.size : Int) < f
    ·clear h1
     go_enter func111, ntmps111
     go_wp2_with fail
     go_ret2
     exact ⟨rfl, rfl⟩
    ·have a4 : (src.size : Int) - f < n := by omega
     clear h1
     go_enter func111, ntmps111
     go_wp2_with fail
     go_ret2
     exact ⟨rfl, rfl⟩
 ·have hf0 : 0 <= f := by omega
  have hn0 : 0 <= n := by omega
  have hfn : f + n <= (src.size : Int) := by omega
  obtain ⟨a, rfl⟩ : ∃ a : Nat, f = (a : Int) := ⟨f.toNat, by omega⟩
  obtain ⟨m, rfl⟩ : ∃ m : Nat, n = (m : Int) := ⟨n.toNat, by omega⟩
  have HR := hid (show copyR s.data.toList off src.data.toList (a : Int) (m : Int) = putR s.data.toList off ((src.data.toList.drop a).take m) from by unfold copyR; rw [if_neg (by rw [hdl]; exact h1)]; rfl)
  have hcut := cut_text src a m (by omega)
  have HX := hid (put_any s off (lstr ((src.data.toList.drop a).take m)) w hs (by rw [lstr_size, List.length_take, List.length_drop, hdl]; omega) ho)
  rw [lstr_data] at HX
  have HC := hid hcut
  have h3 : (a : Int) <= (src.size : Int) := by omega
  have ht : ((a : Int) + (m : Int)).toNat = a + m := by omega
  clear h1 hdl hcut
  go_enter func111, ntmps111
  go_wp2_with fail
  rw [HC.out]
  refine HX.out.mono ?_
  rintro e w1 ⟨rfl, hw1⟩
  have HW := hid hw1
  clear hw1
  dsimp only
  go_wp2_with fail
  go_ret2
  show Both (copyR s.data.toList off src.data.toList (a : Int) (m : Int)) w _ _
  rw [HR.out]
  exact ⟨rfl, HW.out⟩
end Go.Proofs.YthbajmlmjjfgpaaGreatDoor.T6
namespace Gr
abbrev Step := Int -> ByteArray -> Option Int
def go (s : Step) : Int -> List ByteArray -> Option Int
 | i, [] => some i
 | i, n :: ns => match s i n with
  | none => none
  | some c => go s c ns
theorem go_cons {s : Step} {i : Int} {n : ByteArray} {ns : List ByteArray} {j : Int} : go s i (n :: ns) = some j ↔ ∃ c, s i n = some c /\ go s c ns = some j := by
 cases h : s i n with
 | none => simp [go, h]
 | some c => simp [go, h]
theorem go_append (s : Step) (i : Int) (a b : List ByteArray) : go s i (a ++ b) = (go s i a).bind λj => go s j b := by
 induction a generalizing i with
 | nil => rfl
 | cons n a ih =>
  rw [List.cons_append, go, go]
  cases s i n with
  | none => rfl
  | some c => exact ih c
theorem go_append_iff {s : Step} {i j : Int} {a b : List ByteArray} : go s i (a ++ b) = some j ↔ ∃ k, go s i a = some k /\ go s k b = some j := by
 rw [go_append, Option.bind_eq_some_iff]
theorem go_snoc {s : Step} {i j : Int} {a : List ByteArray} {n : ByteArray} : go s i (a ++ [n]) = some j ↔ ∃ k, go s i a = some k /\ s k n = some j := by
 rw [go_append_iff]
 constructor
 ·rintro ⟨k, h1, h2⟩
  obtain ⟨c, h3, h4⟩ := go_cons.1 h2
  injection h4 with h4
  exact ⟨k, h1, h4 ▸ h3⟩
 ·rintro ⟨k, h1, h2⟩
  exact ⟨k, h1, go_cons.2 ⟨j, h2, rfl⟩⟩
theorem snoc_cases {α : Type} (l : List α) : l = [] \/ ∃ m x, l = m ++ [x] := by
 cases h : l.reverse with
 | nil => exact .inl (by simpa using h)
 | cons x m => exact .inr ⟨m.reverse, x, by have := congrArg List.reverse h; simpa using this⟩
theorem go_less {s t : Step} (h : ∀ i n c, t i n = some c -> s i n = some c) {i j : Int} {ns : List ByteArray} (hg : go t i ns = some j) : go s i ns = some j := by
 induction ns generalizing i with
 | nil => exact hg
 | cons n ns ih =>
  obtain ⟨c, h1, h2⟩ := go_cons.1 hg
  exact go_cons.2 ⟨c, h i n c h1, ih h2⟩
def upd (s : Step) (d : Int) (n : ByteArray) (v : Option Int) : Step := λi m => if i = d /\ m = n then v else s i m
theorem upd_same (s : Step) (d : Int) (n : ByteArray) (v : Option Int) : upd s d n v d n = v := if_pos ⟨rfl, rfl⟩
theorem upd_other {s : Step} {d : Int} {n : ByteArray} {v : Option Int} {i : Int} {m : ByteArray} (h : ¬ (i = d /\ m = n)) : upd s d n v i m = s i m := if_neg h
theorem upd_less {s : Step} {d : Int} {n : ByteArray} : ∀ i m c, upd s d n none i m = some c -> s i m = some c := λi m c h => by
 unfold upd at h
 split at h
 ·cases h
 ·exact h
theorem upd_more {s : Step} {d : Int} {n : ByteArray} {v : Option Int} (hn : s d n = none) : ∀ i m c, s i m = some c -> upd s d n v i m = some c := λi m c h => by
 rw [upd_other]
 ·exact h
 ·rintro ⟨rfl, rfl⟩; rw [hn] at h; cases h
theorem upd_back {s : Step} {d : Int} {n : ByteArray} {v : Option Int} (w : Option Int) : upd (upd s d n w) d n v = upd s d n v := by
 funext i m
 unfold upd
 split <;> rfl
theorem upd_self {s : Step} {d : Int} {n : ByteArray} {v : Option Int} (h : s d n = v) : upd s d n v = s := by
 funext i m
 unfold upd
 split
 ·rename_i e; rw [e.1, e.2]; exact h.symm
 ·rfl
theorem go_add {s : Step} {d c : Int} {n : ByteArray} {i j : Int} {ns : List ByteArray} (hg : go (upd s d n (some c)) i ns = some j) :
  go s i ns = some j \/ ∃ ps qs, ns = ps ++ n :: qs /\ go s i ps = some d /\ go (upd s d n (some c)) c qs = some j := by
 induction ns generalizing i with
 | nil => exact .inl hg
 | cons m ns ih =>
  obtain ⟨k, h1, h2⟩ := go_cons.1 hg
  by_cases e : i = d /\ m = n
  ·obtain ⟨rfl, rfl⟩ := e
   rw [upd_same] at h1
   injection h1 with h1
   subst h1
   exact .inr ⟨[], ns, rfl, rfl, h2⟩
  ·rw [upd_other e] at h1
   rcases ih h2 with h | ⟨ps, qs, rfl, h3, h4⟩
   ·exact .inl (go_cons.2 ⟨k, h1, h⟩)
   ·exact .inr ⟨m :: ps, qs, rfl, go_cons.2 ⟨k, h1, h3⟩, h4⟩
theorem go_keep {s : Step} {d c : Int} {n : ByteArray} {i j : Int} {ns : List ByteArray} (hout : ∀ qs, go s i qs ≠ some d) (hg : go (upd s d n (some c)) i ns = some j) : go s i ns = some j := by
 rcases go_add hg with h | ⟨ps, qs, _, h, _⟩
 ·exact h
 ·exact absurd h (hout ps)
structure Tree (s : Step) (dir : Int -> Prop) (r : Int) : Prop where
 leaf : ∀ {i n c}, s i n = some c -> dir i
 root : ∀ i n, s i n ≠ some r
 one : ∀ {c i n i' n'}, dir c -> s i n = some c -> s i' n' = some c -> i = i' /\ n = n'
 deep : ∀ {ns j}, go s r ns = some j -> ns.length <= 8
section
variable {s t : Step} {dir dir' : Int -> Prop} {r : Int}
theorem Tree.sub (T : Tree s dir r) (h : ∀ i n c, t i n = some c -> s i n = some c) : Tree t dir r :=
 ⟨λe => T.leaf (h _ _ _ e), λi n e => T.root i n (h _ _ _ e), λhd e e' => T.one hd (h _ _ _ e) (h _ _ _ e'), λe => T.deep (go_less h e)⟩
theorem Tree.turn (T : Tree s dir r) (h : ∀ c, dir' c -> dir c \/ ∀ i m, s i m ≠ some c) (h' : ∀ i n c, s i n = some c -> dir i -> dir' i) : Tree s dir' r :=
 ⟨λe => h' _ _ _ e (T.leaf e), T.root, (λ{c} _ _ _ _ hd e e' => by
  rcases h c hd with h | h
  ·exact T.one h e e'
  ·exact absurd e (h _ _)), T.deep⟩
theorem Tree.path_one (T : Tree s dir r) : ∀ (k : Nat) {a b : List ByteArray} {d : Int}, a.length <= k -> dir d -> go s r a = some d -> go s r b = some d -> a = b := by
 intro k
 induction k with
 | zero =>
  intro a b d hk hd h1 h2
  obtain rfl : a = [] := List.length_eq_zero_iff.1 (by omega)
  injection h1 with h1
  subst h1
  rcases snoc_cases b with rfl | ⟨b', n, rfl⟩
  ·rfl
  ·obtain ⟨i, _, h3⟩ := go_snoc.1 h2
   exact absurd h3 (T.root i n)
 | succ k ih =>
  intro a b d hk hd h1 h2
  rcases snoc_cases a with rfl | ⟨a', n, rfl⟩
  ·injection h1 with h1
   subst h1
   rcases snoc_cases b with rfl | ⟨b', m, rfl⟩
   ·rfl
   ·obtain ⟨i, _, h3⟩ := go_snoc.1 h2
    exact absurd h3 (T.root i m)
  ·obtain ⟨i, h3, h4⟩ := go_snoc.1 h1
   rcases snoc_cases b with rfl | ⟨b', m, rfl⟩
   ·injection h2 with h2
    subst h2
    exact absurd h4 (T.root i n)
   ·obtain ⟨i', h5, h6⟩ := go_snoc.1 h2
    obtain ⟨rfl, rfl⟩ := T.one hd h4 h6
    rw [ih (by simp at hk; omega) (T.leaf h4) h3 h5]
theorem Tree.path (T : Tree s dir r) {a b : List ByteArray} {d : Int} (hd : dir d) (h1 : go s r a = some d) (h2 : go s r b = some d) : a = b := T.path_one a.length (Nat.le_refl _) hd h1 h2
theorem Tree.no_loop (T : Tree s dir r) {a b : List ByteArray} {d : Int} (hd : dir d) (h1 : go s r a = some d) (h2 : go s d b = some d) : b = [] := by
 have := T.path hd h1 (go_append_iff.2 ⟨d, h1, h2⟩)
 simpa using this
theorem Tree.ahead (T : Tree s dir r) {a qs : List ByteArray} {d c : Int} {n : ByteArray} (h1 : go s r a = some d) (h2 : s d n = some c) : go s c qs ≠ some d := λh => by
 have := T.no_loop (T.leaf h2) h1 (go_cons.2 ⟨c, h2, h⟩)
 cases this
theorem Tree.add (T : Tree s dir r) {d c : Int} {n : ByteArray} {ps : List ByteArray} (hd : dir d) (hp : go s r ps = some d) (hc : c ≠ r) (hone : dir c -> ∀ i m, s i m ≠ some c) (hout : ∀ qs, go s c qs ≠ some d)
  (hdeep : ∀ qs j, go s c qs = some j -> ps.length + 1 + qs.length <= 8) : Tree (upd s d n (some c)) dir r := by
 have hs : ∀ i m k, upd s d n (some c) i m = some k -> (i = d /\ m = n /\ k = c) \/ s i m = some k := λi m k h => by
  by_cases e : i = d /\ m = n
  ·rw [e.1, e.2, upd_same] at h
   injection h with h
   exact .inl ⟨e.1, e.2, h.symm⟩
  ·rw [upd_other e] at h
   exact .inr h
 refine ⟨λ{i m k} h => ?_, λi m h => ?_, λ{k i m i' m'} hk h h' => ?_, λ{ns j} h => ?_⟩
 ·rcases hs _ _ _ h with ⟨rfl, _, _⟩ | h
  ·exact hd
  ·exact T.leaf h
 ·rcases hs _ _ _ h with ⟨_, _, e⟩ | h
  ·exact hc e.symm
  ·exact T.root _ _ h
 ·rcases hs _ _ _ h with ⟨rfl, rfl, rfl⟩ | h1
  ·rcases hs _ _ _ h' with ⟨rfl, rfl, _⟩ | h2
   ·exact ⟨rfl, rfl⟩
   ·exact absurd h2 (hone hk _ _)
  ·rcases hs _ _ _ h' with ⟨rfl, rfl, rfl⟩ | h2
   ·exact absurd h1 (hone hk _ _)
   ·exact T.one hk h1 h2
 ·rcases go_add h with h | ⟨az, qs, rfl, h1, h2⟩
  ·exact T.deep h
  ·have e := T.path hd h1 hp
   have h3 := hdeep qs j (go_keep hout h2)
   rw [e, List.length_append, List.length_cons]
   omega
theorem go_cut {d c : Int} {n : ByteArray} {i j : Int} {ns : List ByteArray} (hg : go s i ns = some j) (hsn : s d n = some c) :
  go (upd s d n none) i ns = some j \/ ∃ ps qs, ns = ps ++ n :: qs /\ go (upd s d n none) i ps = some d /\ go s c qs = some j := by
 have e : s = upd (upd s d n none) d n (some c) := by rw [upd_back, upd_self hsn]
 rw [e] at hg
 rcases go_add hg with h | ⟨ps, qs, h1, h2, h3⟩
 ·exact .inl h
 ·rw [<- e] at h3
  exact .inr ⟨ps, qs, h1, h2, h3⟩
theorem go_leaf {c j : Int} {qs : List ByteArray} (h : ∀ n, s c n = none) (hg : go s c qs = some j) : qs = [] /\ j = c := by
 cases qs with
 | nil => injection hg with hg; exact ⟨rfl, hg.symm⟩
 | cons n qs =>
  obtain ⟨k, h1, _⟩ := go_cons.1 hg
  rw [h n] at h1; cases h1
end
end Gr
namespace Nd
abbrev En := ByteArray × Int
def bs (b : ByteArray) : List UInt8 := b.data.toList
def mk (l : List UInt8) : ByteArray := ⟨l.toArray⟩
theorem mk_bs (b : ByteArray) : mk (bs b) = b := rfl
theorem bs_mk (l : List UInt8) : bs (mk l) = l := rfl
structure Node where
 kind : Int
 mode : Int
 data : ByteArray
 target : ByteArray
 ents : List En
 deriving DecidableEq
section
variable (lt : ByteArray -> ByteArray -> Bool) (nm : List UInt8 -> Bool)
def rises : List En -> Bool
 | [] => true
 | [_] => true
 | x :: y :: l => lt x.1 y.1 && rises (y :: l)
def entOk (x : En) : Bool := nm (bs x.1) && decide (1 <= x.2) && decide (x.2 <= 2147483647)
def right (x : Node) : Bool :=
 decide (0 <= x.mode) && decide (x.mode <= 511) && decide (x.ents.length <= 64) && x.ents.all (entOk nm) && rises lt x.ents &&
 (if x.kind = 1 then decide (x.target = ByteArray.empty) && decide (x.ents.length = 0) && decide (x.data.size <= 4096)
  else if x.kind = 2 then decide (x.target = ByteArray.empty) && decide (x.data = ByteArray.empty)
  else decide (x.kind = 3) && decide (x.data = ByteArray.empty) && decide (x.ents.length = 0) && decide (1 <= x.target.size) && decide (x.target.size <= 64))
end
def n4 (n : Nat) : List UInt8 := [UInt8.ofNat (n / 16777216), UInt8.ofNat (n / 65536), UInt8.ofNat (n / 256), UInt8.ofNat n]
def v4 : List UInt8 -> Nat
 | [a, b, c, d] => ((a.toNat * 256 + b.toNat) * 256 + c.toNat) * 256 + d.toNat
 | _ => 0
theorem v4_n4 {n : Nat} (h : n < 4294967296) : v4 (n4 n) = n := by
 simp only [v4, n4, UInt8.toNat_ofNat']; omega
theorem n4_v4 (l : List UInt8) (h : l.length = 4) : n4 (v4 l) = l := by
 match l, h with
 | [a, b, c, d], _ =>
  have ha := a.toNat_lt; have hb := b.toNat_lt; have hc := c.toNat_lt; have hd := d.toNat_lt
  simp only [v4, n4, List.cons.injEq, and_true]
  refine ⟨?_, ?_, ?_, ?_⟩ <;> apply UInt8.toNat_inj.1 <;> rw [UInt8.toNat_ofNat'] <;> omega
def entText (x : En) : List UInt8 := UInt8.ofNat x.1.size :: (bs x.1 ++ n4 x.2.toNat)
def text (x : Node) : List UInt8 :=
 UInt8.ofNat x.kind.toNat :: UInt8.ofNat (x.mode.toNat / 256) :: UInt8.ofNat x.mode.toNat :: (bs x.data ++ bs x.target ++ (x.ents.map entText).flatten)
def ents (l : List UInt8) : Option (List En) :=
 match l with
 | [] => some []
 | n :: t => if n.toNat + 4 <= t.length then (ents (t.drop (n.toNat + 4))).map λes => (mk (t.take n.toNat), (v4 ((t.drop n.toNat).take 4) : Int)) :: es else none
 termination_by l.length
 decreasing_by simp; omega
theorem len_bs (b : ByteArray) : (bs b).length = b.size := Array.length_toList
theorem size_mk (l : List UInt8) : (mk l).size = l.length := by rw [<- len_bs, bs_mk]
theorem ents_texts : ∀ es : List En, (∀ x ∈ es, x.1.size < 256 /\ 0 <= x.2 /\ x.2 < 4294967296) -> ents (es.map entText).flatten = some es := by
 intro es
 induction es with
 | nil => intro _; simp [ents]
 | cons x es ih =>
  intro h
  obtain ⟨h1, h2, h3⟩ := h x List.mem_cons_self
  rw [List.map_cons, List.flatten_cons]
  show ents (UInt8.ofNat x.1.size :: ((bs x.1 ++ n4 x.2.toNat) ++ (es.map entText).flatten)) = _
  rw [ents]
  have hn : (UInt8.ofNat x.1.size).toNat = x.1.size := by rw [UInt8.toNat_ofNat']; omega
  have hl : (n4 x.2.toNat).length = 4 := rfl
  rw [hn, if_pos (by simp [len_bs, hl]), List.append_assoc]
  have e1 : (bs x.1 ++ (n4 x.2.toNat ++ (es.map entText).flatten)).drop (x.1.size + 4) = (es.map entText).flatten := by
   rw [<- List.append_assoc]
   exact List.drop_left' (by rw [List.length_append, len_bs, hl])
  have e2 : (bs x.1 ++ (n4 x.2.toNat ++ (es.map entText).flatten)).take x.1.size = bs x.1 := List.take_left' (len_bs _)
  have e3 : ((bs x.1 ++ (n4 x.2.toNat ++ (es.map entText).flatten)).drop x.1.size).take 4 = n4 x.2.toNat := by
   rw [List.drop_left' (len_bs _)]; exact List.take_left' hl
  rw [e1, e2, e3, ih (λy hy => h y (List.mem_cons_of_mem _ hy)), v4_n4 (by omega), mk_bs]
  simp only [Option.map_some]
  rw [Int.toNat_of_nonneg h2]
theorem texts_ents (k : Nat) : ∀ (l : List UInt8) (es : List En), l.length <= k -> ents l = some es -> (es.map entText).flatten = l /\ ∀ x ∈ es, 0 <= x.2 := by
 induction k with
 | zero =>
  intro l es hk h
  have : l = [] := List.length_eq_zero_iff.1 (by omega)
  subst this
  rw [ents] at h; injection h with h; subst h; exact ⟨rfl, λx hx => by cases hx⟩
 | succ k ih =>
  intro l es hk h
  match l, hk, h with
  | [], _, h => rw [ents] at h; injection h with h; subst h; exact ⟨rfl, λx hx => by cases hx⟩
  | n :: t, hk, h =>
   rw [ents] at h
   split at h
   ·rename_i hlen
    cases he : ents (t.drop (n.toNat + 4)) with
    | none => rw [he] at h; cases h
    | some es' =>
     rw [he] at h
     simp only [Option.map_some, Option.some.injEq] at h
     subst h
     have := ih _ es' (by simp only [List.length_cons] at hk; rw [List.length_drop]; omega) he
     obtain ⟨h1, h2⟩ := this
     refine ⟨?_, λx hx => ?_⟩
     ·rw [List.map_cons, List.flatten_cons, h1]
      show UInt8.ofNat (mk (t.take n.toNat)).size :: ((bs (mk (t.take n.toNat)) ++ n4 (v4 ((t.drop n.toNat).take 4))) ++ t.drop (n.toNat + 4)) = n :: t
      have hs : (mk (t.take n.toNat)).size = n.toNat := by rw [size_mk, List.length_take]; omega
      rw [hs, bs_mk, n4_v4 _ (by rw [List.length_take, List.length_drop]; omega), UInt8.ofNat_toNat, List.append_assoc, <- List.drop_drop, List.take_append_drop, List.take_append_drop]
     ·rcases List.mem_cons.1 hx with rfl | hx
      ·exact Int.natCast_nonneg _
      ·exact h2 x hx
   ·cases h
def nodeOf (a b c : UInt8) (r : List UInt8) (es : List En) : Node := ⟨a.toNat, b.toNat * 256 + c.toNat, if a.toNat = 1 then mk r else ByteArray.empty, if a.toNat = 3 then mk r else ByteArray.empty, es⟩
def parse (lt : ByteArray -> ByteArray -> Bool) (nm : List UInt8 -> Bool) (s : List UInt8) : Option Node :=
 match s with
 | a :: b :: c :: r =>
  match (if a.toNat = 2 then ents r else some []) with
  | none => none
  | some es => if right lt nm (nodeOf a b c r es) = true then some (nodeOf a b c r es) else none
 | _ => none
section
variable {lt : ByteArray -> ByteArray -> Bool} {nm : List UInt8 -> Bool}
structure Right (lt : ByteArray -> ByteArray -> Bool) (nm : List UInt8 -> Bool) (x : Node) : Prop where
 m0 : 0 <= x.mode
 m1 : x.mode <= 511
 len : x.ents.length <= 64
 ok : ∀ e ∈ x.ents, nm (bs e.1) = true /\ 1 <= e.2 /\ e.2 <= 2147483647
 rise : rises lt x.ents = true
 kinds : (x.kind = 1 /\ x.target = ByteArray.empty /\ x.ents = [] /\ x.data.size <= 4096) \/ (x.kind = 2 /\ x.target = ByteArray.empty /\ x.data = ByteArray.empty) \/ (x.kind = 3 /\ x.data = ByteArray.empty /\ x.ents = [] /\ 1 <= x.target.size /\ x.target.size <= 64)
theorem right_iff (x : Node) : right lt nm x = true ↔ Right lt nm x := by
 constructor
 ·intro h
  unfold right at h
  simp only [Bool.and_eq_true, decide_eq_true_eq, List.all_eq_true, entOk] at h
  obtain ⟨⟨⟨⟨⟨h1, h2⟩, h3⟩, h4⟩, h5⟩, h6⟩ := h
  refine ⟨h1, h2, h3, λe he => ⟨(h4 e he).1.1, (h4 e he).1.2, (h4 e he).2⟩, h5, ?_⟩
  split at h6
  ·rename_i hk
   simp only [Bool.and_eq_true, decide_eq_true_eq] at h6
   exact .inl ⟨hk, h6.1.1, List.length_eq_zero_iff.1 h6.1.2, h6.2⟩
  ·split at h6
   ·rename_i hk
    simp only [Bool.and_eq_true, decide_eq_true_eq] at h6
    exact .inr (.inl ⟨hk, h6.1, h6.2⟩)
   ·simp only [Bool.and_eq_true, decide_eq_true_eq] at h6
    exact .inr (.inr ⟨h6.1.1.1.1, h6.1.1.1.2, List.length_eq_zero_iff.1 h6.1.1.2, h6.1.2, h6.2⟩)
 ·rintro ⟨h1, h2, h3, h4, h5, h6⟩
  unfold right
  simp only [Bool.and_eq_true, decide_eq_true_eq, List.all_eq_true, entOk]
  refine ⟨⟨⟨⟨⟨h1, h2⟩, h3⟩, λe he => ⟨⟨(h4 e he).1, (h4 e he).2.1⟩, (h4 e he).2.2⟩⟩, h5⟩, ?_⟩
  rcases h6 with ⟨hk, h7, h8, h9⟩ | ⟨hk, h7, h8⟩ | ⟨hk, h7, h8, h9, h10⟩
  ·rw [if_pos hk, h7, h8]; simp [h9]
  ·rw [if_neg (by omega), if_pos hk, h7, h8]; simp
  ·rw [if_neg (by omega), if_neg (by omega), hk, h7, h8]; simp [h9, h10]
theorem bs_empty : bs ByteArray.empty = [] := rfl
theorem parse_text {x : Node} (hn : ∀ l, nm l = true -> l.length < 256) (h : Right lt nm x) : parse lt nm (text x) = some x := by
 have hr := (right_iff x).2 h
 obtain ⟨kind, mode, data, target, es⟩ := x
 obtain ⟨h1, h2, h3, h4, h5, h6⟩ := h
 simp only at h1 h2 h3 h4 h5 h6
 have hes : ents (es.map entText).flatten = some es := ents_texts es λx hx => ⟨by rw [<- len_bs]; exact hn _ (h4 x hx).1, by have := (h4 x hx).2.1; omega, by have := (h4 x hx).2.2; omega⟩
 have hm : ((UInt8.ofNat (mode.toNat / 256)).toNat * 256 + (UInt8.ofNat mode.toNat).toNat : Int) = mode := by
  rw [UInt8.toNat_ofNat', UInt8.toNat_ofNat']; omega
 unfold text parse
 simp only [nodeOf]
 rcases h6 with ⟨rfl, rfl, rfl, h9⟩ | ⟨rfl, rfl, rfl⟩ | ⟨rfl, rfl, rfl, h9, h10⟩
 ·simp only [List.map_nil, List.flatten_nil, bs_empty, List.append_nil, mk_bs, hm]
  simpa using hr
 ·simp only [bs_empty, List.append_nil, List.nil_append, hm]
  simp only [show (UInt8.ofNat (Int.toNat 2)).toNat = 2 from rfl, if_true, hes]
  simpa using hr
 ·simp only [List.map_nil, List.flatten_nil, bs_empty, List.append_nil, List.nil_append, mk_bs, hm]
  simpa using hr
theorem text_parse {s : List UInt8} {x : Node} (h : parse lt nm s = some x) : text x = s /\ Right lt nm x := by
 match s, h with
 | [], h => cases h
 | [_], h => cases h
 | [_, _], h => cases h
 | a :: b :: c :: r, h =>
  have hb := b.toNat_lt; have hc := c.toNat_lt; unfold parse at h
  cases hes : (if a.toNat = 2 then ents r else some []) with
  | none => simp only [hes] at h; cases h
  | some es =>
   simp only [hes] at h
   by_cases hr : right lt nm (nodeOf a b c r es) = true
   ·rw [if_pos hr] at h
    injection h with h
    subst h
    have hR := (right_iff _).1 hr
    refine ⟨?_, hR⟩
    have e0 : UInt8.ofNat (Int.toNat (a.toNat : Int)) = a := by rw [Int.toNat_natCast, UInt8.ofNat_toNat]
    have e1 : UInt8.ofNat ((b.toNat * 256 + c.toNat : Int).toNat / 256) = b := by apply UInt8.toNat_inj.1; rw [UInt8.toNat_ofNat']; omega
    have e2 : UInt8.ofNat (b.toNat * 256 + c.toNat : Int).toNat = c := by apply UInt8.toNat_inj.1; rw [UInt8.toNat_ofNat']; omega
    unfold text
    simp only [nodeOf, e0, e1, e2]
    have hK := hR.kinds
    simp only [nodeOf] at hK
    congr 3
    rcases hK with ⟨hk, h7, h8, h9⟩ | ⟨hk, h7, h8⟩ | ⟨hk, h7, h8, h9, h10⟩
    ·have : a.toNat = 1 := by omega
     rw [h8, this]; simp [bs_mk, bs_empty]
    ·have : a.toNat = 2 := by omega
     rw [this, if_pos rfl] at hes
     rw [this]; simp [bs_empty, (texts_ents _ r es (Nat.le_refl _) hes).1]
    ·have : a.toNat = 3 := by omega
     rw [h8, this]; simp [bs_mk, bs_empty]
   ·rw [if_neg hr] at h; cases h
end
def find : List En -> ByteArray -> Option Int
 | [], _ => none
 | x :: l, k => if x.1 = k then some x.2 else find l k
def ins (lt : ByteArray -> ByteArray -> Bool) : List En -> ByteArray -> Int -> List En
 | [], k, i => [(k, i)]
 | x :: l, k, i => if lt x.1 k = true then x :: ins lt l k i else (k, i) :: x :: l
def cut : List En -> ByteArray -> List En
 | [], _ => []
 | x :: l, k => if x.1 = k then l else x :: cut l k
def none0 : Node := ⟨0, 0, ByteArray.empty, ByteArray.empty, []⟩
def withE (lt : ByteArray -> ByteArray -> Bool) (nm : List UInt8 -> Bool) (x : Node) (k : ByteArray) (i : Int) : Node × Int :=
 if x.kind ≠ 2 then (none0, 10) else if nm (bs k) = false then (none0, 14) else if (find x.ents k).isSome = true then (none0, 5) else if 64 <= x.ents.length then (none0, 3) else ({ x with ents := ins lt x.ents k i }, 0)
def withoutE (x : Node) (k : ByteArray) : Node × Int :=
 if x.kind ≠ 2 then (none0, 10) else if (find x.ents k).isSome = false then (none0, 4) else ({ x with ents := cut x.ents k }, 0)
theorem find_none {l : List En} {k : ByteArray} : find l k = none ↔ ∀ x ∈ l, x.1 ≠ k := by
 induction l with
 | nil => simp [find]
 | cons x l ih =>
  unfold find
  by_cases h : x.1 = k
  ·rw [if_pos h]; simp [h]
  ·rw [if_neg h, ih]; simp [h]
theorem find_mem {l : List En} {k : ByteArray} {i : Int} (h : find l k = some i) : (k, i) ∈ l := by
 induction l with
 | nil => cases h
 | cons x l ih =>
  unfold find at h
  by_cases hx : x.1 = k
  ·rw [if_pos hx] at h; injection h with h; subst h; subst hx; exact List.mem_cons_self
  ·rw [if_neg hx] at h; exact List.mem_cons_of_mem _ (ih h)
section
variable {lt : ByteArray -> ByteArray -> Bool}
theorem len_ins (l : List En) (k : ByteArray) (i : Int) : (ins lt l k i).length = l.length + 1 := by
 induction l with
 | nil => rfl
 | cons x l ih =>
  unfold ins
  split
  ·simp [ih]
  ·rfl
theorem mem_ins {l : List En} {k : ByteArray} {i : Int} {x : En} : x ∈ ins lt l k i ↔ x = (k, i) \/ x ∈ l := by
 induction l with
 | nil => simp [ins]
 | cons y l ih =>
  unfold ins
  split
  ·simp only [List.mem_cons, ih]
   constructor
   ·rintro (h | h | h) <;> simp [h]
   ·rintro (h | h | h) <;> simp [h]
  ·simp only [List.mem_cons]
theorem find_ins_same {l : List En} {k : ByteArray} {i : Int} (h : find l k = none) : find (ins lt l k i) k = some i := by
 induction l with
 | nil => simp [ins, find]
 | cons x l ih =>
  have hx : x.1 ≠ k := find_none.1 h x List.mem_cons_self
  have hl : find l k = none := by unfold find at h; rwa [if_neg hx] at h
  unfold ins
  split
  ·unfold find; rw [if_neg hx]; exact ih hl
  ·unfold find; rw [if_pos rfl]
theorem find_ins_other {l : List En} {k c : ByteArray} {i : Int} (h : c ≠ k) : find (ins lt l k i) c = find l c := by
 induction l with
 | nil => simp [ins, find, Ne.symm h]
 | cons x l ih =>
  unfold ins
  split
  ·unfold find; rw [ih]
  ·rw [find, if_neg (Ne.symm h)]
theorem rises_iff (R : Tr.Rising lt) (l : List En) : rises lt l = true ↔ Tr.Sorted lt l := by
 induction l with
 | nil => simp [rises, Tr.Sorted]
 | cons x l ih =>
  cases l with
  | nil => simp [rises, Tr.Sorted]
  | cons y l =>
   rw [rises, Bool.and_eq_true, ih]
   constructor
   ·rintro ⟨h1, h2⟩
    refine List.pairwise_cons.2 ⟨λz hz => ?_, h2⟩
    rcases List.mem_cons.1 hz with rfl | hz
    ·exact h1
    ·exact R.tra _ _ _ h1 ((List.pairwise_cons.1 h2).1 z hz)
   ·intro h
    obtain ⟨h1, h2⟩ := List.pairwise_cons.1 h
    exact ⟨h1 y List.mem_cons_self, h2⟩
theorem sorted_ins (R : Tr.Rising lt) {l : List En} {k : ByteArray} {i : Int} (hs : Tr.Sorted lt l) (h : find l k = none) : Tr.Sorted lt (ins lt l k i) := by
 induction l with
 | nil => exact List.pairwise_singleton _ _
 | cons x l ih =>
  have hx : x.1 ≠ k := find_none.1 h x List.mem_cons_self
  have hl : find l k = none := by unfold find at h; rwa [if_neg hx] at h
  obtain ⟨h1, h2⟩ := List.pairwise_cons.1 hs
  unfold ins
  by_cases hlt : lt x.1 k = true
  ·rw [if_pos hlt]
   refine List.pairwise_cons.2 ⟨λz hz => ?_, ih h2 hl⟩
   rcases mem_ins.1 hz with rfl | hz
   ·exact hlt
   ·exact h1 z hz
  ·rw [if_neg hlt]
   have hk : lt k x.1 = true := by
    cases hkx : lt k x.1
    ·exact absurd (R.tot _ _ (by simpa using hlt) hkx) hx
    ·rfl
   refine List.pairwise_cons.2 ⟨λz hz => ?_, hs⟩
   rcases List.mem_cons.1 hz with rfl | hz
   ·exact hk
   ·exact R.tra _ _ _ hk (h1 z hz)
theorem cut_sub (l : List En) (k : ByteArray) : (cut l k).Sublist l := by
 induction l with
 | nil => exact List.Sublist.slnil
 | cons x l ih =>
  unfold cut
  split
  ·exact List.sublist_cons_self _ _
  ·exact ih.cons_cons x
theorem cut_none (R : Tr.Rising lt) {l : List En} {k : ByteArray} (hs : Tr.Sorted lt l) : find (cut l k) k = none := by
 induction l with
 | nil => rfl
 | cons x l ih =>
  obtain ⟨h1, h2⟩ := List.pairwise_cons.1 hs
  unfold cut
  split
  ·rename_i hx
   refine find_none.2 λz hz e => ?_
   have := h1 z hz
   rw [e, hx, R.irr] at this; cases this
  ·rename_i hx
   unfold find; rw [if_neg hx]; exact ih h2
theorem find_at (R : Tr.Rising lt) {l : List En} {x : En} (hs : Tr.Sorted lt l) (h : x ∈ l) : find l x.1 = some x.2 := by
 induction l with
 | nil => cases h
 | cons y l ih =>
  obtain ⟨h1, h2⟩ := List.pairwise_cons.1 hs
  unfold find
  rcases List.mem_cons.1 h with rfl | h
  ·rw [if_pos rfl]
  ·rw [if_neg (λe => by have := h1 x h; rw [e, R.irr] at this; cases this), ih h2 h]
variable {nm : List UInt8 -> Bool}
theorem right_ins (R : Tr.Rising lt) {x : Node} {k : ByteArray} {i : Int} (h : Right lt nm x) (hk : x.kind = 2) (hn : nm (bs k) = true) (hf : find x.ents k = none) (hl : x.ents.length < 64) (h1 : 1 <= i) (h2 : i <= 2147483647) :
  Right lt nm { x with ents := ins lt x.ents k i } := by
 refine ⟨h.m0, h.m1, ?_, λe he => ?_, ?_, ?_⟩
 ·show (ins lt x.ents k i).length <= 64; rw [len_ins]; omega
 ·rcases mem_ins.1 he with rfl | he
  ·exact ⟨hn, h1, h2⟩
  ·exact h.ok e he
 ·exact (rises_iff R _).2 (sorted_ins R ((rises_iff R _).1 h.rise) hf)
 ·rcases h.kinds with ⟨e, _⟩ | h | ⟨e, _⟩
  ·omega
  ·exact .inr (.inl h)
  ·omega
theorem snoc_rec {α : Type} {P : List α -> Prop} (nil : P []) (append_singleton : ∀ l x, P l -> P (l ++ [x])) (l : List α) : P l := by
 have h : ∀ m : List α, P m.reverse := by
  intro m
  induction m with
  | nil => exact nil
  | cons x m ih => rw [List.reverse_cons]; exact append_singleton _ _ ih
 have := h l.reverse
 rwa [List.reverse_reverse] at this
end
end Nd
