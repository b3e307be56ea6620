/- Layer 11, a part of the proofs: no statement of its own. -/
import Derived.Test.YthehblmjloohiaaGreatDoorProg
import Derived.WalkKit
import Derived.WalkSpells
import Derived.WalkLawsBesides
import Derived.Below
import Derived.Lib.Hide
import Derived.Deep.RegionHeld3
import Derived.Deep.QuietTactic
import Derived.Deep.LoopGhost
import Derived.BigQuiet
import Derived.IntWalk
import Derived.Test.YthehblmjloohiaaGreatDoorRows
import Derived.Test.YthehblmjloohiaaGreatDoorM00
namespace Sha
def rotr (x : BitVec 32) (n : Nat) : BitVec 32 := x >>> n ||| x <<< (32 - n)
def w8 (x : UInt8) : BitVec 32 := BitVec.ofNat 32 x.toNat
def b8 (x : BitVec 32) : UInt8 := UInt8.ofNat x.toNat
def wordBytes (x : BitVec 32) : List UInt8 := [b8 (x >>> 24), b8 (x >>> 16), b8 (x >>> 8), b8 x]
def K : List (BitVec 32) := [
 0x428a2f98#32, 0x71374491#32, 0xb5c0fbcf#32, 0xe9b5dba5#32, 0x3956c25b#32, 0x59f111f1#32, 0x923f82a4#32, 0xab1c5ed5#32,
 0xd807aa98#32, 0x12835b01#32, 0x243185be#32, 0x550c7dc3#32, 0x72be5d74#32, 0x80deb1fe#32, 0x9bdc06a7#32, 0xc19bf174#32,
 0xe49b69c1#32, 0xefbe4786#32, 0x0fc19dc6#32, 0x240ca1cc#32, 0x2de92c6f#32, 0x4a7484aa#32, 0x5cb0a9dc#32, 0x76f988da#32,
 0x983e5152#32, 0xa831c66d#32, 0xb00327c8#32, 0xbf597fc7#32, 0xc6e00bf3#32, 0xd5a79147#32, 0x06ca6351#32, 0x14292967#32,
 0x27b70a85#32, 0x2e1b2138#32, 0x4d2c6dfc#32, 0x53380d13#32, 0x650a7354#32, 0x766a0abb#32, 0x81c2c92e#32, 0x92722c85#32,
 0xa2bfe8a1#32, 0xa81a664b#32, 0xc24b8b70#32, 0xc76c51a3#32, 0xd192e819#32, 0xd6990624#32, 0xf40e3585#32, 0x106aa070#32,
 0x19a4c116#32, 0x1e376c08#32, 0x2748774c#32, 0x34b0bcb5#32, 0x391c0cb3#32, 0x4ed8aa4a#32, 0x5b9cca4f#32, 0x682e6ff3#32,
 0x748f82ee#32, 0x78a5636f#32, 0x84c87814#32, 0x8cc70208#32, 0x90befffa#32, 0xa4506ceb#32, 0xbef9a3f7#32, 0xc67178f2#32]
def kAt (i : Nat) : BitVec 32 := K.getD i 0
structure St where
 a : BitVec 32
 b : BitVec 32
 c : BitVec 32
 d : BitVec 32
 e : BitVec 32
 f : BitVec 32
 g : BitVec 32
 h : BitVec 32
def St.get (s : St) : Nat → BitVec 32
 | 0 => s.a | 1 => s.b | 2 => s.c | 3 => s.d | 4 => s.e | 5 => s.f | 6 => s.g | _ => s.h
def init : St := ⟨0x6a09e667#32, 0xbb67ae85#32, 0x3c6ef372#32, 0xa54ff53a#32, 0x510e527f#32, 0x9b05688c#32, 0x1f83d9ab#32, 0x5be0cd19#32⟩
def big1 (e : BitVec 32) : BitVec 32 := rotr e 6 ^^^ rotr e 11 ^^^ rotr e 25
def big0 (a : BitVec 32) : BitVec 32 := rotr a 2 ^^^ rotr a 13 ^^^ rotr a 22
def small0 (x : BitVec 32) : BitVec 32 := rotr x 7 ^^^ rotr x 18 ^^^ x >>> 3
def small1 (x : BitVec 32) : BitVec 32 := rotr x 17 ^^^ rotr x 19 ^^^ x >>> 10
def pick (e f g : BitVec 32) : BitVec 32 := (e &&& f) ^^^ (~~~e &&& g)
def most (a b c : BitVec 32) : BitVec 32 := (a &&& b) ^^^ (a &&& c) ^^^ (b &&& c)
def temp (s : St) (k w : BitVec 32) : BitVec 32 := s.h + big1 s.e + pick s.e s.f s.g + k + w
def round (s : St) (k w : BitVec 32) : St :=
 ⟨temp s k w + big0 s.a + most s.a s.b s.c, s.a, s.b, s.c, s.d + temp s k w, s.e, s.f, s.g⟩
def word4 (a b c d : UInt8) : BitVec 32 := w8 a <<< 24 ||| w8 b <<< 16 ||| w8 c <<< 8 ||| w8 d
def first (m : Nat → UInt8) (i : Nat) : BitVec 32 := word4 (m (4 * i)) (m (4 * i + 1)) (m (4 * i + 2)) (m (4 * i + 3))
def nextW (x16 x15 x7 x2 : BitVec 32) : BitVec 32 := x16 + small0 x15 + x7 + small1 x2
def back (m : Nat → UInt8) : Nat → List (BitVec 32)
 | 0 => []
 | k + 1 => (if k < 16 then first m k else nextW ((back m k).getD 15 0) ((back m k).getD 14 0) ((back m k).getD 6 0) ((back m k).getD 1 0)) :: back m k
def wd (m : Nat → UInt8) (i : Nat) : BitVec 32 := (back m (i + 1)).headD 0
theorem back_getD (m : Nat → UInt8) : ∀ k j, j < k → (back m k).getD j 0 = wd m (k - 1 - j) := by
 intro k
 induction k with
 | zero => intro j h; omega
 | succ k ih =>
  intro j h
  cases j with
  | zero => simp [wd, back]
  | succ j =>
   rw [show back m (k + 1) = _ :: back m k from rfl, List.getD_cons_succ, ih j (by omega)]
   congr 1; omega
theorem wd_first (m : Nat → UInt8) (i : Nat) (h : i < 16) : wd m i = first m i := by simp [wd, back, h]
theorem wd_next (m : Nat → UInt8) (i : Nat) (h : 16 ≤ i) : wd m i = nextW (wd m (i - 16)) (wd m (i - 15)) (wd m (i - 7)) (wd m (i - 2)) := by
 show (back m (i + 1)).headD 0 = _
 rw [show back m (i + 1) = _ :: back m i from rfl, List.headD_cons, if_neg (by omega), back_getD m i 15 (by omega), back_getD m i 14 (by omega), back_getD m i 6 (by omega), back_getD m i 1 (by omega)]
 rw [show i - 1 - 15 = i - 16 by omega, show i - 1 - 14 = i - 15 by omega, show i - 1 - 6 = i - 7 by omega, show i - 1 - 1 = i - 2 by omega]
def rounds (m : Nat → UInt8) (s : St) : Nat → St
 | 0 => s
 | k + 1 => round (rounds m s k) (kAt k) (wd m k)
def addSt (s t : St) : St := ⟨s.a + t.a, s.b + t.b, s.c + t.c, s.d + t.d, s.e + t.e, s.f + t.f, s.g + t.g, s.h + t.h⟩
theorem addSt_get (s t : St) (k : Nat) : (addSt s t).get k = s.get k + t.get k := by
 unfold St.get
 match k with
 | 0 => rfl | 1 => rfl | 2 => rfl | 3 => rfl | 4 => rfl | 5 => rfl | 6 => rfl | _ + 7 => rfl
def press (s : St) (m : Nat → UInt8) : St := addSt s (rounds m s 64)
def blocks (s : List UInt8) : Nat → St
 | 0 => init
 | n + 1 => press (blocks s n) (fun i => s.getD (64 * n + i) 0)
def num (v : Nat) : Nat → List UInt8
 | 0 => []
 | k + 1 => UInt8.ofNat (v / 256 ^ k) :: num v k
def pad (s : List UInt8) : List UInt8 := s ++ 128 :: List.replicate ((119 - s.length % 64) % 64) 0 ++ num (8 * s.length) 8
def St.out (s : St) : List UInt8 := wordBytes s.a ++ wordBytes s.b ++ wordBytes s.c ++ wordBytes s.d ++ wordBytes s.e ++ wordBytes s.f ++ wordBytes s.g ++ wordBytes s.h
def sha (s : List UInt8) : List UInt8 := (blocks (pad s) ((pad s).length / 64)).out
theorem num_length (v : Nat) : ∀ k, (num v k).length = k
 | 0 => rfl
 | k + 1 => by simp [num, num_length v k]
def text (s : String) : List UInt8 := s.toUTF8.data.toList
theorem back_congr {m m' : Nat → UInt8} (h : ∀ j, j < 64 → m j = m' j) : ∀ k, back m k = back m' k := by
 intro k
 induction k with
 | zero => rfl
 | succ k ih =>
  have hf : k < 16 → first m k = first m' k := fun hk => by
   unfold first
   rw [h (4 * k) (by omega), h (4 * k + 1) (by omega), h (4 * k + 2) (by omega), h (4 * k + 3) (by omega)]
  simp only [back]
  rw [ih]
  by_cases hk : k < 16
  ·rw [if_pos hk, if_pos hk, hf hk]
  ·rw [if_neg hk, if_neg hk]
theorem press_congr {m m' : Nat → UInt8} (h : ∀ j, j < 64 → m j = m' j) (s : St) : press s m = press s m' := by
 have hw : ∀ k, wd m k = wd m' k := fun k => by unfold wd; rw [back_congr h]
 have hr : ∀ k, rounds m s k = rounds m' s k := by
  intro k
  induction k with
  | zero => rfl
  | succ k ih => show round _ _ _ = round _ _ _; rw [ih, hw]
 unfold press; rw [hr]
theorem getD_append_left (F G : List UInt8) (i : Nat) (h : i < F.length) : (F ++ G).getD i 0 = F.getD i 0 := by
 simp [List.getD, List.getElem?_append_left h]
theorem getD_append_right (F G : List UInt8) (i : Nat) : (F ++ G).getD (F.length + i) 0 = G.getD i 0 := by
 simp [List.getD, List.getElem?_append_right (Nat.le_add_right _ _)]
theorem blocks_append (F G : List UInt8) : ∀ n, 64 * n ≤ F.length → blocks (F ++ G) n = blocks F n := by
 intro n
 induction n with
 | zero => intro _; rfl
 | succ n ih =>
  intro h
  show press _ _ = press _ _
  rw [ih (by omega)]
  exact press_congr (fun j hj => getD_append_left F G _ (by omega)) _
structure Holds (S : List UInt8) (st : St) (m : Nat → UInt8) (held : Nat) : Prop where
 words : st = blocks S (S.length / 64)
 place : held = S.length % 64
 rest : ∀ j, j < held → m j = S.getD (64 * (S.length / 64) + j) 0
def over (m : Nat → UInt8) (h n : Nat) (r : List UInt8) (j : Nat) : UInt8 := if h ≤ j ∧ j < h + n then r.getD (j - h) 0 else m j
theorem Holds.nil (m : Nat → UInt8) : Holds [] init m 0 := ⟨rfl, rfl, fun j h => by omega⟩
theorem Holds.less {S : List UInt8} {st : St} {m : Nat → UInt8} {h : Nat} (hs : Holds S st m h) (r : List UInt8) (hr : h + r.length < 64) : Holds (S ++ r) st (over m h r.length r) (h + r.length) := by
 have h1 := hs.place
 have hl : (S ++ r).length = S.length + r.length := by simp
 have hd : (S.length + r.length) / 64 = S.length / 64 := by omega
 refine ⟨?_, by rw [hl]; omega, fun j hj => ?_⟩
 ·rw [hl, hd, blocks_append S r _ (by omega)]; exact hs.words
 ·rw [hl, hd]
  unfold over
  by_cases hc : h ≤ j
  ·rw [if_pos ⟨hc, hj⟩, show 64 * (S.length / 64) + j = S.length + (j - h) by omega, getD_append_right]
  ·rw [if_neg (by omega), getD_append_left S r _ (by omega)]
   exact hs.rest j (by omega)
theorem Holds.full {S : List UInt8} {st : St} {m : Nat → UInt8} {h : Nat} (hs : Holds S st m h) (r : List UInt8) (m' : Nat → UInt8) (hr : 64 - h ≤ r.length) :
  Holds (S ++ r.take (64 - h)) (press st (over m h (64 - h) r)) m' 0 := by
 have h1 := hs.place
 have ht : (r.take (64 - h)).length = 64 - h := by simp; omega
 have hl : (S ++ r.take (64 - h)).length = S.length + (64 - h) := by simp; omega
 have hd : (S.length + (64 - h)) / 64 = S.length / 64 + 1 := by omega
 refine ⟨?_, by rw [hl]; omega, fun j hj => by omega⟩
 rw [hl, hd]
 show _ = press (blocks _ _) _
 rw [blocks_append S _ _ (by omega), ← hs.words]
 refine press_congr (fun j hj => ?_) _
 unfold over
 by_cases hc : h ≤ j
 ·rw [if_pos ⟨hc, by omega⟩, show 64 * (S.length / 64) + j = S.length + (j - h) by omega, getD_append_right]
  simp only [List.getD, List.getElem?_take]
  rw [if_pos (by omega)]
 ·rw [if_neg (by omega), getD_append_left S _ _ (by omega)]
  exact hs.rest j (by omega)
theorem byte_congr {a b : Nat} (h : a % 256 = b % 256) : UInt8.ofNat a = UInt8.ofNat b := by
 rw [← UInt8.toNat_inj, UInt8.toNat_ofNat', UInt8.toNat_ofNat']; exact h
theorem b8_shr (v n : Nat) : b8 (BitVec.ofNat 32 v >>> n) = UInt8.ofNat (v % 4294967296 / 2 ^ n) := by
 unfold b8
 rw [BitVec.toNat_ushiftRight, Nat.shiftRight_eq_div_pow, BitVec.toNat_ofNat]
theorem num4 (v : Nat) : num v 4 = wordBytes (BitVec.ofNat 32 v) := by
 have h0 : b8 (BitVec.ofNat 32 v) = UInt8.ofNat (v % 4294967296) := by unfold b8; rw [BitVec.toNat_ofNat]
 unfold wordBytes
 rw [b8_shr, b8_shr, b8_shr, h0]
 show [UInt8.ofNat (v / 16777216), UInt8.ofNat (v / 65536), UInt8.ofNat (v / 256), UInt8.ofNat (v / 1)] = [UInt8.ofNat (v % 4294967296 / 16777216), UInt8.ofNat (v % 4294967296 / 65536), UInt8.ofNat (v % 4294967296 / 256), UInt8.ofNat (v % 4294967296)]
 rw [byte_congr (a := v / 16777216) (b := v % 4294967296 / 16777216) (by omega), byte_congr (a := v / 65536) (b := v % 4294967296 / 65536) (by omega),
  byte_congr (a := v / 256) (b := v % 4294967296 / 256) (by omega), byte_congr (a := v / 1) (b := v % 4294967296) (by omega)]
theorem num8 (v : Nat) : num v 8 = num (v / 4294967296) 4 ++ num v 4 := by
 show [UInt8.ofNat (v / 72057594037927936), UInt8.ofNat (v / 281474976710656), UInt8.ofNat (v / 1099511627776), UInt8.ofNat (v / 4294967296)] ++ num v 4 =
  [UInt8.ofNat (v / 4294967296 / 16777216), UInt8.ofNat (v / 4294967296 / 65536), UInt8.ofNat (v / 4294967296 / 256), UInt8.ofNat (v / 4294967296 / 1)] ++ num v 4
 rw [Nat.div_div_eq_div_mul, Nat.div_div_eq_div_mul, Nat.div_div_eq_div_mul, Nat.div_one]
theorem num_words (v : Nat) : num v 8 = wordBytes (BitVec.ofNat 32 (v / 4294967296)) ++ wordBytes (BitVec.ofNat 32 v) := by rw [num8, num4, num4]
def St.outK (s : St) : Nat → List UInt8
 | 0 => []
 | k + 1 => s.outK k ++ wordBytes (s.get k)
theorem outK_eight (s : St) : s.outK 8 = s.out := by
 show ((((((([] ++ wordBytes s.a) ++ wordBytes s.b) ++ wordBytes s.c) ++ wordBytes s.d) ++ wordBytes s.e) ++ wordBytes s.f) ++ wordBytes s.g) ++ wordBytes s.h = _
 rfl
theorem outK_length (s : St) : ∀ k, (s.outK k).length = 4 * k
 | 0 => rfl
 | k + 1 => by rw [show s.outK (k + 1) = s.outK k ++ wordBytes (s.get k) from rfl, List.length_append, outK_length s k]; rfl
end Sha

namespace Go.Proofs.YthehblmjloohiaaGreatDoor.T8
set_option maxRecDepth 100000
open Go.RowKit Go.Less
def rk (k : ByteArray) : ByteArray := ⟨(Sha.sha (2 :: [k].flatMap fun s => Sha.num s.size 4 ++ s.data.toList)).toArray⟩
def jn (k v a b : ByteArray) : ByteArray := ⟨(Sha.sha (1 :: [k, v, a, b].flatMap fun s => Sha.num s.size 4 ++ s.data.toList)).toArray⟩
abbrev Tt := Tr.T ByteArray ByteArray
def nm (t : Tt) : ByteArray := t.name ⟨#[]⟩ jn
theorem nm_size (t : Tt) : (nm t).size ≤ 32 := by
 cases t with
 | leaf => exact Nat.zero_le _
 | node l k v r => exact Nat.le_of_eq rfl
theorem nm_node (l : Tt) (k v : ByteArray) (r : Tt) : nm (.node l k v r) = jn k v (nm l) (nm r) := rfl
def ap : Option Nat → Option Addr
 | none => none
 | some b => some ⟨b, 0, none⟩
abbrev pv (p : Option Nat) : Value := .pointer (ap p)
def ncells (k v : ByteArray) (n : ByteArray) (c : Nat) (pl pr : Option Nat) : Array Value := #[.string k, .string (rk k), .string v, .string n, .int .i64 (c : Int), pv pl, pv pr]
def Tree (w : World) : Option Nat → Tt → Prop
 | p, .leaf => p = none
 | p, .node l k v r => ∃ b pl pr, p = some b ∧ w.heap[b]? = some (.cells (ncells k v (nm (.node l k v r)) (Tr.T.len (.node l k v r)) pl pr) 151 (0, 0)) ∧ k.size ≤ 100 ∧ v.size ≤ 10000 ∧ Tree w pl l ∧ Tree w pr r
theorem lt_of_obj {w : World} {b : Nat} {o : Obj} (h : w.heap[b]? = some o) : b < w.heap.size := (Array.getElem?_eq_some_iff.1 h).1
theorem Tree.below {w w' : World} (hb : Below w.heap.size w w') : ∀ {t : Tt} {p : Option Nat}, Tree w p t → Tree w' p t
 | .leaf, _, h => h
 | .node _ _ _ _, _, ⟨b, pl, pr, e, hc, hk, hv, hl, hr⟩ => ⟨b, pl, pr, e, (hb.block b (lt_of_obj hc)).trans hc, hk, hv, Tree.below hb hl, Tree.below hb hr⟩
theorem pv_inj {a b : Option Nat} (h : pv a = pv b) : a = b := by
 cases a <;> cases b <;> simp [pv, ap] at h ⊢
 exact h
theorem Tree.inj {w : World} : ∀ {t u : Tt} {p : Option Nat}, Tree w p t → Tree w p u → t = u
 | .leaf, .leaf, _, _, _ => rfl
 | .leaf, .node _ _ _ _, _, h, ⟨_, _, _, e, _⟩ => by rw [show _ = none from h] at e; cases e
 | .node _ _ _ _, .leaf, _, ⟨_, _, _, e, _⟩, h => by rw [show _ = none from h] at e; cases e
 | .node l k v r, .node l' k' v' r', _, ⟨b, pl, pr, e, hc, _, _, hl, hr⟩, ⟨b', pl', pr', e', hc', _, _, hl', hr'⟩ => by
  rw [e] at e'
  injection e' with e'
  subst e'
  rw [hc] at hc'
  injection hc' with hc'
  injection hc' with hc' _
  unfold ncells at hc'
  have hc' := congrArg Array.toList hc'
  simp only [List.cons.injEq, Value.string.injEq, and_true] at hc'
  obtain ⟨e1, _, e2, _, _, e3, e4⟩ := hc'
  obtain rfl := pv_inj e3
  obtain rfl := pv_inj e4
  rw [e1, e2, Tree.inj hl hl', Tree.inj hr hr']
theorem tree_none {w : World} {t : Tt} (h : Tree w none t) : t = .leaf := by
 cases t with
 | leaf => rfl
 | node l k v r => obtain ⟨b, _, _, e, _⟩ := h; cases e
structure Node (w : World) (b : Nat) (l : Tt) (k v : ByteArray) (r : Tt) (pl pr : Option Nat) : Prop where
 obj : w.heap[b]? = some (.cells (ncells k v (nm (.node l k v r)) (Tr.T.len (.node l k v r)) pl pr) 151 (0, 0))
 key : k.size ≤ 100
 val : v.size ≤ 10000
 left : Tree w pl l
 right : Tree w pr r
theorem Node.tree {w : World} {b : Nat} {l : Tt} {k v : ByteArray} {r : Tt} {pl pr : Option Nat} (h : Node w b l k v r pl pr) : Tree w (some b) (.node l k v r) := ⟨b, pl, pr, rfl, h.obj, h.key, h.val, h.left, h.right⟩
theorem tree_node {w : World} {p : Option Nat} {l : Tt} {k v : ByteArray} {r : Tt} (h : Tree w p (.node l k v r)) : ∃ b pl pr, p = some b ∧ Node w b l k v r pl pr := by
 obtain ⟨b, pl, pr, e, h1, h2, h3, h4, h5⟩ := h
 exact ⟨b, pl, pr, e, ⟨h1, h2, h3, h4, h5⟩⟩
theorem tree_some {w : World} {b : Nat} {t : Tt} (h : Tree w (some b) t) : ∃ l k v r pl pr, t = .node l k v r ∧ Node w b l k v r pl pr := by
 cases t with
 | leaf => cases h
 | node l k v r =>
  obtain ⟨b', pl, pr, e, hn⟩ := tree_node h
  injection e with e
  subst e
  exact ⟨l, k, v, r, pl, pr, rfl, hn⟩
section
variable {w : World} {b : Nat} {l : Tt} {k v : ByteArray} {r : Tt} {pl pr : Option Nat} (h : Node w b l k v r pl pr)
include h
theorem Node.lt : b < w.heap.size := lt_of_obj h.obj
theorem Node.below {w' : World} (hb : Below w.heap.size w w') : Node w' b l k v r pl pr := ⟨(hb.block b h.lt).trans h.obj, h.key, h.val, h.left.below hb, h.right.below hb⟩
theorem Node.cell (j : Nat) : w.cell? ⟨b, j, none⟩ = (ncells k v (nm (.node l k v r)) (Tr.T.len (.node l k v r)) pl pr)[j]? := by simp [World.cell?, h.obj]
theorem Node.c0 : w.cell? ⟨b, 0, none⟩ = some (.string k) := h.cell 0
theorem Node.c1 : w.cell? ⟨b, 1, none⟩ = some (.string (rk k)) := h.cell 1
theorem Node.c2 : w.cell? ⟨b, 2, none⟩ = some (.string v) := h.cell 2
theorem Node.c3 : w.cell? ⟨b, 3, none⟩ = some (.string (nm (.node l k v r))) := h.cell 3
theorem Node.c4 : w.cell? ⟨b, 4, none⟩ = some (.int .i64 ((Tr.T.len (.node l k v r) : Nat) : Int)) := h.cell 4
theorem Node.c5 : w.cell? ⟨b, 5, none⟩ = some (pv pl) := h.cell 5
theorem Node.c6 : w.cell? ⟨b, 6, none⟩ = some (pv pr) := h.cell 6
end
def IsMap (w : World) (m : Option Nat) (t : Tt) : Prop :=
 match m with
 | none => t = .leaf
 | some b => ∃ p, w.heap[b]? = some (.cells #[pv p] 153 (0, 0)) ∧ Tree w p t
theorem IsMap.below {w w' : World} {m : Option Nat} {t : Tt} (h : IsMap w m t) (hb : Below w.heap.size w w') : IsMap w' m t := by
 cases m with
 | none => exact h
 | some b => obtain ⟨p, h1, h2⟩ := h; exact ⟨p, (hb.block b (lt_of_obj h1)).trans h1, h2.below hb⟩
theorem below_one (w : World) (o : Obj) : Below w.heap.size w (w.alloc o) := (Below.refl _ _).alloc (Nat.le_refl _) o
end Go.Proofs.YthehblmjloohiaaGreatDoor.T8

namespace Tr
section
variable {α β ρ : Type} [DecidableEq ρ] {lt : α → α → Bool} {rl : ρ → ρ → Bool} {rank : α → ρ}
theorem heap_top (S : Rising rl) (t : T α β) (hs : Sorted lt t.rows) (h : t.Heap rl rank) : t.Top lt rl rank := by
 induction t with
 | leaf => trivial
 | node l k v r ih1 ih2 =>
  have hs' : Sorted lt (l.rows ++ (k, v) :: r.rows) := hs
  obtain ⟨s1, s2, s3, s4⟩ := sorted_parts hs'
  obtain ⟨h1, h2, h3, h4⟩ := h
  refine ⟨fun z hz => ?_, fun z hz => ?_, ih1 s1 h3, ih2 s2 h4⟩
  ·have ha := h1 z hz
   unfold ahead
   rw [if_neg (fun e => by rw [e, S.irr] at ha; cases ha)]; exact ha
  ·have ha := h2 z hz
   unfold ahead
   split
   ·exact s4 z hz
   ·rename_i e
    cases hq : rl (rank z.1) (rank k)
    ·exact absurd (S.tot _ _ ha hq) e
    ·rfl
end
end Tr
namespace Go.Proofs.YthehblmjloohiaaGreatDoor.T8
set_option maxRecDepth 100000
open Go.RowKit Go.Less
abbrev Pr := ByteArray × ByteArray
def cn (l : List Pr) : Tt := Tr.canon less rk l
abbrev Srt (l : List Pr) : Prop := Tr.Sorted less l
theorem cn_rows (l : List Pr) : (cn l).rows = l := Tr.canon_rows rising l
theorem cn_len (l : List Pr) : (cn l).len = l.length := by rw [← Tr.T.len_rows, cn_rows]
theorem cn_top {l : List Pr} (h : Srt l) : (cn l).Top less less rk := Tr.heap_top rising _ (by rw [cn_rows]; exact h) (Tr.canon_heap rising l)
theorem cn_of {t : Tt} (hs : Srt t.rows) (ht : t.Top less less rk) : t = cn t.rows := (Tr.canon_of_heap (Tr.top_heap rising rising t hs ht)).symm
theorem cn_put {l : List Pr} (h : Srt l) (x y : ByteArray) : (cn l).put less less rk x y = cn (Tr.put less l x y) := by
 obtain ⟨e, p⟩ := Tr.tree_put rising rising (cn l) x y (by rw [cn_rows]; exact h) (cn_top h)
 rw [cn_rows] at e
 have := cn_of (t := (cn l).put less less rk x y) (by rw [e]; exact Tr.sorted_put rising h x y) p
 rw [this, e]
theorem cn_drop {l : List Pr} (h : Srt l) (x : ByteArray) : (cn l).drop less less rk x = cn (Tr.del l x) := by
 obtain ⟨e, p⟩ := Tr.tree_drop rising rising (cn l) x (by rw [cn_rows]; exact h) (cn_top h)
 rw [cn_rows] at e
 have := cn_of (t := (cn l).drop less less rk x) (by rw [e]; exact Tr.sorted_del h x) p
 rw [this, e]
theorem cn_find {l : List Pr} (h : Srt l) (x : ByteArray) : ((cn l).find less x).val = Tr.get l x := by
 have := Tr.find_get rising (cn l) x (by rw [cn_rows]; exact h)
 rw [cn_rows] at this
 exact this
theorem ap_some (b : Nat) : ap (some b) = some ⟨b, 0, none⟩ := rfl
theorem ap_none : ap none = none := rfl
structure Rp (w : World) (m : Option Nat) (l : List Pr) : Prop where
 sorted : Srt l
 map : IsMap w m (cn l)
theorem Rp.below {w w' : World} {m : Option Nat} {l : List Pr} (h : Rp w m l) (hb : Below w.heap.size w w') : Rp w' m l := ⟨h.sorted, h.map.below hb⟩
theorem rp_nil (w : World) : Rp w none [] := ⟨List.Pairwise.nil, rfl⟩
end Go.Proofs.YthehblmjloohiaaGreatDoor.T8

namespace Go.Proofs.YthehblmjloohiaaGreatDoor.T8
set_option maxRecDepth 100000
open Go.RowKit Go.Less
attribute [local go_sem 9000] sem_eql sem_neq sem_lss sem_leq sem_gtr sem_geq
def Points (t : Tt) (w : World) (e : Ending) (w' : World) : Prop := ∃ p, e = .returned (pv p) ∧ Tree w p t ∧ w = w'
set_option maxHeartbeats 400000 in
theorem treeOf_any {w : World} {m : Option Nat} {t : Tt} (h : IsMap w m t) : Calls Tryz.prog 68 #[pv m] w (Points t w) := by
 cases m with
 | none =>
  show Calls Tryz.prog 68 #[.pointer none] w _
  go_enter Tryz.func68, Tryz.ntmps68
  go_wp2_with fail
  go_ret
  exact ⟨none, rfl, h.symm ▸ rfl, rfl⟩
 | some b =>
  obtain ⟨p, h1, h2⟩ := h
  have c0 : w.cell? ⟨b, 0, none⟩ = some (pv p) := by simp [World.cell?, h1]
  have H := Lib.hid h2
  clear h1 h2
  show Calls Tryz.prog 68 #[.pointer (some ⟨b, 0, none⟩)] w _
  go_enter Tryz.func68, Tryz.ntmps68
  go_wp2_with fail
  go_ret
  exact ⟨p, rfl, H.out, rfl⟩
set_option maxHeartbeats 400000 in
theorem mapOf_any {w : World} {p : Option Nat} {t : Tt} (h : Tree w p t) : Calls Tryz.prog 75 #[pv p] w fun e w' => ∃ m, e = .returned (pv m) ∧ IsMap w' m t ∧ Below w.heap.size w w' := by
 cases p with
 | none =>
  obtain rfl := tree_none h
  show Calls Tryz.prog 75 #[.pointer none] w _
  go_enter Tryz.func75, Tryz.ntmps75
  go_wp2_with fail
  go_ret
  exact ⟨none, rfl, rfl, Below.refl _ _⟩
 | some b =>
  have H := Lib.hid h
  clear h
  show Calls Tryz.prog 75 #[.pointer (some ⟨b, 0, none⟩)] w _
  have hb : ∀ w : World, (Instr.build 153 #[(0, .pointer (some ⟨b, 0, none⟩))]).run Tryz.prog w = .ok (.agg #[.pointer (some ⟨b, 0, none⟩)]) w := fun _ => by kernel_rfl
  go_enter Tryz.func75, Tryz.ntmps75
  go_wp2_with fail
  go_ret
  have hw := below_one w (.cells #[.pointer (some ⟨b, 0, none⟩)] 153)
  exact ⟨some w.heap.size, rfl, ⟨some b, heap_alloc_new w _, H.out.below hw⟩, hw⟩
def ld : Tt → Value
 | .leaf => .agg #[.string ⟨#[]⟩, .string ⟨#[]⟩, .int .i64 0]
 | .node l k v r => .agg #[.string v, .string (nm (.node l k v r)), .int .i64 ((Tr.T.len (.node l k v r) : Nat) : Int)]
theorem zero51 : ∀ w : World, (zeroValue 122).run Tryz.prog w = .ok (.agg #[.string ⟨#[]⟩, .string ⟨#[]⟩, .int .i64 0]) w := fun _ => by kernel_rfl
set_option maxHeartbeats 400000 in
theorem loadOf_any {w : World} {p : Option Nat} {t : Tt} (h : Tree w p t) : Calls Tryz.prog 67 #[pv p] w fun e w' => e = .returned (ld t) ∧ Below w.heap.size w w' := by
 have hz := zero51
 cases t with
 | leaf =>
  obtain rfl : p = none := h
  show Calls Tryz.prog 67 #[.pointer none] w _
  go_enter Tryz.func67, Tryz.ntmps67
  go_wp2_with fail
  refine bodyPost_ret (v := ld .leaf) (by simp [results, Tryz.results67, go_sem, ld]) rfl ⟨rfl, ?_⟩
  exact (below_one w _).alloc (by simp) _
 | node l k v r =>
  obtain ⟨b, pl, pr, rfl, hN⟩ := tree_node h
  have c2 := hN.c2
  have c3 := hN.c3
  have c4 := hN.c4
  have hlt := hN.lt
  clear hN h
  show Calls Tryz.prog 67 #[.pointer (some ⟨b, 0, none⟩)] w _
  go_enter Tryz.func67, Tryz.ntmps67
  go_wp2_with fail
  refine bodyPost_ret (v := ld (.node l k v r)) (by simp [results, Tryz.results67, go_sem, ld]) rfl ⟨rfl, ?_⟩
  exact below_one w _
def ahd (a b : ByteArray) : Bool := Tr.ahead less less rk a b
theorem ahd_alike {a b : ByteArray} (h : alike (rk a) (rk b) = true) : ahd a b = less a b := by
 unfold ahd Tr.ahead; rw [if_pos (alike_eq.1 h)]
theorem ahd_unlike {a b : ByteArray} (h : alike (rk a) (rk b) = false) : ahd a b = less (rk b) (rk a) := by
 unfold ahd Tr.ahead
 rw [if_neg (fun e => by rw [alike_eq.2 e] at h; cases h)]
theorem bdn {B : Nat} {w w1 : World} (h : Below B w w1) (n : Nat) : Below B w (w1.drewN n) := by
 induction n with
 | zero => exact h
 | succ n ih => exact ih.drew
set_option maxHeartbeats 400000 in
theorem ahead_any {w : World} {b b' : Nat} {l r l' r' : Tt} {k v k' v' : ByteArray} {pl pr pl' pr' : Option Nat} (hN : Node w b l k v r pl pr) (hN' : Node w b' l' k' v' r' pl' pr') :
  Calls Tryz.prog 113 #[.pointer (some ⟨b, 0, none⟩), .pointer (some ⟨b', 0, none⟩)] w fun e w' => e = .returned (.bool (ahd k k')) ∧ Below w.heap.size w w' := by
 have c0 := hN.c0
 have c1 := hN.c1
 have c0' := hN'.c0
 have c1' := hN'.c1
 clear hN hN'
 cases hr : alike (rk k) (rk k')
 ·have HA := Lib.hid (ahd_unlike hr)
  go_enter Tryz.func113, Tryz.ntmps113
  go_wp2_with fail
  go_quiet (fail)
  go_wp2_with fail
  go_quiet (fail)
  go_wp2_with fail
  go_ret
  exact ⟨by rw [HA.out]; rfl, bdn (bdn (Below.refl _ _) _) _⟩
 ·have HA := Lib.hid (ahd_alike hr)
  go_enter Tryz.func113, Tryz.ntmps113
  go_wp2_with fail
  go_quiet (fail)
  go_wp2_with fail
  go_quiet (fail)
  go_wp2_with fail
  go_ret
  exact ⟨by rw [HA.out]; rfl, bdn (bdn (Below.refl _ _) _) _⟩
theorem find_here {l r : Tt} {k v x : ByteArray} (h : alike k x = true) : (Tr.T.node l k v r).find less x = .node l k v r := by unfold Tr.T.find; rw [if_pos (alike_eq.1 h)]
theorem find_left {l r : Tt} {k v x : ByteArray} (h : alike k x = false) (h2 : less x k = true) : (Tr.T.node l k v r).find less x = l.find less x := by
 conv => lhs; unfold Tr.T.find
 rw [if_neg (fun e => by rw [alike_eq.2 e] at h; cases h), if_pos h2]
theorem find_right {l r : Tt} {k v x : ByteArray} (h : alike k x = false) (h2 : less x k = false) : (Tr.T.node l k v r).find less x = r.find less x := by
 conv => lhs; unfold Tr.T.find
 rw [if_neg (fun e => by rw [alike_eq.2 e] at h; cases h), if_neg (by simp [h2])]
set_option maxHeartbeats 1000000 in
theorem find_any {w : World} {p : Option Nat} {t : Tt} (h : Tree w p t) (x : ByteArray) : Calls Tryz.prog 145 #[pv p, .string x] w (Points (t.find less x) w) := by
 have HT := Lib.hid h
 go_enter Tryz.func145, Tryz.ntmps145
 go_wp2_with fail
 go_loopg [0] t.len (fun g p' wr => w = wr ∧ ∃ (q : Option Nat) (u : Tt), p' = pv q ∧ Tree w q u ∧ u.len = g ∧ u.find less x = t.find less x)
 case atStart => exact ⟨rfl, p, t, rfl, HT.out, rfl, rfl⟩
 case round =>
  obtain ⟨rfl, q, u, rfl, hu, hg, hf⟩ := hrel
  have HF := Lib.hid hf
  clear hf h
  cases u with
  | leaf =>
   obtain rfl : q = none := hu
   have HL := Lib.hid (show Tr.T.find less (.leaf : Tt) x = .leaf from rfl)
   clear hg
   simp only [pv, ap]
   go_wp2_with fail
   go_ret
   exact ⟨none, rfl, by rw [← HF.out]; rfl, rfl⟩
  | node l k v r =>
   obtain ⟨b, pl, pr, rfl, hN⟩ := tree_node hu
   have HN := Lib.hid hN
   have HG := Lib.hid hg
   have c0 := hN.c0
   have c5 := hN.c5
   have c6 := hN.c6
   clear hN hu hg
   simp only [pv, ap]
   cases hx : alike k x
   ·cases hl : less x k
    ·have HR := Lib.hid (find_right (l := l) (r := r) (v := v) hx hl)
     go_wp2_with fail
     go_roundg r.len
     case rel => exact ⟨rfl, pr, r, rfl, HN.out.right, rfl, HR.out.symm.trans HF.out⟩
     case measure => have := HG.out; simp only [Tr.T.len] at this; omega
    ·have HR := Lib.hid (find_left (l := l) (r := r) (v := v) hx hl)
     go_wp2_with fail
     go_roundg l.len
     case rel => exact ⟨rfl, pl, l, rfl, HN.out.left, rfl, HR.out.symm.trans HF.out⟩
     case measure => have := HG.out; simp only [Tr.T.len] at this; omega
   ·have HR := Lib.hid (find_here (l := l) (r := r) (v := v) hx)
    go_wp2_with fail
    go_ret
    exact ⟨some b, rfl, by rw [← HF.out, HR.out]; exact HN.out.tree, rfl⟩
end Go.Proofs.YthehblmjloohiaaGreatDoor.T8

namespace Go.Proofs.YthehblmjloohiaaGreatDoor.T8
set_option maxRecDepth 100000
open Go.RowKit Sha
def u32 (x : BitVec 32) : Int := (x.toNat : Int)
abbrev wv (x : BitVec 32) : Value := .int .u32 (u32 x)
abbrev bv (x : UInt8) : Value := .int .u8 (x.toNat : Int)
theorem w8_toNat (x : UInt8) : (w8 x).toNat = x.toNat := by
 have := x.toNat_lt
 simp [w8]
theorem b8_toNat (x : BitVec 32) : (b8 x).toNat = x.toNat % 256 := by simp [b8]
theorem wrap_add32 (x y : BitVec 32) : IntKind.u32.wrap (u32 x + u32 y) = u32 (x + y) := by
 unfold u32; rw [IntKind.wrap_u32', BitVec.toNat_add]; omega
theorem bits_xor32 (x y : BitVec 32) : bits .xor .u32 (u32 x) (u32 y) = u32 (x ^^^ y) := by
 unfold u32; rw [u32_xor_nat _ _ x.isLt y.isLt, BitVec.toNat_xor]
theorem bits_and32 (x y : BitVec 32) : bits .and .u32 (u32 x) (u32 y) = u32 (x &&& y) := by
 unfold u32; rw [u32_and_nat _ _ x.isLt y.isLt, BitVec.toNat_and]
theorem bits_or32 (x y : BitVec 32) : bits .or .u32 (u32 x) (u32 y) = u32 (x ||| y) := by
 unfold u32; rw [u32_or_nat _ _ x.isLt y.isLt, BitVec.toNat_or]
theorem sem_add32 (t : TypeId) (x y : BitVec 32) : binOp .add t (.int .u32 (u32 x)) (.int .u32 (u32 y)) = pure (wv (x + y)) := by
 rw [binOp_add]; show pure _ = pure _; unfold wv; rw [← wrap_add32]
theorem sem_xor32 (t : TypeId) (x y : BitVec 32) : binOp .xor t (.int .u32 (u32 x)) (.int .u32 (u32 y)) = pure (wv (x ^^^ y)) := by
 show pure (Value.int .u32 (bits .xor .u32 (u32 x) (u32 y))) = _; rw [bits_xor32]
theorem sem_and32 (t : TypeId) (x y : BitVec 32) : binOp .and t (.int .u32 (u32 x)) (.int .u32 (u32 y)) = pure (wv (x &&& y)) := by
 show pure (Value.int .u32 (bits .and .u32 (u32 x) (u32 y))) = _; rw [bits_and32]
theorem sem_or32 (t : TypeId) (x y : BitVec 32) : binOp .or t (.int .u32 (u32 x)) (.int .u32 (u32 y)) = pure (wv (x ||| y)) := by
 show pure (Value.int .u32 (bits .or .u32 (u32 x) (u32 y))) = _; rw [bits_or32]
theorem sem_not32 (x : BitVec 32) : Op.unary .xor (.int .u32 (u32 x)) = pure (wv (~~~x)) := by
 show pure (Value.int .u32 (bits .xor .u32 (u32 4294967295#32) (u32 x))) = _
 rw [bits_xor32, show (4294967295#32 : BitVec 32) = BitVec.allOnes 32 from rfl, BitVec.allOnes_xor]
theorem sem_shr32 (t : TypeId) (x : BitVec 32) (n : Int) (h0 : 0 ≤ n) : binOp .shr t (.int .u32 (u32 x)) (.int .u64 n) = pure (wv (x >>> n.toNat)) := by
 show Op.shift .shr .u32 (u32 x) .u64 n = _
 rw [shift_shr_any _ _ _ _ h0]; unfold wv u32; rw [BitVec.toNat_ushiftRight, Nat.shiftRight_eq_div_pow]
 show pure (Value.int .u32 ((x.toNat : Int) / ((2 ^ min n.toNat 32 : Nat) : Int))) = _
 rw [← Int.natCast_ediv]
 rcases Nat.le_total n.toNat 32 with h | h
 ·rw [Nat.min_eq_left h]
 ·rw [Nat.min_eq_right h, Nat.div_eq_of_lt x.isLt, Nat.div_eq_of_lt (Nat.lt_of_lt_of_le x.isLt (Nat.pow_le_pow_right (by omega) h))]
theorem sem_shl32 (t : TypeId) (x : BitVec 32) (n : Int) (h0 : 0 ≤ n) : binOp .shl t (.int .u32 (u32 x)) (.int .u64 n) = pure (wv (x <<< n.toNat)) := by
 show Op.shift .shl .u32 (u32 x) .u64 n = _
 rw [shift_shl_any _ _ _ _ h0]; unfold wv u32; rw [BitVec.toNat_shiftLeft, Nat.shiftLeft_eq]
 show pure (Value.int .u32 (IntKind.u32.wrap ((x.toNat : Int) * ((2 ^ min n.toNat 32 : Nat) : Int)))) = _
 rw [IntKind.wrap_u32', ← Int.natCast_mul, show (4294967296 : Int) = ((2 ^ 32 : Nat) : Int) from rfl, ← Int.natCast_emod]
 rcases Nat.le_total n.toNat 32 with h | h
 ·rw [Nat.min_eq_left h]
 ·rw [Nat.min_eq_right h, show n.toNat = 32 + (n.toNat - 32) by omega, Nat.pow_add, ← Nat.mul_assoc, Nat.mul_mod_left, Nat.mul_right_comm, Nat.mul_mod_left]
section
variable (w : World)
theorem run_w8 (x : UInt8) : (convert 5 193 (bv x)).run Tryz.prog w = .ok (wv (w8 x)) w := by
 have h : (convert 5 193 (bv x)).run Tryz.prog w = .ok (.int .u32 (IntKind.u32.wrap (x.toNat : Int))) w := by rfl
 have := x.toNat_lt
 unfold wv bv u32 at *
 rw [h, w8_toNat, IntKind.wrap_u32', Int.emod_eq_of_lt (by omega) (by omega)]
theorem run_b8 (x : BitVec 32) : (convert 193 5 (wv x)).run Tryz.prog w = .ok (bv (b8 x)) w := by
 have h : (convert 193 5 (wv x)).run Tryz.prog w = .ok (.int .u8 (IntKind.u8.wrap (x.toNat : Int))) w := by rfl
 unfold wv bv at *
 rw [h, b8_toNat, IntKind.wrap_u8']; simp
theorem run_blockSlice (b o : Nat) (l : Int) (k : Nat) (hk : l = k) (h1 : k < 64) : (Instr.sliceAt 236 (.pointer (some ⟨b, o, none⟩)) (some (.int .i64 l)) none none).run Tryz.prog w = .ok (.slice (some ⟨b, o + k, none⟩) (64 - k) (64 - k)) w := by
 subst hk
 have ht : Tryz.prog.arrayLen 236 = 64 := by kernel_rfl
 have he : Tryz.prog.elem 236 = 5 := by kernel_rfl
 have hz : (sizeOf 5).run Tryz.prog w = .ok 1 w := by kernel_rfl
 rw [run_sliceAt_array_l (P := Tryz.prog) w 236 ⟨b, o, none⟩ (by rw [ht, he]; exact Tryz.underlying236) .i64 (k : Int) (by omega) (by rw [ht]; omega), he, hz, ht]
 have hne : ¬ 64 = k := by omega
 simp [Result.andThen, slicedAt, Addr.add, hne]
theorem run_bytes4 (a b c d : UInt8) : (convert 137 9 (.slice (some ⟨w.heap.size, 0, none⟩) 4 4)).run Tryz.prog (w.alloc (.cells #[bv a, bv b, bv c, bv d] 5)) = .ok (.string ⟨#[a, b, c, d]⟩) (w.alloc (.cells #[bv a, bv b, bv c, bv d] 5)) := by
 rw [run_convert_bytes_arg (P := Tryz.prog) (w.alloc (.cells #[bv a, bv b, bv c, bv d] 5)) 137 5 Tryz.underlying137 Tryz.underlying5 w.heap.size 0 4 4 [(a.toNat : Int), b.toNat, c.toNat, d.toNat] rfl ?_ 9 Tryz.underlying9]
 ·simp [strOfNums]
 ·intro i hi
  rw [Nat.zero_add, World.cell?_alloc_new]
  match i, hi with
  | 0, _ => rfl
  | 1, _ => rfl
  | 2, _ => rfl
  | 3, _ => rfl
theorem run_bytes1 (a : UInt8) : (convert 137 9 (.slice (some ⟨w.heap.size, 0, none⟩) 1 1)).run Tryz.prog (w.alloc (.cells #[bv a] 5)) = .ok (.string ⟨#[a]⟩) (w.alloc (.cells #[bv a] 5)) := by
 rw [run_convert_bytes_arg (P := Tryz.prog) (w.alloc (.cells #[bv a] 5)) 137 5 Tryz.underlying137 Tryz.underlying5 w.heap.size 0 1 1 [(a.toNat : Int)] rfl ?_ 9 Tryz.underlying9]
 ·simp [strOfNums]
 ·intro i hi
  rw [Nat.zero_add, World.cell?_alloc_new]
  match i, hi with
  | 0, _ => rfl
end
end Go.Proofs.YthehblmjloohiaaGreatDoor.T8

namespace Go.Proofs.YthehblmjloohiaaGreatDoor.T8
set_option maxRecDepth 100000
open Go.RowKit Sha
attribute [local go_sem 9000] sem_add32 sem_xor32 sem_and32 sem_or32 sem_not32 sem_shr32 sem_shl32 run_w8 run_b8 run_bytes4 run_bytes1
set_option maxHeartbeats 400000 in
theorem turn_any (x : BitVec 32) (n : Int) (w : World) (h1 : 1 ≤ n) (h2 : n ≤ 31) :
  Calls Tryz.prog 142 #[wv x, .int .u64 n] w fun e w' => e = .returned (wv (rotr x n.toNat)) ∧ w = w' := by
 have h0 : 0 ≤ n := by omega
 have h3 : n ≤ 32 := by omega
 have h4 : (32 - n).toNat = 32 - n.toNat := by omega
 go_enter Tryz.func142, Tryz.ntmps142
 go_wp2
 go_ret
 exact ⟨rfl, rfl⟩
theorem count_of (n : Int) (h1 : 1 ≤ n) (h2 : n ≤ 31) : bits .and .u64 (IntKind.u64.wrap (-n)) 31 = 32 - n := by
 have h : IntKind.u64.wrap (-n) = ((18446744073709551616 - n).toNat : Int) := by
  simp [IntKind.wrap, IntKind.bits, IntKind.signed]; omega
 rw [h, show (31 : Int) = ((31 : Nat) : Int) from rfl, u64_and_nat _ _ (by omega) (by omega), nat_mask5]
 omega
set_option maxHeartbeats 400000 in
theorem rotl_any (x : BitVec 32) (n : Int) (w : World) (h1 : 1 ≤ n) (h2 : n ≤ 31) :
  Calls Tryz.prog 240 #[wv x, .int .i64 (-n)] w fun e w' => e = .returned (wv (rotr x n.toNat)) ∧ w = w' := by
 have h0 : 0 ≤ n := by omega
 have h3 : n ≤ 32 := by omega
 have h4 : (32 - n).toNat = 32 - n.toNat := by omega
 have h6 : 32 - (32 - n) = n := by omega
 have h5 := count_of n h1 h2
 go_enter Tryz.func240, Tryz.ntmps240
 go_wp2
 go_ret
 exact ⟨congrArg (fun x => Ending.returned (wv x)) (BitVec.or_comm _ _), rfl⟩
set_option maxHeartbeats 400000 in
theorem turnRight_any (x : BitVec 32) (n : Int) (w : World) (h1 : 1 ≤ n) (h2 : n ≤ 31) :
  Calls Tryz.prog 226 #[wv x, .int .i64 n] w fun e w' => e = .returned (wv (rotr x n.toNat)) ∧ w = w' := by
 go_enter Tryz.func226, Tryz.ntmps226
 go_wp2_with (go_at_call 240; refine (rotl_any _ _ _ h1 h2).mono ?_; rintro e w' ⟨rfl, rfl⟩)
 go_ret
 exact ⟨rfl, rfl⟩
set_option maxHeartbeats 400000 in
theorem wordText_any (x : BitVec 32) (w : World) :
  Calls Tryz.prog 179 #[wv x] w fun e w' => e = .returned (.string ⟨(wordBytes x).toArray⟩) ∧ Below w.heap.size w w' := by
 go_enter Tryz.func179, Tryz.ntmps179
 go_wp2
 go_ret
 exact ⟨rfl, (Below.refl _ _).alloc (Nat.le_refl _) _⟩
end Go.Proofs.YthehblmjloohiaaGreatDoor.T8
