/- SHA-256 over lists of bytes, plainly. -/
namespace Sha

def rotr (x : BitVec 32) (n : Nat) : BitVec 32 := x >>> n ||| x <<< (32 - n)
def w8 (x : UInt8) : BitVec 32 := BitVec.ofNat 32 x.toNat
def b8 (x : BitVec 32) : UInt8 := UInt8.ofNat x.toNat
/-- A word's bytes, the highest first. -/
def wordBytes (x : BitVec 32) : List UInt8 := [b8 (x >>> 24), b8 (x >>> 16), b8 (x >>> 8), b8 x]

def K : List (BitVec 32) := [
  0x428a2f98#32, 0x71374491#32, 0xb5c0fbcf#32, 0xe9b5dba5#32, 0x3956c25b#32, 0x59f111f1#32, 0x923f82a4#32, 0xab1c5ed5#32,
  0xd807aa98#32, 0x12835b01#32, 0x243185be#32, 0x550c7dc3#32, 0x72be5d74#32, 0x80deb1fe#32, 0x9bdc06a7#32, 0xc19bf174#32,
  0xe49b69c1#32, 0xefbe4786#32, 0x0fc19dc6#32, 0x240ca1cc#32, 0x2de92c6f#32, 0x4a7484aa#32, 0x5cb0a9dc#32, 0x76f988da#32,
  0x983e5152#32, 0xa831c66d#32, 0xb00327c8#32, 0xbf597fc7#32, 0xc6e00bf3#32, 0xd5a79147#32, 0x06ca6351#32, 0x14292967#32,
  0x27b70a85#32, 0x2e1b2138#32, 0x4d2c6dfc#32, 0x53380d13#32, 0x650a7354#32, 0x766a0abb#32, 0x81c2c92e#32, 0x92722c85#32,
  0xa2bfe8a1#32, 0xa81a664b#32, 0xc24b8b70#32, 0xc76c51a3#32, 0xd192e819#32, 0xd6990624#32, 0xf40e3585#32, 0x106aa070#32,
  0x19a4c116#32, 0x1e376c08#32, 0x2748774c#32, 0x34b0bcb5#32, 0x391c0cb3#32, 0x4ed8aa4a#32, 0x5b9cca4f#32, 0x682e6ff3#32,
  0x748f82ee#32, 0x78a5636f#32, 0x84c87814#32, 0x8cc70208#32, 0x90befffa#32, 0xa4506ceb#32, 0xbef9a3f7#32, 0xc67178f2#32]
def kAt (i : Nat) : BitVec 32 := K.getD i 0

structure St where
  a : BitVec 32
  b : BitVec 32
  c : BitVec 32
  d : BitVec 32
  e : BitVec 32
  f : BitVec 32
  g : BitVec 32
  h : BitVec 32

def St.get (s : St) : Nat → BitVec 32
  | 0 => s.a | 1 => s.b | 2 => s.c | 3 => s.d | 4 => s.e | 5 => s.f | 6 => s.g | _ => s.h
def init : St := ⟨0x6a09e667#32, 0xbb67ae85#32, 0x3c6ef372#32, 0xa54ff53a#32, 0x510e527f#32, 0x9b05688c#32, 0x1f83d9ab#32, 0x5be0cd19#32⟩

def big1 (e : BitVec 32) : BitVec 32 := rotr e 6 ^^^ rotr e 11 ^^^ rotr e 25
def big0 (a : BitVec 32) : BitVec 32 := rotr a 2 ^^^ rotr a 13 ^^^ rotr a 22
def small0 (x : BitVec 32) : BitVec 32 := rotr x 7 ^^^ rotr x 18 ^^^ x >>> 3
def small1 (x : BitVec 32) : BitVec 32 := rotr x 17 ^^^ rotr x 19 ^^^ x >>> 10
def pick (e f g : BitVec 32) : BitVec 32 := (e &&& f) ^^^ (~~~e &&& g)
def most (a b c : BitVec 32) : BitVec 32 := (a &&& b) ^^^ (a &&& c) ^^^ (b &&& c)
def temp (s : St) (k w : BitVec 32) : BitVec 32 := s.h + big1 s.e + pick s.e s.f s.g + k + w
def round (s : St) (k w : BitVec 32) : St :=
  ⟨temp s k w + big0 s.a + most s.a s.b s.c, s.a, s.b, s.c, s.d + temp s k w, s.e, s.f, s.g⟩

/-- The word of four bytes, the highest first. -/
def word4 (a b c d : UInt8) : BitVec 32 := w8 a <<< 24 ||| w8 b <<< 16 ||| w8 c <<< 8 ||| w8 d
/-- A block is a function: its bytes by place. -/
def first (m : Nat → UInt8) (i : Nat) : BitVec 32 := word4 (m (4 * i)) (m (4 * i + 1)) (m (4 * i + 2)) (m (4 * i + 3))
def nextW (x16 x15 x7 x2 : BitVec 32) : BitVec 32 := x16 + small0 x15 + x7 + small1 x2
/-- The first k words, the last one at the head. -/
def back (m : Nat → UInt8) : Nat → List (BitVec 32)
  | 0 => []
  | k + 1 => (if k < 16 then first m k else nextW ((back m k).getD 15 0) ((back m k).getD 14 0) ((back m k).getD 6 0) ((back m k).getD 1 0)) :: back m k
def wd (m : Nat → UInt8) (i : Nat) : BitVec 32 := (back m (i + 1)).headD 0

theorem back_getD (m : Nat → UInt8) : ∀ k j, j < k → (back m k).getD j 0 = wd m (k - 1 - j) := by
  intro k
  induction k with
  | zero => intro j h; omega
  | succ k ih =>
    intro j h
    cases j with
    | zero => simp [wd, back]
    | succ j =>
      rw [show back m (k + 1) = _ :: back m k from rfl, List.getD_cons_succ, ih j (by omega)]
      congr 1; omega
theorem wd_first (m : Nat → UInt8) (i : Nat) (h : i < 16) : wd m i = first m i := by simp [wd, back, h]
theorem wd_next (m : Nat → UInt8) (i : Nat) (h : 16 ≤ i) : wd m i = nextW (wd m (i - 16)) (wd m (i - 15)) (wd m (i - 7)) (wd m (i - 2)) := by
  show (back m (i + 1)).headD 0 = _
  rw [show back m (i + 1) = _ :: back m i from rfl, List.headD_cons, if_neg (by omega), back_getD m i 15 (by omega), back_getD m i 14 (by omega), back_getD m i 6 (by omega), back_getD m i 1 (by omega)]
  rw [show i - 1 - 15 = i - 16 by omega, show i - 1 - 14 = i - 15 by omega, show i - 1 - 6 = i - 7 by omega, show i - 1 - 1 = i - 2 by omega]

def rounds (m : Nat → UInt8) (s : St) : Nat → St
  | 0 => s
  | k + 1 => round (rounds m s k) (kAt k) (wd m k)
def addSt (s t : St) : St := ⟨s.a + t.a, s.b + t.b, s.c + t.c, s.d + t.d, s.e + t.e, s.f + t.f, s.g + t.g, s.h + t.h⟩
theorem addSt_get (s t : St) (k : Nat) : (addSt s t).get k = s.get k + t.get k := by
  unfold St.get
  match k with
  | 0 => rfl | 1 => rfl | 2 => rfl | 3 => rfl | 4 => rfl | 5 => rfl | 6 => rfl | _ + 7 => rfl
def press (s : St) (m : Nat → UInt8) : St := addSt s (rounds m s 64)
/-- The words behind the first n blocks of s. -/
def blocks (s : List UInt8) : Nat → St
  | 0 => init
  | n + 1 => press (blocks s n) (fun i => s.getD (64 * n + i) 0)
/-- The lowest k bytes of a number, the highest first. -/
def num (v : Nat) : Nat → List UInt8
  | 0 => []
  | k + 1 => UInt8.ofNat (v / 256 ^ k) :: num v k
def pad (s : List UInt8) : List UInt8 := s ++ 128 :: List.replicate ((119 - s.length % 64) % 64) 0 ++ num (8 * s.length) 8
def St.out (s : St) : List UInt8 := wordBytes s.a ++ wordBytes s.b ++ wordBytes s.c ++ wordBytes s.d ++ wordBytes s.e ++ wordBytes s.f ++ wordBytes s.g ++ wordBytes s.h
def sha (s : List UInt8) : List UInt8 := (blocks (pad s) ((pad s).length / 64)).out

theorem num_length (v : Nat) : ∀ k, (num v k).length = k
  | 0 => rfl
  | k + 1 => by simp [num, num_length v k]
theorem out_length (s : St) : s.out.length = 32 := rfl
theorem sha_length (s : List UInt8) : (sha s).length = 32 := rfl

/-- A branch's text. -/
def branch (tag : UInt8) (parts : List (List UInt8)) : List UInt8 := tag :: parts.flatMap fun p => num p.length 4 ++ p
def hexd (d : UInt8) : UInt8 := if d < 10 then 48 + d else 87 + d
def digits (s : List UInt8) : List UInt8 := s.flatMap fun b => [hexd (b / 16), hexd (b % 16)]
def text (s : String) : List UInt8 := s.toUTF8.data.toList

theorem back_congr {m m' : Nat → UInt8} (h : ∀ j, j < 64 → m j = m' j) : ∀ k, back m k = back m' k := by
  intro k
  induction k with
  | zero => rfl
  | succ k ih =>
    have hf : k < 16 → first m k = first m' k := fun hk => by
      unfold first
      rw [h (4 * k) (by omega), h (4 * k + 1) (by omega), h (4 * k + 2) (by omega), h (4 * k + 3) (by omega)]
    simp only [back]
    rw [ih]
    by_cases hk : k < 16
    · rw [if_pos hk, if_pos hk, hf hk]
    · rw [if_neg hk, if_neg hk]
theorem press_congr {m m' : Nat → UInt8} (h : ∀ j, j < 64 → m j = m' j) (s : St) : press s m = press s m' := by
  have hw : ∀ k, wd m k = wd m' k := fun k => by unfold wd; rw [back_congr h]
  have hr : ∀ k, rounds m s k = rounds m' s k := by
    intro k
    induction k with
    | zero => rfl
    | succ k ih => show round _ _ _ = round _ _ _; rw [ih, hw]
  unfold press; rw [hr]
theorem getD_append_left (F G : List UInt8) (i : Nat) (h : i < F.length) : (F ++ G).getD i 0 = F.getD i 0 := by
  simp [List.getD, List.getElem?_append_left h]
theorem getD_append_right (F G : List UInt8) (i : Nat) : (F ++ G).getD (F.length + i) 0 = G.getD i 0 := by
  simp [List.getD, List.getElem?_append_right (Nat.le_add_right _ _)]
theorem blocks_append (F G : List UInt8) : ∀ n, 64 * n ≤ F.length → blocks (F ++ G) n = blocks F n := by
  intro n
  induction n with
  | zero => intro _; rfl
  | succ n ih =>
    intro h
    show press _ _ = press _ _
    rw [ih (by omega)]
    exact press_congr (fun j hj => getD_append_left F G _ (by omega)) _

/-- What a press holds behind the bytes S: the words of the whole blocks, the rest in its block. -/
structure Holds (S : List UInt8) (st : St) (m : Nat → UInt8) (held : Nat) : Prop where
  words : st = blocks S (S.length / 64)
  place : held = S.length % 64
  rest : ∀ j, j < held → m j = S.getD (64 * (S.length / 64) + j) 0
/-- Bytes laid over a block from place h on. -/
def over (m : Nat → UInt8) (h n : Nat) (r : List UInt8) (j : Nat) : UInt8 := if h ≤ j ∧ j < h + n then r.getD (j - h) 0 else m j
theorem Holds.nil (m : Nat → UInt8) : Holds [] init m 0 := ⟨rfl, rfl, fun j h => by omega⟩
/-- Less than what fills the block. -/
theorem Holds.less {S : List UInt8} {st : St} {m : Nat → UInt8} {h : Nat} (hs : Holds S st m h) (r : List UInt8) (hr : h + r.length < 64) : Holds (S ++ r) st (over m h r.length r) (h + r.length) := by
  have h1 := hs.place
  have hl : (S ++ r).length = S.length + r.length := by simp
  have hd : (S.length + r.length) / 64 = S.length / 64 := by omega
  refine ⟨?_, by rw [hl]; omega, fun j hj => ?_⟩
  · rw [hl, hd, blocks_append S r _ (by omega)]; exact hs.words
  · rw [hl, hd]
    unfold over
    by_cases hc : h ≤ j
    · rw [if_pos ⟨hc, hj⟩, show 64 * (S.length / 64) + j = S.length + (j - h) by omega, getD_append_right]
    · rw [if_neg (by omega), getD_append_left S r _ (by omega)]
      exact hs.rest j (by omega)
/-- What fills the block, and the block pressed. -/
theorem Holds.full {S : List UInt8} {st : St} {m : Nat → UInt8} {h : Nat} (hs : Holds S st m h) (r : List UInt8) (m' : Nat → UInt8) (hr : 64 - h ≤ r.length) :
    Holds (S ++ r.take (64 - h)) (press st (over m h (64 - h) r)) m' 0 := by
  have h1 := hs.place
  have ht : (r.take (64 - h)).length = 64 - h := by simp; omega
  have hl : (S ++ r.take (64 - h)).length = S.length + (64 - h) := by simp; omega
  have hd : (S.length + (64 - h)) / 64 = S.length / 64 + 1 := by omega
  refine ⟨?_, by rw [hl]; omega, fun j hj => by omega⟩
  rw [hl, hd]
  show _ = press (blocks _ _) _
  rw [blocks_append S _ _ (by omega), ← hs.words]
  refine press_congr (fun j hj => ?_) _
  unfold over
  by_cases hc : h ≤ j
  · rw [if_pos ⟨hc, by omega⟩, show 64 * (S.length / 64) + j = S.length + (j - h) by omega, getD_append_right]
    simp only [List.getD, List.getElem?_take]
    rw [if_pos (by omega)]
  · rw [if_neg (by omega), getD_append_left S _ _ (by omega)]
    exact hs.rest j (by omega)

theorem byte_congr {a b : Nat} (h : a % 256 = b % 256) : UInt8.ofNat a = UInt8.ofNat b := by
  rw [← UInt8.toNat_inj, UInt8.toNat_ofNat', UInt8.toNat_ofNat']; exact h
theorem b8_shr (v n : Nat) : b8 (BitVec.ofNat 32 v >>> n) = UInt8.ofNat (v % 4294967296 / 2 ^ n) := by
  unfold b8
  rw [BitVec.toNat_ushiftRight, Nat.shiftRight_eq_div_pow, BitVec.toNat_ofNat]
theorem num4 (v : Nat) : num v 4 = wordBytes (BitVec.ofNat 32 v) := by
  have h0 : b8 (BitVec.ofNat 32 v) = UInt8.ofNat (v % 4294967296) := by unfold b8; rw [BitVec.toNat_ofNat]
  unfold wordBytes
  rw [b8_shr, b8_shr, b8_shr, h0]
  show [UInt8.ofNat (v / 16777216), UInt8.ofNat (v / 65536), UInt8.ofNat (v / 256), UInt8.ofNat (v / 1)] = [UInt8.ofNat (v % 4294967296 / 16777216), UInt8.ofNat (v % 4294967296 / 65536), UInt8.ofNat (v % 4294967296 / 256), UInt8.ofNat (v % 4294967296)]
  rw [byte_congr (a := v / 16777216) (b := v % 4294967296 / 16777216) (by omega), byte_congr (a := v / 65536) (b := v % 4294967296 / 65536) (by omega),
    byte_congr (a := v / 256) (b := v % 4294967296 / 256) (by omega), byte_congr (a := v / 1) (b := v % 4294967296) (by omega)]
theorem num8 (v : Nat) : num v 8 = num (v / 4294967296) 4 ++ num v 4 := by
  show [UInt8.ofNat (v / 72057594037927936), UInt8.ofNat (v / 281474976710656), UInt8.ofNat (v / 1099511627776), UInt8.ofNat (v / 4294967296)] ++ num v 4 =
    [UInt8.ofNat (v / 4294967296 / 16777216), UInt8.ofNat (v / 4294967296 / 65536), UInt8.ofNat (v / 4294967296 / 256), UInt8.ofNat (v / 4294967296 / 1)] ++ num v 4
  rw [Nat.div_div_eq_div_mul, Nat.div_div_eq_div_mul, Nat.div_div_eq_div_mul, Nat.div_one]
theorem num_words (v : Nat) : num v 8 = wordBytes (BitVec.ofNat 32 (v / 4294967296)) ++ wordBytes (BitVec.ofNat 32 v) := by rw [num8, num4, num4]
/-- The first k words of what comes out. -/
def St.outK (s : St) : Nat → List UInt8
  | 0 => []
  | k + 1 => s.outK k ++ wordBytes (s.get k)
theorem outK_eight (s : St) : s.outK 8 = s.out := by
  show ((((((([] ++ wordBytes s.a) ++ wordBytes s.b) ++ wordBytes s.c) ++ wordBytes s.d) ++ wordBytes s.e) ++ wordBytes s.f) ++ wordBytes s.g) ++ wordBytes s.h = _
  rfl
theorem outK_length (s : St) : ∀ k, (s.outK k).length = 4 * k
  | 0 => rfl
  | k + 1 => by rw [show s.outK (k + 1) = s.outK k ++ wordBytes (s.get k) from rfl, List.length_append, outK_length s k]; rfl

theorem or_add (i x y : Nat) (hx : x % 2 ^ i = 0) (hy : y < 2 ^ i) : x ||| y = x + y := by
  obtain ⟨k, rfl⟩ : ∃ k, x = 2 ^ i * k := ⟨x / 2 ^ i, by have := Nat.div_add_mod x (2 ^ i); omega⟩
  exact (Nat.two_pow_add_eq_or_of_lt hy k).symm
theorem word4_add (a b c d : UInt8) : word4 a b c d = w8 a <<< 24 + w8 b <<< 16 + w8 c <<< 8 + w8 d := by
  have ha := a.toNat_lt
  have hb := b.toNat_lt
  have hc := c.toNat_lt
  have hd := d.toNat_lt
  have w : ∀ x : UInt8, (w8 x).toNat = x.toNat := fun x => by
    have := x.toNat_lt
    unfold w8; rw [BitVec.toNat_ofNat]; omega
  have s1 : (w8 a <<< 24).toNat = a.toNat * 16777216 := by rw [BitVec.toNat_shiftLeft, Nat.shiftLeft_eq, w]; omega
  have s2 : (w8 b <<< 16).toNat = b.toNat * 65536 := by rw [BitVec.toNat_shiftLeft, Nat.shiftLeft_eq, w]; omega
  have s3 : (w8 c <<< 8).toNat = c.toNat * 256 := by rw [BitVec.toNat_shiftLeft, Nat.shiftLeft_eq, w]; omega
  apply BitVec.eq_of_toNat_eq
  unfold word4
  rw [BitVec.toNat_or, BitVec.toNat_or, BitVec.toNat_or, BitVec.toNat_add, BitVec.toNat_add, BitVec.toNat_add, s1, s2, s3, w]
  rw [or_add 24 (a.toNat * 16777216) (b.toNat * 65536) (by omega) (by omega), or_add 16 (a.toNat * 16777216 + b.toNat * 65536) (c.toNat * 256) (by omega) (by omega), or_add 8 (a.toNat * 16777216 + b.toNat * 65536 + c.toNat * 256) d.toNat (by omega) (by omega)]
  omega

end Sha
