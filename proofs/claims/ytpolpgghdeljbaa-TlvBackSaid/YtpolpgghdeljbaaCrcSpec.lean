/- CRC-32C over lists of bytes, plainly. -/
namespace Crc

def poly : BitVec 32 := 0x82f63b78#32
/-- One bit of nought. -/
def Z (x : BitVec 32) : BitVec 32 := if x.getLsbD 0 then x >>> 1 ^^^ poly else x >>> 1
/-- One bit. -/
def fbit (x : BitVec 32) (b : Bool) : BitVec 32 := if (x.getLsbD 0 ^^ b) then x >>> 1 ^^^ poly else x >>> 1
/-- The first n bits of a byte. -/
def fbits (x : BitVec 32) (c : UInt8) : Nat → BitVec 32
  | 0 => x
  | n + 1 => fbit (fbits x c n) (c.toNat.testBit n)
def byte (x : BitVec 32) (c : UInt8) : BitVec 32 := fbits x c 8
def run (x : BitVec 32) (l : List UInt8) : BitVec 32 := l.foldl byte x
def ones : BitVec 32 := BitVec.allOnes 32
def crc (l : List UInt8) : BitVec 32 := ~~~ run ones l
def b8 (x : BitVec 32) : UInt8 := UInt8.ofNat x.toNat
/-- The sum's bytes, the lowest first. -/
def low (x : BitVec 32) : List UInt8 := [b8 x, b8 (x >>> 8), b8 (x >>> 16), b8 (x >>> 24)]
def sealed (l : List UInt8) : List UInt8 := l ++ low (crc l)

theorem run_nil (x : BitVec 32) : run x [] = x := rfl
theorem run_append (x : BitVec 32) (l m : List UInt8) : run x (l ++ m) = run (run x l) m := by unfold run; rw [List.foldl_append]
theorem run_snoc (x : BitVec 32) (l : List UInt8) (c : UInt8) : run x (l ++ [c]) = byte (run x l) c := by rw [run_append]; rfl
theorem low_length (x : BitVec 32) : (low x).length = 4 := rfl
theorem sealed_length (l : List UInt8) : (sealed l).length = l.length + 4 := by unfold sealed; rw [List.length_append, low_length]

theorem Z_zero : Z 0 = 0 := by decide
theorem lsb_xor (x y : BitVec 32) : (x ^^^ y).getLsbD 0 = (x.getLsbD 0 ^^ y.getLsbD 0) := BitVec.getLsbD_xor
theorem Z_xor (x y : BitVec 32) : Z (x ^^^ y) = Z x ^^^ Z y := by
  unfold Z
  rw [lsb_xor, BitVec.ushiftRight_xor_distrib]
  cases x.getLsbD 0 <;> cases y.getLsbD 0 <;> simp
  · ac_rfl
  · ac_rfl
  · rw [show x >>> 1 ^^^ poly ^^^ (y >>> 1 ^^^ poly) = x >>> 1 ^^^ y >>> 1 ^^^ (poly ^^^ poly) by ac_rfl, BitVec.xor_self, BitVec.xor_zero]
theorem fbit_Z (x : BitVec 32) (b : Bool) : fbit x b = Z x ^^^ (if b then poly else 0) := by
  unfold fbit Z
  cases x.getLsbD 0 <;> cases b <;> simp
  rw [show x >>> 1 ^^^ poly ^^^ poly = x >>> 1 ^^^ (poly ^^^ poly) by ac_rfl, BitVec.xor_self, BitVec.xor_zero]
/-- Z loses nothing. -/
theorem Z_eq_zero {x : BitVec 32} (h : Z x = 0) : x = 0 := by
  unfold Z at h
  cases hx : x.getLsbD 0 with
  | true =>
    rw [hx, if_pos rfl] at h
    have := congrArg (fun y : BitVec 32 => y.getLsbD 31) h
    simp [poly] at this
  | false =>
    rw [hx, if_neg (by simp)] at h
    apply BitVec.eq_of_getLsbD_eq
    intro i hi
    cases i with
    | zero => simpa using hx
    | succ i =>
      have := congrArg (fun y : BitVec 32 => y.getLsbD i) h
      simpa [Nat.add_comm] using this
def Zn : Nat → BitVec 32 → BitVec 32
  | 0, x => x
  | n + 1, x => Z (Zn n x)
theorem Zn_xor (x y : BitVec 32) : ∀ n, Zn n (x ^^^ y) = Zn n x ^^^ Zn n y
  | 0 => rfl
  | n + 1 => by show Z _ = Z _ ^^^ Z _; rw [Zn_xor x y n, Z_xor]
theorem Zn_eq_zero {x : BitVec 32} : ∀ n, Zn n x = 0 → x = 0
  | 0, h => h
  | n + 1, h => Zn_eq_zero n (Z_eq_zero h)
theorem Zn_inj {x y : BitVec 32} (n : Nat) (h : Zn n x = Zn n y) : x = y := by
  have h1 : Zn n (x ^^^ y) = 0 := by rw [Zn_xor, h, BitVec.xor_self]; rfl
  exact BitVec.xor_eq_zero_iff.1 (Zn_eq_zero n h1)
/-- The first n bits of a word, from x on. -/
def word (x y : BitVec 32) : Nat → BitVec 32
  | 0 => x
  | n + 1 => fbit (word x y n) (y.getLsbD n)
theorem Z_shr (y : BitVec 32) (n : Nat) : Z (y >>> n) = y >>> (n + 1) ^^^ (if y.getLsbD n then poly else 0) := by
  unfold Z
  rw [show (y >>> n).getLsbD 0 = y.getLsbD n by simp, ← BitVec.shiftRight_add]
  cases y.getLsbD n <;> simp
theorem word_Zn (x y : BitVec 32) : ∀ n, Zn n (x ^^^ y) = word x y n ^^^ y >>> n
  | 0 => by simp [Zn, word]
  | n + 1 => by
    show Z _ = fbit _ _ ^^^ _
    rw [word_Zn x y n, Z_xor, Z_shr, fbit_Z]
    ac_rfl
theorem word_full (x y : BitVec 32) : word x y 32 = Zn 32 (x ^^^ y) := by
  rw [word_Zn]
  have : y >>> 32 = 0 := by
    apply BitVec.eq_of_getLsbD_eq
    intro i hi
    simp
  rw [this]; exact BitVec.xor_zero.symm
theorem b8_testBit (y : BitVec 32) (k n : Nat) (h : n < 8) : (b8 (y >>> k)).toNat.testBit n = y.getLsbD (k + n) := by
  unfold b8
  rw [UInt8.toNat_ofNat', show (2:Nat)^8 = 2^8 from rfl, Nat.testBit_mod_two_pow]
  simp [h, BitVec.getLsbD, Nat.testBit_shiftRight]
theorem fbits_word (x y : BitVec 32) (k : Nat) : ∀ n, n ≤ 8 → fbits (word x y k) (b8 (y >>> k)) n = word x y (k + n)
  | 0, _ => rfl
  | n + 1, h => by
    show fbit _ _ = fbit _ _
    rw [fbits_word x y k n (by omega), b8_testBit y k n (by omega)]
    rfl
theorem run_low (x y : BitVec 32) : run x (low y) = Zn 32 (x ^^^ y) := by
  rw [← word_full]
  have h0 := fbits_word x y 0 8 (by omega)
  have h1 := fbits_word x y 8 8 (by omega)
  have h2 := fbits_word x y 16 8 (by omega)
  have h3 := fbits_word x y 24 8 (by omega)
  show byte (byte (byte (byte x _) _) _) _ = _
  unfold byte
  rw [show y >>> 0 = y by simp] at h0
  rw [show fbits x (b8 y) 8 = word x y 8 from h0, h1, h2, h3]
/-- What all that is sealed comes to. -/
def rest : BitVec 32 := ~~~ Zn 32 ones
theorem xor_not (x : BitVec 32) : x ^^^ ~~~ x = ones := by
  apply BitVec.eq_of_getLsbD_eq
  intro i hi
  rw [BitVec.getLsbD_xor, BitVec.getLsbD_not]; unfold ones; rw [BitVec.getLsbD_allOnes]; simp [hi]
theorem not_inj {x y : BitVec 32} (h : ~~~ x = ~~~ y) : x = y := by rw [← BitVec.not_not (b := x), h, BitVec.not_not]
theorem crc_low (l : List UInt8) (y : BitVec 32) : crc (l ++ low y) = rest ↔ y = crc l := by
  unfold crc rest
  rw [run_append, run_low]
  constructor
  · intro h
    have h2 := Zn_inj 32 (not_inj h)
    exact (BitVec.xor_right_inj _).1 (h2.trans (xor_not _).symm)
  · rintro rfl; rw [xor_not]
theorem crc_sealed (l : List UInt8) : crc (sealed l) = rest := (crc_low l _).2 rfl

/-- A bit of a text. -/
def at_ (l : List UInt8) (k : Nat) : Bool := (l.getD (k / 8) 0).toNat.testBit (k % 8)
/-- The state behind k bits. -/
def st (x : BitVec 32) (l : List UInt8) : Nat → BitVec 32
  | 0 => x
  | k + 1 => fbit (st x l k) (at_ l k)
theorem st_congr (x : BitVec 32) {l m : List UInt8} : ∀ k, (∀ j, j < k → at_ l j = at_ m j) → st x l k = st x m k
  | 0, _ => rfl
  | k + 1, h => by
    show fbit _ _ = fbit _ _
    rw [st_congr x k (fun j hj => h j (by omega)), h k (by omega)]
theorem at_left (l m : List UInt8) (k : Nat) (h : k < 8 * l.length) : at_ (l ++ m) k = at_ l k := by
  unfold at_
  simp [List.getD, List.getElem?_append_left (show k / 8 < l.length by omega)]
theorem at_right (l : List UInt8) (c : UInt8) (n : Nat) (h : n < 8) : at_ (l ++ [c]) (8 * l.length + n) = c.toNat.testBit n := by
  unfold at_
  rw [show (8 * l.length + n) / 8 = l.length by omega, show (8 * l.length + n) % 8 = n by omega]
  simp [List.getD]
theorem st_snoc (x : BitVec 32) (l : List UInt8) (c : UInt8) : ∀ n, n ≤ 8 → st x (l ++ [c]) (8 * l.length + n) = fbits (st x l (8 * l.length)) c n
  | 0, _ => st_congr x _ fun j hj => at_left l [c] j (by omega)
  | n + 1, h => by
    show fbit (st x (l ++ [c]) (8 * l.length + n)) (at_ (l ++ [c]) (8 * l.length + n)) = fbit _ _
    rw [st_snoc x l c n (by omega), at_right l c n (by omega)]
theorem run_st (x : BitVec 32) (l : List UInt8) : run x l = st x l (8 * l.length) := by
  have key : ∀ n (l : List UInt8), l.length = n → run x l = st x l (8 * l.length) := by
    intro n
    induction n with
    | zero => intro l h; rw [List.eq_nil_of_length_eq_zero h]; rfl
    | succ n ih =>
      intro l h
      have hne : l ≠ [] := by intro e; rw [e] at h; cases h
      obtain ⟨m, c, rfl⟩ : ∃ m c, l = m ++ [c] := ⟨l.dropLast, l.getLast hne, (List.dropLast_concat_getLast hne).symm⟩
      have hm : m.length = n := by simpa using h
      rw [run_snoc, ih m hm, List.length_append, List.length_singleton, Nat.mul_add, st_snoc x m c 8 (by omega)]; rfl
  exact key _ l rfl
theorem fbit_xor (x y : BitVec 32) (b c : Bool) : fbit x b ^^^ fbit y c = fbit (x ^^^ y) (b ^^ c) := by
  rw [fbit_Z, fbit_Z, fbit_Z, Z_xor]
  cases b <;> cases c <;> simp
  · ac_rfl
  · ac_rfl
  · rw [show Z x ^^^ poly ^^^ (Z y ^^^ poly) = Z x ^^^ Z y ^^^ (poly ^^^ poly) by ac_rfl, BitVec.xor_self, BitVec.xor_zero]
/-- What two states differ by. -/
def dd (e : Nat → Bool) : Nat → BitVec 32
  | 0 => 0
  | k + 1 => fbit (dd e k) (e k)
theorem st_dd (x : BitVec 32) (l m : List UInt8) : ∀ k, st x l k ^^^ st x m k = dd (fun j => at_ l j ^^ at_ m j) k
  | 0 => BitVec.xor_self
  | k + 1 => by
    show fbit _ _ ^^^ fbit _ _ = fbit _ _
    rw [fbit_xor, st_dd x l m k]
theorem fbit_false (x : BitVec 32) : fbit x false = Z x := by rw [fbit_Z]; exact BitVec.xor_zero
theorem dd_zero {e : Nat → Bool} : ∀ k, (∀ j, j < k → e j = false) → dd e k = 0
  | 0, _ => rfl
  | k + 1, h => by
    show fbit _ _ = 0
    rw [dd_zero k (fun j hj => h j (by omega)), h k (by omega), fbit_false, Z_zero]
theorem dd_word {e : Nat → Bool} {a : Nat} (T : BitVec 32) (h0 : ∀ j, j < a → e j = false) (h1 : ∀ i, i < 32 → T.getLsbD i = e (a + i)) : ∀ n, n ≤ 32 → dd e (a + n) = word 0 T n
  | 0, _ => dd_zero a h0
  | n + 1, h => by
    show fbit (dd e (a + n)) (e (a + n)) = fbit _ _
    rw [dd_word T h0 h1 n (by omega), h1 n (by omega)]
theorem dd_Zn {e : Nat → Bool} {K : Nat} (h : ∀ j, K ≤ j → e j = false) : ∀ n, dd e (K + n) = Zn n (dd e K)
  | 0 => rfl
  | n + 1 => by
    show fbit (dd e (K + n)) (e (K + n)) = Z _
    rw [dd_Zn h n, h _ (by omega), fbit_false]
theorem Zn_zero : ∀ n, Zn n 0 = 0
  | 0 => rfl
  | n + 1 => by show Z _ = 0; rw [Zn_zero n, Z_zero]
theorem nat_of (f : Nat → Bool) : ∀ n, ∃ N : Nat, ∀ i, i < n → N.testBit i = f i
  | 0 => ⟨0, fun i hi => by omega⟩
  | n + 1 => by
    obtain ⟨N, hN⟩ := nat_of f n
    refine ⟨N % 2 ^ n ||| (if f n then 2 ^ n else 0), fun i hi => ?_⟩
    rw [Nat.testBit_or, Nat.testBit_mod_two_pow]
    by_cases h : i < n
    · rw [hN i h, decide_eq_true h]
      split
      · rw [Nat.testBit_two_pow, decide_eq_false (by omega)]; simp
      · simp
    · obtain rfl : i = n := by omega
      rw [decide_eq_false h]
      split
      · rename_i hf; rw [Nat.testBit_two_pow, hf]; simp
      · rename_i hf; simp; simpa using hf
theorem word_of (f : Nat → Bool) : ∃ T : BitVec 32, ∀ i, i < 32 → T.getLsbD i = f i := by
  obtain ⟨N, hN⟩ := nat_of f 32
  exact ⟨BitVec.ofNat 32 N, fun i hi => by rw [BitVec.getLsbD_ofNat, hN i hi, decide_eq_true hi, Bool.true_and]⟩
/-- A burst of 32 bits is seen. -/
theorem burst_seen {e : Nat → Bool} {a N : Nat} (h0 : ∀ j, j < a → e j = false) (h1 : ∀ j, a + 32 ≤ j → e j = false) (hN : ∀ j, N ≤ j → e j = false) (hd : dd e N = 0) : ∀ j, e j = false := by
  obtain ⟨T, hT⟩ := word_of fun i => e (a + i)
  have hw := dd_word T h0 hT 32 (Nat.le_refl _)
  have hz : Zn 32 (0 ^^^ T) = 0 := by
    rw [← word_full, ← hw]
    rcases Nat.le_total N (a + 32) with h | h
    · obtain ⟨n, hn⟩ : ∃ n, a + 32 = N + n := ⟨a + 32 - N, by omega⟩
      rw [hn, dd_Zn hN, hd, Zn_zero]
    · obtain ⟨n, hn⟩ : ∃ n, N = a + 32 + n := ⟨N - (a + 32), by omega⟩
      rw [hn, dd_Zn h1] at hd
      exact Zn_eq_zero n hd
  have hT0 : T = 0 := by
    have := Zn_eq_zero 32 hz
    rw [← this]; exact BitVec.zero_xor.symm
  intro j
  by_cases hj : j < a
  · exact h0 j hj
  · by_cases hk : a + 32 ≤ j
    · exact h1 j hk
    · have := hT (j - a) (by omega)
      rw [show a + (j - a) = j by omega, hT0] at this
      rw [← this]; simp
theorem at_beyond (l : List UInt8) (j : Nat) (h : 8 * l.length ≤ j) : at_ l j = false := by
  unfold at_
  simp [List.getD, List.getElem?_eq_none (show l.length ≤ j / 8 by omega)]
theorem eq_of_bits {l m : List UInt8} (hl : l.length = m.length) (h : ∀ j, at_ l j = at_ m j) : l = m := by
  apply List.ext_getElem hl
  intro i h1 h2
  rw [← UInt8.toNat_inj]
  apply Nat.eq_of_testBit_eq
  intro n
  by_cases hn : n < 8
  · have := h (8 * i + n)
    unfold at_ at this
    rw [show (8 * i + n) / 8 = i by omega, show (8 * i + n) % 8 = n by omega] at this
    simpa [List.getD, List.getElem?_eq_getElem h1, List.getElem?_eq_getElem h2] using this
  · have b1 := (l[i]).toNat_lt
    have b2 := (m[i]).toNat_lt
    have hp : 2 ^ 8 ≤ 2 ^ n := Nat.pow_le_pow_right (by omega) (by omega)
    rw [Nat.testBit_lt_two_pow (by omega), Nat.testBit_lt_two_pow (by omega)]
theorem crc_burst {l m : List UInt8} {a : Nat} (hl : l.length = m.length) (h : ∀ j, ¬ (a ≤ j ∧ j < a + 32) → at_ l j = at_ m j) (hc : crc l = crc m) : l = m := by
  have hr : run ones l = run ones m := not_inj hc
  rw [run_st, run_st, hl] at hr
  have hd : dd (fun j => at_ l j ^^ at_ m j) (8 * m.length) = 0 := by rw [← st_dd ones, hr]; exact BitVec.xor_self
  refine eq_of_bits hl fun j => ?_
  have := burst_seen (e := fun j => at_ l j ^^ at_ m j) (a := a) (N := 8 * m.length) (fun j hj => by simp [h j (by omega)]) (fun j hj => by simp [h j (by omega)])
    (fun j hj => by simp [at_beyond l j (by omega), at_beyond m j hj]) hd j
  simpa using this

/-- A bit turned. -/
def flip (l : List UInt8) (k : Nat) : List UInt8 := l.set (k / 8) (l.getD (k / 8) 0 ^^^ UInt8.ofNat (2 ^ (k % 8)))
theorem flip_length (l : List UInt8) (k : Nat) : (flip l k).length = l.length := by unfold flip; rw [List.length_set]
theorem flip_at (l : List UInt8) (k j : Nat) (h : k < 8 * l.length) : at_ (flip l k) j = (at_ l j ^^ decide (j = k)) := by
  unfold at_ flip
  simp only [List.getD, List.getElem?_set]
  by_cases h1 : k / 8 = j / 8
  · rw [if_pos h1, if_pos (by omega), ← h1]
    have h8 : j % 8 < 8 := Nat.mod_lt _ (by omega)
    have hx : (UInt8.ofNat (2 ^ (k % 8))).toNat = 2 ^ (k % 8) := by
      have : 2 ^ (k % 8) < 2 ^ 8 := Nat.pow_lt_pow_right (by omega) (Nat.mod_lt _ (by omega))
      rw [UInt8.toNat_ofNat', Nat.mod_eq_of_lt this]
    rw [Option.getD_some, UInt8.toNat_xor, Nat.testBit_xor, hx, Nat.testBit_two_pow]
    congr 1
    rw [decide_eq_decide]; omega
  · rw [if_neg h1]
    have : ¬ j = k := by rintro rfl; exact h1 rfl
    simp [this]
/-- The bits of t turned, from place a on, the first n. -/
def turn (l : List UInt8) (a : Nat) (t : BitVec 32) : Nat → List UInt8
  | 0 => l
  | n + 1 => if t.getLsbD n && decide (a + n < 8 * l.length) then flip (turn l a t n) (a + n) else turn l a t n
/-- Is any turned? -/
def some_ (l : List UInt8) (a : Nat) (t : BitVec 32) : Nat → Bool
  | 0 => false
  | n + 1 => (t.getLsbD n && decide (a + n < 8 * l.length)) || some_ l a t n
theorem turn_length (l : List UInt8) (a : Nat) (t : BitVec 32) : ∀ n, (turn l a t n).length = l.length
  | 0 => rfl
  | n + 1 => by
    unfold turn
    split
    · rw [flip_length, turn_length l a t n]
    · exact turn_length l a t n
theorem turn_at (l : List UInt8) (a : Nat) (t : BitVec 32) (j : Nat) : ∀ n, at_ (turn l a t n) j = (at_ l j ^^ (decide (a ≤ j ∧ j < a + n) && (t.getLsbD (j - a) && decide (j < 8 * l.length))))
  | 0 => by
    have : ¬ (a ≤ j ∧ j < a + 0) := by omega
    rw [decide_eq_false this, Bool.false_and, Bool.xor_false]; rfl
  | n + 1 => by
    unfold turn
    have ih := turn_at l a t j n
    by_cases hj : j = a + n
    · subst hj
      have e0 : ¬ (a ≤ a + n ∧ a + n < a + n) := by omega
      have e1 : a ≤ a + n ∧ a + n < a + (n + 1) := by omega
      rw [decide_eq_false e0, Bool.false_and, Bool.xor_false] at ih
      rw [decide_eq_true e1, Bool.true_and, show a + n - a = n by omega]
      cases hb : (t.getLsbD n && decide (a + n < 8 * l.length)) with
      | true =>
        have hlt : a + n < 8 * l.length := by simp at hb; exact hb.2
        rw [if_pos rfl, flip_at _ _ _ (by rw [turn_length]; exact hlt), ih, decide_eq_true rfl]
      | false => rw [if_neg (by simp), ih, Bool.xor_false]
    · have e : decide (a ≤ j ∧ j < a + (n + 1)) = decide (a ≤ j ∧ j < a + n) := by rw [decide_eq_decide]; omega
      rw [e, ← ih]
      split
      · rename_i hb
        have hlt : a + n < 8 * l.length := by simp at hb; exact hb.2
        rw [flip_at _ _ _ (by rw [turn_length]; exact hlt), decide_eq_false hj, Bool.xor_false]
      · rfl
theorem turn_none {l : List UInt8} {a : Nat} {t : BitVec 32} : ∀ n, some_ l a t n = false → turn l a t n = l
  | 0, _ => rfl
  | n + 1, h => by
    unfold some_ at h
    rw [Bool.or_eq_false_iff] at h
    unfold turn
    rw [h.1, if_neg (by simp), turn_none n h.2]
theorem some_bit {l : List UInt8} {a : Nat} {t : BitVec 32} : ∀ n, some_ l a t n = true → ∃ i, i < n ∧ t.getLsbD i = true ∧ a + i < 8 * l.length
  | 0, h => by cases h
  | n + 1, h => by
    unfold some_ at h
    rw [Bool.or_eq_true] at h
    rcases h with h | h
    · simp at h; exact ⟨n, by omega, h.1, h.2⟩
    · obtain ⟨i, hi, h1, h2⟩ := some_bit n h
      exact ⟨i, by omega, h1, h2⟩
theorem turn_some {l : List UInt8} {a : Nat} {t : BitVec 32} {n : Nat} (h : some_ l a t n = true) : turn l a t n ≠ l := by
  obtain ⟨i, hi, h1, h2⟩ := some_bit n h
  intro e
  have := turn_at l a t (a + i) n
  rw [e, decide_eq_true ⟨by omega, by omega⟩, show a + i - a = i by omega, h1, decide_eq_true h2] at this
  simp at this
/-- Turned bits within 32 leave another sum. -/
theorem crc_turn {l : List UInt8} {a : Nat} {t : BitVec 32} (h : crc (turn l a t 32) = crc l) : turn l a t 32 = l := by
  refine crc_burst (a := a) (turn_length l a t 32) (fun j hj => ?_) h
  rw [turn_at, decide_eq_false hj]; simp
theorem crc_turn_iff (l : List UInt8) (a : Nat) (t : BitVec 32) : crc (turn l a t 32) = crc l ↔ turn l a t 32 = l := ⟨crc_turn, fun h => by rw [h]⟩
/-- What ends ahead of the 32nd bit. -/
theorem turn_end {l : List UInt8} {a : Nat} {t : BitVec 32} {n : Nat} (h : 8 * l.length ≤ a + n) : ∀ k, turn l a t (n + k) = turn l a t n
  | 0 => rfl
  | k + 1 => by
    rw [show n + (k + 1) = (n + k) + 1 by omega]
    unfold turn
    rw [show decide (a + (n + k) < 8 * l.length) = false by rw [decide_eq_false_iff_not]; omega, Bool.and_false, if_neg (by simp), turn_end h k]
    cases n <;> rfl

/-- Is it sealed? -/
theorem sealed_iff {s : List UInt8} (h : 4 ≤ s.length) : low (crc (s.take (s.length - 4))) = s.drop (s.length - 4) ↔ crc s = rest := by
  have hs : s = s.take (s.length - 4) ++ s.drop (s.length - 4) := (List.take_append_drop _ _).symm
  generalize hA : s.take (s.length - 4) = A at *
  generalize hB : s.drop (s.length - 4) = B at *
  have hBl : B.length = 4 := by rw [← hB, List.length_drop]; omega
  obtain ⟨y, rfl⟩ : ∃ y, B = low y := by
    match B, hBl with
    | [a, b, c, d], _ =>
      refine ⟨BitVec.ofNat 32 (a.toNat + 256 * b.toNat + 65536 * c.toNat + 16777216 * d.toNat), ?_⟩
      have ha := a.toNat_lt
      have hb := b.toNat_lt
      have hc := c.toNat_lt
      have hd := d.toNat_lt
      have key : ∀ k n : Nat, b8 (BitVec.ofNat 32 n >>> k) = UInt8.ofNat (n % 4294967296 / 2 ^ k) := fun k n => by
        unfold b8; rw [BitVec.toNat_ushiftRight, Nat.shiftRight_eq_div_pow, BitVec.toNat_ofNat]
      have fit : ∀ (x : UInt8) (n : Nat), n % 256 = x.toNat → UInt8.ofNat n = x := fun x n hn => by
        rw [← UInt8.toNat_inj, UInt8.toNat_ofNat']; exact hn
      unfold low
      rw [key, key, key, show ∀ n : Nat, b8 (BitVec.ofNat 32 n) = UInt8.ofNat (n % 4294967296) from fun n => by unfold b8; rw [BitVec.toNat_ofNat]]
      rw [fit a _ (by omega), fit b _ (by omega), fit c _ (by omega), fit d _ (by omega)]
  rw [hs, crc_low]
  constructor
  · intro h1
    have h2 := congrArg (run 0) h1
    rw [run_low, run_low] at h2
    exact ((BitVec.xor_right_inj 0).1 (Zn_inj 32 h2)).symm
  · intro h1; rw [h1]
theorem sealed_take (l : List UInt8) : (sealed l).take ((sealed l).length - 4) = l := by
  rw [sealed_length]; unfold sealed; rw [Nat.add_sub_cancel, List.take_left]
theorem sealed_drop (l : List UInt8) : (sealed l).drop ((sealed l).length - 4) = low (crc l) := by
  rw [sealed_length]; unfold sealed; rw [Nat.add_sub_cancel, List.drop_left]
end Crc
