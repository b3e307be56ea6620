/- The disk as the document says it. -/
import Derived.Test.YtdgbfkedgedogaaRead
namespace Go.Proofs.Ytdgbfkedgedogaa
open Go.RowKit Go.Maps
abbrev Sec := List UInt8
structure St where
  size : Int
  lasts : Int → Sec
  first : List (Int × Sec)
  seen : Int → Sec
  waiting : Nat
  cut : Int
  keep : BitVec 64
  down : Bool
def setAt (f : Int → Sec) (a : Int) (l : Sec) : Int → Sec := fun x => if x = a then l else f x
def layD (l : List (Int × Sec)) (K : Nat → Bool) : Nat → (Int → Sec) → Int → Sec
  | 0, f => f
  | j + 1, f => if K j then setAt (layD l K j f) (l.getD j (0, [])).1 (l.getD j (0, [])).2 else layD l K j f
structure Rep (s : Raw) (t : St) : Prop where
  size : s.size = t.size
  lasts : ∀ a, (s.lasts a).getD z32 = t.lasts a
  first : s.cw.take 64 = t.first
  seen : ∀ a, s.seen a = t.seen a
  waiting : s.waiting = (t.waiting : Int)
  cut : s.cut = t.cut
  keep : s.keep = t.keep
  down : s.down = t.down
  none_ : ∀ a, s.newest a = none → ∀ j, j < s.cw.length → (s.cw.getD j (0, [])).1 ≠ a
  some_ : ∀ a i, s.newest a = some i → (s.cw.getD i (0, [])).1 = a ∧ ∀ j, i < j → j < s.cw.length → (s.cw.getD j (0, [])).1 ≠ a
  lens : ∀ a l, s.lasts a = some l → l.length = 32
def St.put (t : St) (a : Int) (l : Sec) : St := { t with first := (t.first ++ [(a, l)]).take 64, seen := setAt t.seen a l, waiting := t.waiting + 1 }
def St.sync (t : St) : St := { t with lasts := t.seen, first := [], waiting := 0 }
def St.drop (t : St) (k : BitVec 64) : St :=
  { t with lasts := layD t.first (bits k) t.first.length t.lasts, first := [], seen := layD t.first (bits k) t.first.length t.lasts, waiting := 0, cut := 0, keep := 0, down := true }
def St.crash (t : St) (k : BitVec 64) : St := if t.down then t else t.drop k
def St.failed (t : St) : Bool := decide (t.cut = 1)
def St.failing (t : St) : St := if t.cut = 0 then t else if t.cut = 1 then St.crash { t with cut := 0 } t.keep else { t with cut := t.cut - 1 }
def St.refusal (t : St) (a : Int) : Int := if t.down then 7 else if a < 0 ∨ t.size ≤ a then 1 else 0
def St.writeE (t : St) (a : Int) (d : ByteArray) : Int := if t.refusal a ≠ 0 then t.refusal a else if 32 < d.size then 3 else if t.failed then 7 else 0
def St.write (t : St) (a : Int) (d : ByteArray) : St := if t.refusal a ≠ 0 ∨ 32 < d.size then t else (t.put a (pad d)).failing
def St.readS (t : St) (a : Int) : ByteArray := if t.refusal a ≠ 0 then ⟨#[]⟩ else lstr (t.seen a)
def St.flush (t : St) : St := if t.down then t else if t.failed then t.failing else t.failing.sync
def St.flushE (t : St) : Int := if t.down || t.failed then 7 else 0
def St.armed (t : St) (a : Int) (k : BitVec 64) : St := if 1 ≤ a then { t with cut := a, keep := k } else { t with cut := 0, keep := 0 }
def St.new (n : Int) : St := ⟨n, fun _ => z32, [], fun _ => z32, 0, 0, 0, false⟩

theorem lay_layD (l : List (Int × Sec)) (K : Nat → Bool) (f : Int → Option Sec) : ∀ j a, (lay l K j f a).getD z32 = layD l K j (fun a => (f a).getD z32) a
  | 0, _ => rfl
  | j + 1, a => by
    unfold lay layD
    cases K j
    · exact lay_layD l K f j a
    · show (upd _ _ _ a).getD z32 = setAt _ _ _ a
      unfold upd setAt
      by_cases h : a = (l.getD j (0, [])).1
      · rw [if_pos h, if_pos h]; rfl
      · rw [if_neg h, if_neg h]; exact lay_layD l K f j a
theorem lay_lens (l : List (Int × Sec)) (K : Nat → Bool) (f : Int → Option Sec) (hf : ∀ a x, f a = some x → x.length = 32) (hl : ∀ x ∈ l, x.2.length = 32) : ∀ j, j ≤ l.length → ∀ a x, lay l K j f a = some x → x.length = 32
  | 0, _ => hf
  | j + 1, hj => by
    intro a x hx
    unfold lay at hx
    cases hK : K j
    · rw [hK] at hx; exact lay_lens l K f hf hl j (by omega) a x hx
    · rw [hK] at hx
      simp only [if_true] at hx
      unfold upd at hx
      by_cases h : a = (l.getD j (0, [])).1
      · rw [if_pos h] at hx; injection hx with hx; rw [← hx]; exact hl _ (by rw [List.getD, List.getElem?_eq_getElem (by omega)]; exact List.getElem_mem _)
      · rw [if_neg h] at hx; exact lay_lens l K f hf hl j (by omega) a x hx
theorem layD_none (l : List (Int × Sec)) (K : Nat → Bool) (f : Int → Sec) (a : Int) : ∀ j, (∀ i, i < j → K i = true → (l.getD i (0, [])).1 ≠ a) → layD l K j f a = f a
  | 0, _ => rfl
  | j + 1, h => by
    unfold layD
    have ih := layD_none l K f a j (fun i hi => h i (by omega))
    cases hK : K j
    · exact ih
    · show setAt _ _ _ a = _
      unfold setAt
      rw [if_neg (Ne.symm (h j (by omega) hK)), ih]
theorem layD_last (l : List (Int × Sec)) (K : Nat → Bool) (f : Int → Sec) (a : Int) (i : Nat) (ha : (l.getD i (0, [])).1 = a) (hi : K i = true) : ∀ j, i < j → (∀ m, i < m → m < j → K m = true → (l.getD m (0, [])).1 ≠ a) → layD l K j f a = (l.getD i (0, [])).2
  | 0, h, _ => by omega
  | j + 1, h, hn => by
    unfold layD
    by_cases e : i = j
    · subst e
      rw [hi]
      show setAt _ _ _ a = _
      unfold setAt
      rw [if_pos ha.symm]
    · have ih := layD_last l K f a i ha hi j (by omega) (fun m h1 h2 => hn m h1 (by omega))
      cases hK : K j
      · exact ih
      · show setAt _ _ _ a = _
        unfold setAt
        rw [if_neg (Ne.symm (hn j (by omega) (by omega) hK)), ih]
theorem layD_take (l : List (Int × Sec)) (k : BitVec 64) (f : Int → Sec) : ∀ j, layD l (bits k) j f = layD (l.take 64) (bits k) (min j 64) f
  | 0 => rfl
  | j + 1 => by
    have ih := layD_take l k f j
    by_cases h : j < 64
    · rw [show min (j + 1) 64 = min j 64 + 1 by omega]
      unfold layD
      rw [show min j 64 = j by omega] at ih ⊢
      rw [ih, show (l.take 64).getD j (0, []) = l.getD j (0, []) by simp [List.getD, List.getElem?_take, h]]
    · rw [show min (j + 1) 64 = min j 64 by omega, ← ih]
      unfold layD
      rw [show bits k j = false by unfold bits; rw [decide_eq_false h]; rfl]
      cases j <;> rfl
theorem layD_short (l : List (Int × Sec)) (k : BitVec 64) (f : Int → Sec) : layD l (bits k) l.length f = layD (l.take 64) (bits k) (l.take 64).length f := by
  rw [layD_take, List.length_take, Nat.min_comm]

theorem Rep.set {s : Raw} {t : St} (R : Rep s t) (c : Int) (k : BitVec 64) (d : Bool) : Rep { s with cut := c, keep := k, down := d } { t with cut := c, keep := k, down := d } :=
  ⟨R.size, R.lasts, R.first, R.seen, R.waiting, rfl, rfl, rfl, R.none_, R.some_, R.lens⟩
theorem Rep.sync {s : Raw} {t : St} {lim : Nat} (R : Rep s t) (G : s.Good lim) : Rep (s.settled (fun _ => true)) t.sync := by
  have hs : ∀ a, (lay s.cw (fun _ => true) s.cw.length s.lasts a).getD z32 = t.seen a := fun a => by
    rw [lay_layD, ← R.seen a]
    unfold Raw.seen
    cases hn : s.newest a with
    | none => exact layD_none _ _ _ _ _ (fun i hi _ => R.none_ a hn i hi)
    | some i => exact layD_last _ _ _ _ i (R.some_ a i hn).1 rfl _ (G.new a i hn) (fun m h1 h2 _ => (R.some_ a i hn).2 m h1 h2)
  exact ⟨R.size, hs, rfl, hs, rfl, R.cut, R.keep, R.down, fun a _ j hj => by exact absurd hj (Nat.not_lt_zero _), fun a i h => by simp [Raw.settled] at h,
    lay_lens _ _ _ R.lens (fun x hx => (G.each x hx).2) _ (Nat.le_refl _)⟩
theorem Rep.dropped {s : Raw} {t : St} {lim : Nat} (R : Rep s t) (G : s.Good lim) (k : BitVec 64) : Rep { s.settled (bits k) with cut := 0, keep := 0, down := true } (t.drop k) := by
  have hs : ∀ a, (lay s.cw (bits k) s.cw.length s.lasts a).getD z32 = layD t.first (bits k) t.first.length t.lasts a := fun a => by
    rw [lay_layD, layD_short, R.first, show (fun a => (s.lasts a).getD z32) = t.lasts from funext R.lasts]
  exact ⟨R.size, hs, rfl, hs, rfl, rfl, rfl, rfl, fun a _ j hj => by exact absurd hj (Nat.not_lt_zero _), fun a i h => by simp [Raw.settled] at h,
    lay_lens _ _ _ R.lens (fun x hx => (G.each x hx).2) _ (Nat.le_refl _)⟩
theorem Rep.crash {s : Raw} {t : St} {lim : Nat} (R : Rep s t) (G : s.Good lim) (k : BitVec 64) : Rep (s.crashed k) (t.crash k) := by
  unfold Raw.crashed St.crash
  rw [← R.down]
  cases hd : s.down
  · exact R.dropped G k
  · exact R
theorem Rep.failed {s : Raw} {t : St} (R : Rep s t) : s.failed = t.failed := by unfold Raw.failed St.failed; rw [R.cut]
theorem Rep.failing {s : Raw} {t : St} {lim : Nat} (R : Rep s t) (G : s.Good lim) : Rep s.failing t.failing := by
  unfold Raw.failing St.failing
  rw [← R.cut, ← R.keep]
  by_cases h0 : s.cut = 0
  · rw [if_pos h0, if_pos h0]; exact R
  · rw [if_neg h0, if_neg h0]
    have e1 := R.set (0 : Int) s.keep s.down
    have e2 := R.set (s.cut - 1) s.keep s.down
    have ed := R.down
    by_cases h1 : s.cut = 1
    · rw [if_pos h1, if_pos h1]
      have := Rep.crash e1 (G.set (c := 0) (by decide) (by decide) s.keep s.down) s.keep
      rw [show ({ t with cut := 0, keep := s.keep, down := s.down } : St) = { t with cut := 0, keep := s.keep } by rw [ed]] at this
      exact this
    · rw [if_neg h1, if_neg h1]
      rw [show ({ t with cut := s.cut - 1, keep := s.keep, down := s.down } : St) = { t with cut := s.cut - 1, keep := s.keep } by rw [ed]] at e2
      exact e2
theorem getD_set (l : List (Int × Sec)) (i j : Nat) (x : Int × Sec) (hi : i < l.length) : (l.set i x).getD j (0, []) = if j = i then x else l.getD j (0, []) := by
  by_cases h : j = i
  · subst h; rw [if_pos rfl]; simp [List.getD, hi]
  · rw [if_neg h]; simp [List.getD, Ne.symm h]
theorem getD_snoc (l : List (Int × Sec)) (j : Nat) (x : Int × Sec) (hj : j < l.length + 1) : (l ++ [x]).getD j (0, []) = if j = l.length then x else l.getD j (0, []) := by
  by_cases h : j = l.length
  · subst h; rw [if_pos rfl]; simp [List.getD]
  · rw [if_neg h]; simp [List.getD, List.getElem?_append_left (show j < l.length by omega)]
theorem Rep.put {s : Raw} {t : St} {lim : Nat} (R : Rep s t) (G : s.Good lim) (a : Int) (l : Sec) : Rep (s.waited (a, l)) (t.put a l) := by
  unfold Raw.waited St.put
  have hseen := R.seen
  by_cases h : 64 ≤ s.newAt a
  · rw [if_pos h]
    have hq : ∃ i, s.newest a = some i ∧ s.newAt a = i := by
      unfold Raw.newAt at h ⊢
      cases hn : s.newest a with
      | none => rw [hn] at h; exact absurd h (by decide)
      | some i => exact ⟨i, rfl, rfl⟩
    obtain ⟨i, hn, hi⟩ := hq
    rw [hi] at h ⊢
    have hlt := G.new a i hn
    obtain ⟨h1, h2⟩ := R.some_ a i hn
    refine ⟨R.size, R.lasts, ?_, ?_, ?_, R.cut, R.keep, R.down, ?_, ?_, R.lens⟩
    · show (s.cw.set i (a, l)).take 64 = (t.first ++ [(a, l)]).take 64
      rw [← R.first, List.take_append_of_le_length (by rw [List.length_take]; omega), List.take_take, Nat.min_self, List.take_set, List.set_eq_of_length_le (by rw [List.length_take]; omega)]
    · intro x
      show Raw.seen _ x = setAt t.seen a l x
      unfold setAt
      by_cases hx : x = a
      · subst hx
        rw [if_pos rfl]
        unfold Raw.seen
        show (match s.newest x with | some j => ((s.cw.set i (x, l)).getD j (0, [])).2 | none => _) = l
        rw [hn]
        show ((s.cw.set i (x, l)).getD i (0, [])).2 = l
        rw [getD_set _ _ _ _ hlt, if_pos rfl]
      · rw [if_neg hx, ← hseen x]
        unfold Raw.seen
        show (match s.newest x with | some j => ((s.cw.set i (a, l)).getD j (0, [])).2 | none => _) = _
        cases hnx : s.newest x with
        | none => rfl
        | some j =>
          show ((s.cw.set i (a, l)).getD j (0, [])).2 = (s.cw.getD j (0, [])).2
          rw [getD_set _ _ _ _ hlt, if_neg (fun e => hx (by rw [← (R.some_ x j hnx).1, e, h1]))]
    · show s.waiting + 1 = ((t.waiting + 1 : Nat) : Int)
      rw [R.waiting]; push_cast; rfl
    · intro x hx j hj
      show ((s.cw.set i (a, l)).getD j (0, [])).1 ≠ x
      have hj' : j < s.cw.length := by simpa using hj
      rw [getD_set _ _ _ _ hlt]
      have hxa : x ≠ a := fun e => by subst e; rw [show s.newest x = none from hx] at hn; cases hn
      by_cases hji : j = i
      · rw [if_pos hji]; exact Ne.symm hxa
      · rw [if_neg hji]; exact R.none_ x hx j hj'
    · intro x m hm
      have hm' : s.newest x = some m := hm
      obtain ⟨g1, g2⟩ := R.some_ x m hm'
      refine ⟨?_, fun j hmj hj => ?_⟩
      · show ((s.cw.set i (a, l)).getD m (0, [])).1 = x
        rw [getD_set _ _ _ _ hlt]
        by_cases hmi : m = i
        · rw [if_pos hmi]; show a = x; rw [← h1, ← hmi, g1]
        · rw [if_neg hmi]; exact g1
      · show ((s.cw.set i (a, l)).getD j (0, [])).1 ≠ x
        have hj' : j < s.cw.length := by simpa using hj
        rw [getD_set _ _ _ _ hlt]
        by_cases hji : j = i
        · rw [if_pos hji]; show a ≠ x; rw [← h1, ← hji]; exact g2 j hmj hj'
        · rw [if_neg hji]; exact g2 j hmj hj'
  · rw [if_neg h]
    refine ⟨R.size, R.lasts, ?_, ?_, ?_, R.cut, R.keep, R.down, ?_, ?_, R.lens⟩
    · show (s.cw ++ [(a, l)]).take 64 = (t.first ++ [(a, l)]).take 64
      rw [← R.first]
      by_cases h64 : s.cw.length ≤ 64
      · rw [List.take_of_length_le h64]
      · rw [List.take_append_of_le_length (by omega), List.take_append_of_le_length (by rw [List.length_take]; omega), List.take_take, Nat.min_self]
    · intro x
      show Raw.seen _ x = setAt t.seen a l x
      unfold setAt
      by_cases hx : x = a
      · subst hx
        rw [if_pos rfl]
        unfold Raw.seen
        show (match upd s.newest x s.cw.length x with | some j => ((s.cw ++ [(x, l)]).getD j (0, [])).2 | none => _) = l
        rw [show upd s.newest x s.cw.length x = some s.cw.length by unfold upd; rw [if_pos rfl]]
        show ((s.cw ++ [(x, l)]).getD s.cw.length (0, [])).2 = l
        rw [getD_snoc _ _ _ (by omega), if_pos rfl]
      · rw [if_neg hx, ← hseen x]
        unfold Raw.seen
        show (match upd s.newest a s.cw.length x with | some j => ((s.cw ++ [(a, l)]).getD j (0, [])).2 | none => _) = _
        rw [show upd s.newest a s.cw.length x = s.newest x by unfold upd; rw [if_neg hx]]
        cases hnx : s.newest x with
        | none => rfl
        | some j =>
          show ((s.cw ++ [(a, l)]).getD j (0, [])).2 = (s.cw.getD j (0, [])).2
          have := G.new x j hnx
          rw [getD_snoc _ _ _ (by omega), if_neg (by omega)]
    · show s.waiting + 1 = ((t.waiting + 1 : Nat) : Int)
      rw [R.waiting]; push_cast; rfl
    · intro x hx j hj
      show ((s.cw ++ [(a, l)]).getD j (0, [])).1 ≠ x
      have hj' : j < s.cw.length + 1 := by simpa using hj
      have hxa : x ≠ a := fun e => by
        subst e
        have : upd s.newest x s.cw.length x = none := hx
        unfold upd at this; rw [if_pos rfl] at this; cases this
      have hx' : s.newest x = none := by
        have : upd s.newest a s.cw.length x = none := hx
        unfold upd at this; rwa [if_neg hxa] at this
      rw [getD_snoc _ _ _ hj']
      by_cases hjl : j = s.cw.length
      · rw [if_pos hjl]; exact Ne.symm hxa
      · rw [if_neg hjl]; exact R.none_ x hx' j (by omega)
    · intro x m hm
      have hm' : upd s.newest a s.cw.length x = some m := hm
      unfold upd at hm'
      by_cases hxa : x = a
      · rw [if_pos hxa] at hm'
        injection hm' with hm'
        refine ⟨?_, fun j hmj hj => ?_⟩
        · show ((s.cw ++ [(a, l)]).getD m (0, [])).1 = x
          rw [getD_snoc _ _ _ (by omega), if_pos hm'.symm, hxa]
        · have hj' : j < s.cw.length + 1 := by simpa using hj
          omega
      · rw [if_neg hxa] at hm'
        obtain ⟨g1, g2⟩ := R.some_ x m hm'
        have hlt := G.new x m hm'
        refine ⟨?_, fun j hmj hj => ?_⟩
        · show ((s.cw ++ [(a, l)]).getD m (0, [])).1 = x
          rw [getD_snoc _ _ _ (by omega), if_neg (by omega)]; exact g1
        · show ((s.cw ++ [(a, l)]).getD j (0, [])).1 ≠ x
          have hj' : j < s.cw.length + 1 := by simpa using hj
          rw [getD_snoc _ _ _ hj']
          by_cases hjl : j = s.cw.length
          · rw [if_pos hjl]; exact Ne.symm hxa
          · rw [if_neg hjl]; exact g2 j hmj (by omega)

theorem Raw.Good.mono {s : Raw} {a b : Nat} (G : s.Good a) (h : a ≤ b) : s.Good b := ⟨G.each, G.new, G.note, G.count, by have := G.room; omega, G.cut0, G.cut1⟩
theorem refusal_eq {s : Raw} {t : St} (R : Rep s t) (a : Int) : s.refusal a = t.refusal a := by unfold Raw.refusal St.refusal; rw [R.down, R.size]
theorem waited_failed (s : Raw) (x : Int × Sec) : (s.waited x).failed = s.failed := by unfold Raw.waited Raw.failed; split <;> rfl
theorem writeE_eq {s : Raw} {t : St} (R : Rep s t) (a : Int) (d : ByteArray) : s.writeE a d = t.writeE a d := by
  unfold Raw.writeE St.writeE; rw [refusal_eq R, waited_failed, R.failed]
theorem Rep.written {s : Raw} {t : St} {lim : Nat} (R : Rep s t) (G : s.Good lim) (a : Int) (ha : (ik a).wf = true) (d : ByteArray) : Rep (s.written a d) (t.write a d) ∧ (s.written a d).Good (lim + 1) := by
  unfold Raw.written St.write
  rw [refusal_eq R]
  by_cases h : t.refusal a ≠ 0 ∨ 32 < d.size
  · rw [if_pos h, if_pos h]; exact ⟨R, G.mono (by omega)⟩
  · rw [if_neg h, if_neg h]
    have G2 := G.waited (x := (a, pad d)) ⟨ha, pad_length d (by omega)⟩
    exact ⟨(R.put G a (pad d)).failing G2, G2.failing⟩
theorem Rep.flushed {s : Raw} {t : St} {lim : Nat} (R : Rep s t) (G : s.Good lim) : Rep s.flushed t.flush ∧ s.flushed.Good lim := by
  unfold Raw.flushed St.flush
  rw [R.failed, ← R.down]
  cases hd : s.down
  · cases hf : t.failed
    · exact ⟨(R.failing G).sync G.failing, G.failing.settled _⟩
    · exact ⟨R.failing G, G.failing⟩
  · exact ⟨R, G⟩
theorem flushE_eq {s : Raw} {t : St} (R : Rep s t) : s.flushE = t.flushE := by unfold Raw.flushE St.flushE; rw [R.failed, R.down]
theorem readS_eq {s : Raw} {t : St} (R : Rep s t) (a : Int) : s.readS a = t.readS a := by unfold Raw.readS St.readS; rw [refusal_eq R, R.seen]
theorem Rep.armed {s : Raw} {t : St} (R : Rep s t) (a : Int) (k : BitVec 64) : Rep (s.armed a k) (t.armed a k) := by
  unfold Raw.armed St.armed
  by_cases h : 1 ≤ a
  · rw [if_pos h, if_pos h]; exact ⟨R.size, R.lasts, R.first, R.seen, R.waiting, rfl, rfl, R.down, R.none_, R.some_, R.lens⟩
  · rw [if_neg h, if_neg h]; exact ⟨R.size, R.lasts, R.first, R.seen, R.waiting, rfl, rfl, R.down, R.none_, R.some_, R.lens⟩

/-! ### The disk as its callers meet it -/
/-- At p stands a disk as t says; the blocks that are its own lie from B on. -/
def On (w : World) (p : Nat) (h : Hd) (t : St) (lim : Nat) : Prop := ∃ s, Disk w p h s ∧ s.Good lim ∧ Rep s t
section
variable {w : World} {p : Nat} {h : Hd} {t : St} {lim : Nat}
theorem On.kept {w' : World} (O : On w p h t lim) (hk : ∀ k, owned p h k → w'.heap[k]? = w.heap[k]?) : On w' p h t lim := let ⟨s, D, r⟩ := O; ⟨s, D.kept hk, r⟩
theorem On.grown {w' : World} (O : On w p h t lim) (hb : Below w.heap.size w w') : On w' p h t lim := let ⟨s, D, r⟩ := O; ⟨s, D.grown hb, r⟩
theorem On.lt (O : On w p h t lim) {k : Nat} (hk : owned p h k) : k < w.heap.size := let ⟨_, D, _⟩ := O; D.lt hk
theorem On.mine_new {w' : World} (O : On w p h t lim) {k : Nat} (h1 : w.heap.size ≤ k) (h2 : k < w'.heap.size) : Mine w' p h k := let ⟨_, D, _⟩ := O; D.mine_new h1 h2
theorem on_down (O : On w p h t lim) : Calls Try.prog 23 #[ptr p] w fun e w' => e = .returned (.bool t.down) ∧ w = w' := by
  obtain ⟨s, D, G, R⟩ := O; rw [← R.down]; exact down_any D
theorem on_waiting (O : On w p h t lim) : Calls Try.prog 24 #[ptr p] w fun e w' => e = .returned (.int .i64 (t.waiting : Int)) ∧ w = w' := by
  obtain ⟨s, D, G, R⟩ := O; rw [← R.waiting]; exact waiting_any D
theorem on_size (O : On w p h t lim) : Calls Try.prog 25 #[ptr p] w fun e w' => e = .returned (.int .i64 t.size) ∧ w = w' := by
  obtain ⟨s, D, G, R⟩ := O; rw [← R.size]; exact size_any D
theorem on_start (O : On w p h t lim) : Calls Try.prog 22 #[ptr p] w fun e w' => e = .returned (.tuple #[]) ∧ ∃ h', On w' p h' { t with down := false } lim ∧ Turn p w w' h h' := by
  obtain ⟨s, D, G, R⟩ := O
  refine (start_any D).mono ?_
  rintro e w' ⟨he, D', T⟩
  exact ⟨he, h, ⟨_, D', ⟨G.each, G.new, G.note, G.count, G.room, G.cut0, G.cut1⟩, ⟨R.size, R.lasts, R.first, R.seen, R.waiting, R.cut, R.keep, rfl, R.none_, R.some_, R.lens⟩⟩, T⟩
theorem on_arm (O : On w p h t lim) (a : Int) (ha : a ≤ 9223372036854775807) (k : BitVec 64) : Calls Try.prog 18 #[ptr p, .agg #[.int .i64 a, .int .u64 (u64 k)]] w fun e w' => e = .returned (.tuple #[]) ∧ ∃ h', On w' p h' (t.armed a k) lim ∧ Turn p w w' h h' := by
  obtain ⟨s, D, G, R⟩ := O
  refine (arm_any D a k).mono ?_
  rintro e w' ⟨he, D', T⟩
  refine ⟨he, h, ⟨_, D', ?_, R.armed a k⟩, T⟩
  unfold Raw.armed
  by_cases h1 : 1 ≤ a
  · rw [if_pos h1]; exact ⟨G.each, G.new, G.note, G.count, G.room, by show 0 ≤ a; omega, ha⟩
  · rw [if_neg h1]; exact ⟨G.each, G.new, G.note, G.count, G.room, Int.le_refl _, (by show (0 : Int) ≤ 9223372036854775807; decide)⟩
theorem on_crash (O : On w p h t lim) (hl : lim < 1099511627775) (k : BitVec 64) : Calls Try.prog 20 #[ptr p, kv k] w fun e w' => e = .returned (.tuple #[]) ∧ ∃ h', On w' p h' (t.crash k) lim ∧ Turn p w w' h h' := by
  obtain ⟨s, D, G, R⟩ := O
  refine (crash_any D k (G.ok (by omega))).mono ?_
  rintro e w' ⟨he, h', D', T⟩
  exact ⟨he, h', ⟨_, D', G.crashed k, R.crash G k⟩, T⟩
theorem on_flush (O : On w p h t lim) (hl : lim < 1099511627775) : Calls Try.prog 16 #[ptr p] w fun e w' => e = .returned (.int .i64 t.flushE) ∧ ∃ h', On w' p h' t.flush lim ∧ Turn p w w' h h' := by
  obtain ⟨s, D, G, R⟩ := O
  rw [← flushE_eq R]
  refine (flush_any D (G.ok (by omega)) G.cut0 G.cut1).mono ?_
  rintro e w' ⟨he, h', D', T⟩
  exact ⟨he, h', ⟨_, D', (R.flushed G).2, (R.flushed G).1⟩, T⟩
theorem on_write (O : On w p h t lim) (hl : lim < 1099511627775) (a : Int) (ha : (ik a).wf = true) (d : ByteArray) (hd : d.size ≤ maxLen) :
    Calls Try.prog 12 #[ptr p, .int .i64 a, .string d] w fun e w' => e = .returned (.int .i64 (t.writeE a d)) ∧ ∃ h', On w' p h' (t.write a d) (lim + 1) ∧ Turn p w w' h h' := by
  obtain ⟨s, D, G, R⟩ := O
  rw [← writeE_eq R]
  refine (write_any D G hl a ha d hd).mono ?_
  rintro e w' ⟨he, h', D', T⟩
  exact ⟨he, h', ⟨_, D', (R.written G a ha d).2, (R.written G a ha d).1⟩, T⟩
theorem on_read (O : On w p h t lim) (hl : lim < 1099511627775) (a : Int) (ha : (ik a).wf = true) :
    Calls Try.prog 14 #[ptr p, .int .i64 a] w fun e w' => e = .returned (.tuple #[.string (t.readS a), .int .i64 (t.refusal a)]) ∧ On w' p h t lim ∧ Below w.heap.size w w' := by
  obtain ⟨s, D, G, R⟩ := O
  rw [← readS_eq R, ← refusal_eq R]
  refine (read_any D G hl R.lens a ha).mono ?_
  rintro e w' ⟨he, hb⟩
  exact ⟨he, ⟨s, D.grown hb, G, R⟩, hb⟩
theorem on_new (n : Int) (w : World) (h1 : 1 ≤ n) (h2 : n ≤ 8192) :
    Calls Try.prog 10 #[.int .i64 n] w fun e w' => ∃ p h, e = .returned (.tuple #[ptr p, .int .i64 0]) ∧ On w' p h (St.new n) 0 ∧ (∀ k, owned p h k → w.heap.size ≤ k) ∧ Below w.heap.size w w' := by
  refine (new_any n w h1 h2).mono ?_
  rintro e w' ⟨p, h, he, D, ho, hb⟩
  have G0 : (raw0 n).Good 0 := ⟨fun x hx => (by simp [raw0] at hx), fun a i h => (by simp [raw0] at h), Nat.le_refl _, Int.le_refl _, Int.le_refl _, Int.le_refl _, (by show (0 : Int) ≤ 9223372036854775807; decide)⟩
  have R0 : Rep (raw0 n) (St.new n) := ⟨rfl, fun _ => rfl, rfl, fun _ => rfl, rfl, rfl, rfl, rfl, fun a _ j hj => absurd hj (Nat.not_lt_zero _), fun a i h => (by simp [raw0] at h), fun a l h => (by simp [raw0] at h)⟩
  exact ⟨p, h, he, ⟨_, D, G0, R0⟩, ho, hb⟩
end
end Go.Proofs.Ytdgbfkedgedogaa
