/- The disk and the document's: step by step the same. -/
import Derived.Test.YtdgbfkedgedogaaRefNew
namespace Go.Proofs.Ytdgbfkedgedogaa
structure Sim (t : St) (r : RSt) : Prop where
  size : t.size = (r.lasts.length : Int)
  lasts : ∀ i : Nat, i < r.lasts.length → lstr (t.lasts i) = r.lasts.getD i ⟨#[]⟩
  first : t.first.map (fun x => (x.1, lstr x.2)) = r.wait.take 64
  waiting : t.waiting = r.wait.length
  seen : ∀ i : Nat, i < r.lasts.length → lstr (t.seen i) = r.seen i
  cut : (r.cut = 0 ∧ t.cut = 0) ∨ (r.count < r.cut ∧ t.cut = r.cut - r.count)
  keep : t.keep = r.keep
  down : t.down = r.off
variable {t : St} {r : RSt} {m : Int}
theorem Sim.firstLen (S : Sim t r) : t.first.length = min r.wait.length 64 := by
  have := congrArg List.length S.first
  rw [List.length_map, List.length_take, Nat.min_comm] at this
  exact this
theorem Sim.get (S : Sim t r) {j : Nat} (h1 : j < 64) (h2 : j < r.wait.length) :
    (t.first.getD j (0, [])).1 = (r.wait.getD j (0, ⟨#[]⟩)).1 ∧ lstr (t.first.getD j (0, [])).2 = (r.wait.getD j (0, ⟨#[]⟩)).2 := by
  have hl := S.firstLen
  have := congrArg (fun l => l[j]?) S.first
  simp only [List.getElem?_map, List.getElem?_take, if_pos h1] at this
  rw [List.getElem?_eq_getElem (show j < t.first.length by omega), List.getElem?_eq_getElem h2] at this
  simp only [Option.map_some] at this
  injection this with this
  rw [List.getD, List.getD, List.getElem?_eq_getElem (show j < t.first.length by omega), List.getElem?_eq_getElem h2]
  simp only [Option.getD_some]
  rw [← this]
  exact ⟨rfl, rfl⟩
theorem getD_setB (l : List ByteArray) (n i : Nat) (x : ByteArray) (hn : n < l.length) : (l.set n x).getD i ⟨#[]⟩ = if i = n then x else l.getD i ⟨#[]⟩ := by
  by_cases h : i = n
  · subst h; rw [if_pos rfl]; simp [List.getD, hn]
  · rw [if_neg h]; simp [List.getD, Ne.symm h]
theorem Sim.lay (S : Sim t r) (F : r.Fit m) (k : BitVec 64) : ∀ j, j ≤ min r.wait.length 64 → ∀ i : Nat, i < r.lasts.length → lstr (layD t.first (bits k) j t.lasts i) = (rlay r.lasts r.wait (fun i => k.getLsbD i) j).getD i ⟨#[]⟩
  | 0, _, i, hi => S.lasts i hi
  | j + 1, hj, i, hi => by
    have ih := S.lay F k j (by omega) i hi
    obtain ⟨g1, g2⟩ := S.get (j := j) (by omega) (by omega)
    obtain ⟨a0, a1⟩ := F.ats (r.wait.getD j (0, ⟨#[]⟩)) (by rw [List.getD, List.getElem?_eq_getElem (show j < r.wait.length by omega)]; exact List.getElem_mem _)
    unfold layD rlay
    rw [show bits k j = k.getLsbD j by unfold bits; rw [decide_eq_true (show j < 64 by omega), Bool.true_and]]
    cases k.getLsbD j
    · exact ih
    · simp only [if_true]
      rw [getD_setB _ _ _ _ (by rw [rlay_length]; omega)]
      unfold setAt
      rw [g1]
      by_cases h : (i : Int) = (r.wait.getD j (0, ⟨#[]⟩)).1
      · rw [if_pos h, if_pos (by omega), g2]
      · rw [if_neg h, if_neg (by omega)]; exact ih
theorem Sim.dropped (S : Sim t r) (F : r.Fit m) (k : BitVec 64) : Sim (t.drop k) (r.dropped k) := by
  have hl : ∀ i : Nat, i < r.lasts.length → lstr ((t.drop k).lasts i) = (r.dropped k).lasts.getD i ⟨#[]⟩ := fun i hi => by
    have := S.lay F k (min r.wait.length 64) (Nat.le_refl _) i hi
    rw [← S.firstLen] at this
    unfold St.drop RSt.dropped
    dsimp only
    rw [this, S.firstLen]
  have hlen : (r.dropped k).lasts.length = r.lasts.length := rlay_length _ _ _ _
  refine ⟨by rw [hlen]; exact S.size, fun i hi => hl i (by rwa [hlen] at hi), rfl, rfl, fun i hi => ?_, .inl ⟨rfl, rfl⟩, rfl, rfl⟩
  rw [hlen] at hi
  refine (hl i hi).trans ?_
  unfold RSt.seen
  rw [Int.toNat_natCast]; rfl
theorem Sim.crash (S : Sim t r) (F : r.Fit m) (k : BitVec 64) : Sim (t.crash k) (r.crash k) := by
  unfold St.crash RSt.crash
  rw [S.down]
  cases r.off
  · exact S.dropped F k
  · exact S
theorem seenTo_snoc (l0 : ByteArray) (wt : List (Int × ByteArray)) (x : Int × ByteArray) (a : Int) : ∀ j, j ≤ wt.length → seenTo l0 (wt ++ [x]) a j = seenTo l0 wt a j
  | 0, _ => rfl
  | j + 1, h => by
    unfold seenTo
    rw [seenTo_snoc l0 wt x a j (by omega), show (wt ++ [x]).getD j (0, ⟨#[]⟩) = wt.getD j (0, ⟨#[]⟩) by simp [List.getD, List.getElem?_append_left (show j < wt.length by omega)]]
theorem take_snoc {α : Type} (l : List α) (x : α) : (l.take 64 ++ [x]).take 64 = (l ++ [x]).take 64 := by
  by_cases h : l.length ≤ 64
  · rw [List.take_of_length_le h]
  · rw [List.take_append_of_le_length (by rw [List.length_take]; omega), List.take_take, Nat.min_self, List.take_append_of_le_length (by omega)]
theorem Sim.put (S : Sim t r) (a : Int) (d : ByteArray) : Sim (t.put a (pad d)) (r.waited a d) := by
  refine ⟨S.size, S.lasts, ?_, ?_, fun i hi => ?_, S.cut, S.keep, S.down⟩
  · show ((t.first ++ [(a, pad d)]).take 64).map _ = (r.wait ++ [(a, lstr (pad d))]).take 64
    rw [List.map_take, List.map_append, S.first]
    exact take_snoc _ _
  · show t.waiting + 1 = (r.wait ++ [(a, lstr (pad d))]).length
    rw [List.length_append, S.waiting]; rfl
  · show lstr (setAt t.seen a (pad d) i) = seenTo (r.lasts.getD (i : Int).toNat ⟨#[]⟩) (r.wait ++ [(a, lstr (pad d))]) i (r.wait ++ [(a, lstr (pad d))]).length
    rw [List.length_append]
    show _ = seenTo _ _ _ (r.wait.length + 1)
    unfold seenTo setAt
    rw [show (r.wait ++ [(a, lstr (pad d))]).getD r.wait.length (0, ⟨#[]⟩) = (a, lstr (pad d)) by simp [List.getD]]
    by_cases h : (i : Int) = a
    · rw [if_pos h, if_pos h.symm]
    · rw [if_neg h, if_neg (Ne.symm h), seenTo_snoc _ _ _ _ _ (Nat.le_refl _)]
      exact S.seen i hi
theorem Sim.failed (S : Sim t r) (h0 : 0 ≤ r.count) : t.failed = r.hits := by
  unfold St.failed RSt.hits
  rcases S.cut with ⟨h1, h2⟩ | ⟨h1, h2⟩
  · rw [h2, h1]; rfl
  · rw [decide_eq_true (show 1 ≤ r.cut by omega), Bool.true_and, h2]
    by_cases h : r.cut = r.count + 1
    · rw [decide_eq_true h, decide_eq_true (by omega)]
    · rw [decide_eq_false h, decide_eq_false (by omega)]
theorem Sim.tick (S : Sim t r) (h0 : 0 ≤ r.count) (hh : r.hits = false) : Sim t.failing r.ticked := by
  have hf := S.failed h0
  rw [hh] at hf
  have hc : t.cut ≠ 1 := of_decide_eq_false hf
  unfold St.failing
  rcases S.cut with ⟨h1, h2⟩ | ⟨h1, h2⟩
  · rw [if_pos h2]
    exact ⟨S.size, S.lasts, S.first, S.waiting, S.seen, .inl ⟨h1, h2⟩, S.keep, S.down⟩
  · rw [if_neg (by omega), if_neg hc]
    exact ⟨S.size, S.lasts, S.first, S.waiting, S.seen, .inr ⟨by show r.count + 1 < r.cut; omega, by show t.cut - 1 = r.cut - (r.count + 1); omega⟩, S.keep, S.down⟩
theorem Sim.hit (S : Sim t r) (F : r.Fit m) (hd : t.down = false) (hh : r.hits = true) : Sim t.failing (r.ticked.dropped r.keep) := by
  have hf := S.failed F.count0
  rw [hh] at hf
  have hc : t.cut = 1 := of_decide_eq_true hf
  unfold St.failing St.crash
  rw [if_neg (by omega), if_pos hc]
  dsimp only
  rw [hd]
  have := S.dropped F r.keep
  rw [← S.keep] at this ⊢
  exact ⟨this.size, this.lasts, this.first, this.waiting, this.seen, .inl ⟨rfl, rfl⟩, rfl, rfl⟩
theorem Sim.counted (S : Sim t r) (F : r.Fit m) (hd : t.down = false) : Sim t.failing r.counted := by
  unfold RSt.counted
  cases hh : r.hits
  · exact S.tick F.count0 hh
  · exact S.hit F hd hh
theorem Sim.refusal (S : Sim t r) (a : Int) : t.refusal a = if r.off then 7 else if r.out a then 1 else 0 := by
  unfold St.refusal RSt.out
  rw [S.down, S.size]
  by_cases h1 : a < 0
  · rw [decide_eq_true h1]; simp [h1]
  · by_cases h2 : (r.lasts.length : Int) ≤ a
    · rw [decide_eq_true h2]; simp [h2]
    · rw [decide_eq_false h1, decide_eq_false h2]; simp [h1, h2]
theorem RSt.Fit.waited {a : Int} {d : ByteArray} (F : r.Fit m) (h : r.out a = false) : (r.waited a d).Fit (m + 1) := by
  unfold RSt.out at h
  rw [Bool.or_eq_false_iff] at h
  have h1 := of_decide_eq_false h.1
  have h2 := of_decide_eq_false h.2
  refine ⟨F.some_, F.few, ?_, fun x hx => ?_, F.count0, by have := F.count1; show r.count ≤ m + 1; omega⟩
  · have := F.waits
    show ((r.wait ++ [(a, lstr (pad d))]).length : Int) ≤ m + 1
    rw [List.length_append]; push_cast; simp; omega
  · show 0 ≤ x.1 ∧ x.1 < (r.lasts.length : Int)
    rcases List.mem_append.1 hx with hx | hx
    · exact F.ats x hx
    · rw [List.mem_singleton.1 hx]; exact ⟨by omega, by omega⟩
theorem RSt.Fit.mono {m' : Int} (F : r.Fit m) (h : m ≤ m') : r.Fit m' := ⟨F.some_, F.few, by have := F.waits; omega, F.ats, F.count0, by have := F.count1; omega⟩
theorem RSt.Fit.ticked {c : Int} (F : r.Fit m) (hc : r.count + 1 ≤ c) (hm : m ≤ c) : r.ticked.Fit c :=
  ⟨F.some_, F.few, by have := F.waits; show (r.wait.length : Int) ≤ c; omega, F.ats, by have := F.count0; show 0 ≤ r.count + 1; omega, hc⟩
theorem RSt.Fit.dropped (F : r.Fit m) (k : BitVec 64) : (r.dropped k).Fit m :=
  ⟨by show 0 < (rlay _ _ _ _).length; rw [rlay_length]; exact F.some_, by show (rlay _ _ _ _).length ≤ 100; rw [rlay_length]; exact F.few, by have := F.count0; have := F.count1; show ((0 : Nat) : Int) ≤ m; omega, fun x hx => (by cases hx), F.count0, F.count1⟩
theorem RSt.Fit.counted {c : Int} (F : r.Fit m) (hc : r.count + 1 ≤ c) (hm : m ≤ c) : r.counted.Fit c := by
  unfold RSt.counted
  cases r.hits
  · exact F.ticked hc hm
  · exact (F.ticked hc hm).dropped _
theorem RSt.Fit.put (F : r.Fit m) (a : Int) (d : ByteArray) : (r.put a d).Fit (m + 1) := by
  unfold RSt.put
  by_cases h : (r.off || r.out a || decide (32 < d.size)) = true
  · rw [if_pos h]; exact F.mono (by omega)
  · rw [if_neg h]
    simp only [Bool.or_eq_true, not_or] at h
    exact (F.waited (Bool.eq_false_iff.2 h.1.2)).counted (by have := F.count1; show r.count + 1 ≤ m + 1; omega) (Int.le_refl _)
theorem RSt.Fit.crash (F : r.Fit m) (k : BitVec 64) : (r.crash k).Fit (m + 1) := by
  unfold RSt.crash
  cases r.off
  · exact (F.dropped k).mono (by omega)
  · exact F.mono (by omega)
theorem RSt.Fit.flush (F : r.Fit m) : r.flush.Fit (m + 1) := by
  have h1 := F.count1
  have h0 := F.count0
  unfold RSt.flush
  cases r.off
  · cases r.hits
    · exact ⟨by show 0 < (rlay _ _ _ _).length; rw [rlay_length]; exact F.some_, by show (rlay _ _ _ _).length ≤ 100; rw [rlay_length]; exact F.few, by show ((0 : Nat) : Int) ≤ m + 1; omega, fun x hx => (by cases hx), by show 0 ≤ r.count + 1; omega, by show r.count + 1 ≤ m + 1; omega⟩
    · exact F.counted (by omega) (by omega)
  · exact F.mono (by omega)
theorem RSt.Fit.armed (F : r.Fit m) (a : Int) (k : BitVec 64) : (r.armed a k).Fit (m + 1) := by
  have h1 := F.count1
  have h0 := F.count0
  have h2 := F.waits
  unfold RSt.armed
  split
  · exact ⟨F.some_, F.few, by show (r.wait.length : Int) ≤ m + 1; omega, F.ats, by show (0 : Int) ≤ 0; omega, by show (0 : Int) ≤ m + 1; omega⟩
  · exact ⟨F.some_, F.few, by show (r.wait.length : Int) ≤ m + 1; omega, F.ats, by show (0 : Int) ≤ 0; omega, by show (0 : Int) ≤ m + 1; omega⟩
theorem RSt.Fit.on (F : r.Fit m) (b : Bool) : RSt.Fit { r with off := b } (m + 1) := by
  have h := F.mono (show m ≤ m + 1 by omega)
  exact ⟨h.some_, h.few, h.waits, h.ats, h.count0, h.count1⟩
theorem Sim.on (S : Sim t r) (b : Bool) : Sim { t with down := b } { r with off := b } := ⟨S.size, S.lasts, S.first, S.waiting, S.seen, S.cut, S.keep, rfl⟩
theorem Sim.armed (S : Sim t r) (a : Int) (k : BitVec 64) : Sim (t.armed a k) (r.armed a k) := by
  unfold St.armed RSt.armed
  by_cases h : a < 1
  · rw [if_neg (by omega), if_pos h]
    exact ⟨S.size, S.lasts, S.first, S.waiting, S.seen, .inl ⟨rfl, rfl⟩, rfl, S.down⟩
  · rw [if_pos (by omega), if_neg h]
    exact ⟨S.size, S.lasts, S.first, S.waiting, S.seen, .inr ⟨by show (0 : Int) < a; omega, by show a = a - 0; omega⟩, rfl, S.down⟩
theorem Sim.write (S : Sim t r) (F : r.Fit m) (a : Int) (d : ByteArray) : Sim (t.write a d) (r.put a d) ∧ t.writeE a d = r.putE a d := by
  unfold St.write St.writeE RSt.put RSt.putE
  rw [S.refusal a]
  cases ho : r.off
  · cases hu : r.out a
    · by_cases h32 : 32 < d.size
      · refine ⟨?_, ?_⟩
        · rw [if_pos (.inr h32), decide_eq_true h32]; exact S
        · rw [if_neg (by simp), if_pos h32]; simp [h32]
      · have hw := (S.put a d).counted (F.waited (d := d) hu) (by show t.down = false; rw [S.down, ho])
        refine ⟨?_, ?_⟩
        · rw [if_neg (by simp [h32]), decide_eq_false h32]; exact hw
        · rw [if_neg (by simp), if_neg h32, S.failed F.count0]; simp [h32]
    · refine ⟨?_, rfl⟩
      rw [if_pos (.inl (by simp))]; exact S
  · refine ⟨?_, rfl⟩
    rw [if_pos (.inl (by simp))]; exact S
theorem Sim.readS (S : Sim t r) (a : Int) : t.readS a = r.readS a ∧ t.refusal a = r.readE a := by
  unfold St.readS RSt.readS RSt.readE
  rw [S.refusal a]
  cases ho : r.off
  · cases hu : r.out a
    · refine ⟨?_, rfl⟩
      unfold RSt.out at hu
      rw [Bool.or_eq_false_iff] at hu
      have h1 := of_decide_eq_false hu.1
      have h2 := of_decide_eq_false hu.2
      rw [if_neg (by simp), if_neg (by simp)]
      obtain ⟨n, rfl⟩ : ∃ n : Nat, a = n := ⟨a.toNat, by omega⟩
      exact S.seen n (by omega)
    · exact ⟨by rw [if_pos (by simp), if_pos (by simp)], rfl⟩
  · exact ⟨by rw [if_pos (by simp), if_pos (by simp)], rfl⟩
theorem rlay_all (l : List ByteArray) (wt : List (Int × ByteArray)) (hw : ∀ x ∈ wt, 0 ≤ x.1 ∧ x.1 < l.length) : ∀ j, j ≤ wt.length → ∀ i : Nat, i < l.length → (rlay l wt (fun _ => true) j).getD i ⟨#[]⟩ = seenTo (l.getD i ⟨#[]⟩) wt i j
  | 0, _, i, _ => rfl
  | j + 1, hj, i, hi => by
    obtain ⟨a0, a1⟩ := hw (wt.getD j (0, ⟨#[]⟩)) (by rw [List.getD, List.getElem?_eq_getElem (show j < wt.length by omega)]; exact List.getElem_mem _)
    unfold rlay seenTo
    simp only [if_true]
    rw [getD_setB _ _ _ _ (by rw [rlay_length]; omega), rlay_all l wt hw j (by omega) i hi]
    by_cases h : (wt.getD j (0, ⟨#[]⟩)).1 = (i : Int)
    · rw [if_pos h, if_pos (by omega)]
    · rw [if_neg h, if_neg (by omega)]
theorem Sim.flush (S : Sim t r) (F : r.Fit m) : Sim t.flush r.flush ∧ t.flushE = r.flushE := by
  unfold St.flush RSt.flush St.flushE RSt.flushE
  have hf := S.failed F.count0
  have hd := S.down
  rw [hd, hf]
  cases ho : r.off
  · rw [ho] at hd
    cases hh : r.hits
    · refine ⟨?_, rfl⟩
      have S1 := S.tick F.count0 hh
      have hs : ∀ i : Nat, i < r.lasts.length → lstr (t.failing.seen i) = (rlay r.lasts r.wait (fun _ => true) r.wait.length).getD i ⟨#[]⟩ := fun i hi => by
        rw [rlay_all r.lasts r.wait F.ats _ (Nat.le_refl _) i hi, S1.seen i hi]
        show seenTo (r.lasts.getD (i : Int).toNat ⟨#[]⟩) r.wait i r.wait.length = _
        rw [Int.toNat_natCast]
      have hlen : r.flushed.lasts.length = r.lasts.length := rlay_length _ _ _ _
      refine ⟨by rw [show (if false = true then r else if false = true then r.counted else r.flushed) = r.flushed from rfl, hlen]; exact S1.size, fun i hi => hs i (by rw [← hlen]; exact hi), rfl, rfl, fun i hi => ?_, ?_, S1.keep, S1.down⟩
      · refine (hs i (by rw [← hlen]; exact hi)).trans ?_
        show _ = seenTo (r.flushed.lasts.getD (i : Int).toNat ⟨#[]⟩) [] i 0
        rw [Int.toNat_natCast]; rfl
      · exact S1.cut
    · exact ⟨S.counted F hd, rfl⟩
  · exact ⟨S, rfl⟩
theorem Sim.new (n : Nat) : Sim (St.new n) (RSt.new n) := by
  have hlen : (RSt.new n).lasts.length = n := List.length_replicate
  have hl : ∀ i : Nat, i < n → lstr z32 = (RSt.new n).lasts.getD i ⟨#[]⟩ := fun i hi => by
    unfold RSt.new
    simp [List.getD, hi]
    rfl
  refine ⟨by rw [hlen]; rfl, fun i hi => hl i (by rwa [hlen] at hi), rfl, rfl, fun i hi => ?_, .inl ⟨rfl, rfl⟩, rfl, rfl⟩
  refine (hl i (by rwa [hlen] at hi)).trans ?_
  show _ = seenTo ((RSt.new n).lasts.getD (i : Int).toNat ⟨#[]⟩) [] i 0
  rw [Int.toNat_natCast]; rfl
theorem RSt.Fit.new {n : Nat} (h1 : 0 < n) (h2 : n ≤ 100) : (RSt.new n).Fit 0 :=
  ⟨by show 0 < (List.replicate n _).length; rwa [List.length_replicate], by show (List.replicate n _).length ≤ 100; rwa [List.length_replicate], by show ((0 : Nat) : Int) ≤ 0; exact Int.le_refl _, fun x hx => (by cases hx), Int.le_refl _, Int.le_refl _⟩
end Go.Proofs.Ytdgbfkedgedogaa
