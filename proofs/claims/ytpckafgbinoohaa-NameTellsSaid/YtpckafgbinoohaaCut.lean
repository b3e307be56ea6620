/- strings.CutPrefix and strings.Cut at a slash. -/
import Derived.Test.YtpckafgbinoohaaIb
import Derived.Test.YtpckafgbinoohaaNmLaws
import Derived.BigQuiet
import Derived.Deep.QuietTactic
import Derived.Laws.Strings3
namespace Go.Proofs.Ytpckafgbinoohaa
set_option maxRecDepth 100000
open Go.RowKit
attribute [local go_sem 9000] sem_stralike sem_strnot
theorem bdn {B : Nat} {w w1 : World} (h : Below B w w1) (n : Nat) : Below B w (w1.drewN n) := h.trans ⟨rfl, rfl, rfl, Nat.le_refl _, fun _ _ => rfl⟩
theorem ix_no : ∀ l : List UInt8, Lib.indexByte l 47 < 0 → Nm.pieces l = [l]
  | [], _ => rfl
  | x :: l, h => by
    unfold Lib.indexByte at h
    unfold Nm.pieces
    by_cases hx : x = 47
    · subst hx; simp at h
    · have hb : (x == 47) = false := beq_eq_false_iff_ne.2 hx
      rw [hb] at h
      simp only [Bool.false_eq_true, if_false] at h
      have hl : Lib.indexByte l 47 < 0 := by
        have hge := Lib.indexByte_ge l 47
        split at h
        · rename_i h2; rw [beq_iff_eq] at h2; omega
        · omega
      rw [if_neg hx, ix_no l hl]
theorem ix_yes : ∀ l : List UInt8, 0 ≤ Lib.indexByte l 47 → ∃ i : Nat, Lib.indexByte l 47 = i ∧ i < l.length ∧ Nm.pieces l = l.take i :: Nm.pieces (l.drop (i + 1))
  | [], h => by simp [Lib.indexByte] at h
  | x :: l, h => by
    unfold Lib.indexByte at h ⊢
    by_cases hx : x = 47
    · subst hx
      exact ⟨0, by simp, by simp, by simp [Nm.pieces]⟩
    · have hb : (x == 47) = false := beq_eq_false_iff_ne.2 hx
      rw [hb] at h ⊢
      simp only [Bool.false_eq_true, if_false] at h ⊢
      have hge := Lib.indexByte_ge l 47
      by_cases h2 : (Lib.indexByte l 47 == -1) = true
      · rw [if_pos h2] at h; omega
      · rw [if_neg h2] at h ⊢
        rw [beq_iff_eq] at h2
        obtain ⟨i, hi, hlt, hp⟩ := ix_yes l (by omega)
        refine ⟨i + 1, by omega, by simp; omega, ?_⟩
        rw [show Nm.pieces (x :: l) = (if x = 47 then [] :: Nm.pieces l else match Nm.pieces l with | [] => [[x]] | c :: cs => (x :: c) :: cs) from rfl, if_neg hx, hp]
        rfl
theorem index_any (s : ByteArray) (w : World) : Calls Try.prog 43 #[.string s, .string ⟨#[47]⟩] w fun e w' => e = .returned (.int .i64 (Lib.indexByte s.data.toList 47)) ∧ w' = w := by
  cases ha : alike ⟨#[47]⟩ s with
  | true =>
    have hz : Lib.indexByte s.data.toList 47 = 0 := by
      have e : s = ⟨#[47]⟩ := (of_decide_eq_true ha).symm
      rw [e]; decide
    rw [hz]
    clear hz
    go_enter Try.func43, Try.ntmps43
    go_wp2_with fail
    go_ret
    exact ⟨rfl, rfl⟩
  | false =>
    have HI := Lib.hid (fun w => ib50 s 47 w)
    go_enter Try.func43, Try.ntmps43
    go_wp2_with fail
    refine (HI.out _).mono ?_
    rintro e w1 ⟨rfl, rfl⟩
    dsimp only
    go_wp2_with fail
    go_ret
    exact ⟨rfl, rfl⟩
/-- What Cut answers of a text. -/
structure CutIs (s a b : ByteArray) (f : Bool) : Prop where
  sep : f = true → Nm.pieces s.data.toList = a.data.toList :: Nm.pieces b.data.toList
  not : f = false → Nm.pieces s.data.toList = [a.data.toList]
  la : a.size ≤ s.size
  lb : b.size ≤ s.size
theorem cut_no {s : ByteArray} (h : Lib.indexByte s.data.toList 47 < 0) : CutIs s s ⟨#[]⟩ false :=
  ⟨(fun h => by cases h), (fun _ => ix_no _ h), Nat.le_refl _, Nat.zero_le _⟩
theorem cut_yes {s : ByteArray} {i : Nat} (hi : i < s.data.toList.length) (hp : Nm.pieces s.data.toList = s.data.toList.take i :: Nm.pieces (s.data.toList.drop (i + 1))) : CutIs s (s.extract 0 i) (s.extract (i + 1) s.size) true := by
  have hl : s.data.toList.length = s.size := Array.length_toList
  refine ⟨fun _ => ?_, (fun h => by cases h), ?_, ?_⟩
  · rw [hp, ByteArray.data_extract, ByteArray.data_extract, Array.toList_extract, Array.toList_extract, List.extract_eq_take_drop, List.extract_eq_take_drop]
    rw [List.drop_zero, Nat.sub_zero, List.take_of_length_le (i := s.size - (i + 1)) (by rw [List.length_drop]; omega)]
  · rw [ByteArray.size_extract]; omega
  · rw [ByteArray.size_extract]; omega
theorem cut35_any (s : ByteArray) (w : World) (hs : s.size ≤ 140737488355328) : Calls Try.prog 35 #[.string s, .string ⟨#[47]⟩] w fun e w' => (∃ a b f, e = .returned (.tuple #[.string a, .string b, .bool f]) ∧ CutIs s a b f) ∧ ∃ n, w' = w.drewN n := by
  have HI := Lib.hid (fun w => index_any s w)
  have HN := Lib.hid (fun h => cut_no (s := s) h)
  have HY := Lib.hid (ix_yes s.data.toList)
  have HC := Lib.hid (fun i => cut_yes (s := s) (i := i))
  have hl : s.data.toList.length = s.size := Array.length_toList
  generalize Lib.indexByte s.data.toList 47 = z at *
  by_cases hz : z < 0
  · go_enter Try.func35, Try.ntmps35
    go_wp2_with fail
    refine (HI.out _).mono ?_
    rintro e w1 ⟨rfl, rfl⟩
    dsimp only
    go_wp2_with fail
    go_ret3
    exact ⟨⟨_, _, _, rfl, HN.out hz⟩, 0, rfl⟩
  · obtain ⟨i, rfl, hi, hp⟩ := HY.out (by omega)
    have HF := Lib.hid (HC.out i hi hp)
    rw [hl] at hi
    have c1 : (0 : Int) ≤ (i : Int) := by omega
    have c2 : (i : Int) ≤ (s.size : Int) := by omega
    have c3 : (0 : Int) ≤ (i : Int) + 1 := by omega
    have c4 : (i : Int) + 1 ≤ (s.size : Int) := by omega
    clear HN HY HC hp hl hz
    go_enter Try.func35, Try.ntmps35
    go_wp2_with fail
    refine (HI.out _).mono ?_
    rintro e w1 ⟨rfl, rfl⟩
    dsimp only
    go_wp2_with fail
    go_quiet (fail)
    go_wp2_with fail
    go_ret3
    exact ⟨⟨_, _, _, rfl, HF.out⟩, _, rfl⟩
theorem cut_any (s : ByteArray) (w : World) (hs : s.size ≤ 140737488355328) : Calls Try.prog 27 #[.string s, .string ⟨#[47]⟩] w fun e w' => (∃ a b f, e = .returned (.tuple #[.string a, .string b, .bool f]) ∧ CutIs s a b f) ∧ ∃ n, w' = w.drewN n := by
  go_enter Try.func27, Try.ntmps27
  go_wp2_with fail
  refine (cut35_any s _ hs).mono ?_
  rintro e w1 ⟨⟨a, b, f, rfl, hc⟩, n, rfl⟩
  dsimp only
  go_wp2_with fail
  go_ret3
  exact ⟨⟨_, _, _, rfl, hc⟩, _, rfl⟩
/-- A text begins with a slash, or not. -/
def slashed (s : ByteArray) : Bool := s.data.toList.head? == some 47
theorem slashed_is {s : ByteArray} : slashed s = (decide (1 ≤ s.size) && alike (s.extract 0 1) ⟨#[47]⟩) := by
  unfold slashed
  have hl : s.data.toList.length = s.size := Array.length_toList
  have he : (s.extract 0 1).data.toList = s.data.toList.take 1 := by
    rw [ByteArray.data_extract, Array.toList_extract, List.extract_eq_take_drop, List.drop_zero]
  have ha : alike (s.extract 0 1) ⟨#[47]⟩ = decide (s.data.toList.take 1 = [47]) := by
    unfold alike
    rw [← he]
    apply decide_eq_decide.2
    exact ⟨fun h => by rw [h], fun h => Go.WideShapes.bytes_inj h⟩
  rw [ha, ← hl]
  cases s.data.toList with
  | nil => rfl
  | cons x l =>
    show (some x == some (47 : UInt8)) = _
    by_cases hx : x = 47
    · subst hx; simp
    · have : (x == 47) = false := beq_eq_false_iff_ne.2 hx
      simp [hx]
theorem has_any (s : ByteArray) (w : World) (hs : s.size ≤ 140737488355328) : Calls Try.prog 42 #[.string s, .string ⟨#[47]⟩] w fun e w' => e = .returned (.bool (slashed s)) ∧ w' = w := by
  rw [slashed_is]
  by_cases h1 : 1 ≤ s.size
  · have h1i : (1 : Int) ≤ (s.size : Int) := by omega
    go_enter Try.func42, Try.ntmps42
    go_wp2_with fail
    go_ret
    refine ⟨?_, rfl⟩
    simp [h1]
  · have h1i : ¬ (1 : Int) ≤ (s.size : Int) := by omega
    go_enter Try.func42, Try.ntmps42
    go_wp2_with fail
    go_ret
    refine ⟨?_, rfl⟩
    simp
theorem slashed_yes {s : ByteArray} (h : slashed s = true) : 1 ≤ s.size ∧ s.data.toList = 47 :: (s.extract 1 s.size).data.toList := by
  unfold slashed at h
  have hl : s.data.toList.length = s.size := Array.length_toList
  have he : (s.extract 1 s.size).data.toList = s.data.toList.drop 1 := by
    rw [ByteArray.data_extract, Array.toList_extract, List.extract_eq_take_drop, List.take_of_length_le (by rw [List.length_drop]; omega)]
  rw [he, ← hl]
  cases hd : s.data.toList with
  | nil => rw [hd] at h; simp at h
  | cons x l =>
    rw [hd] at h
    simp at h
    subst h
    simp
theorem slashed_no {s : ByteArray} (h : slashed s = false) : Nm.split s.data.toList = none := by
  unfold slashed at h
  have hne := beq_eq_false_iff_ne.1 h
  refine Nm.split_no (fun e => hne (by rw [e]; rfl)) ?_
  cases hd : s.data.toList with
  | nil => left; rfl
  | cons x l => right; rw [hd] at hne; simpa using hne
theorem cutp34_any (s : ByteArray) (w : World) (hs : s.size ≤ 140737488355328) : Calls Try.prog 34 #[.string s, .string ⟨#[47]⟩] w fun e w' => e = .returned (.tuple #[.string (if slashed s then s.extract 1 s.size else s), .bool (slashed s)]) ∧ w' = w := by
  have HI := Lib.hid (fun w => has_any s w hs)
  have HY := Lib.hid (fun h => (slashed_yes (s := s) h).1)
  generalize slashed s = f at *
  cases f with
  | true =>
    have c1 : (1 : Int) ≤ (s.size : Int) := by have := HY.out rfl; omega
    go_enter Try.func34, Try.ntmps34
    go_wp2_with fail
    refine (HI.out _).mono ?_
    rintro e w1 ⟨rfl, rfl⟩
    dsimp only
    go_wp2_with fail
    go_ret2
    exact ⟨rfl, rfl⟩
  | false =>
    go_enter Try.func34, Try.ntmps34
    go_wp2_with fail
    refine (HI.out _).mono ?_
    rintro e w1 ⟨rfl, rfl⟩
    dsimp only
    go_wp2_with fail
    go_ret2
    exact ⟨rfl, rfl⟩
theorem cutp_any (s : ByteArray) (w : World) (hs : s.size ≤ 140737488355328) : Calls Try.prog 26 #[.string s, .string ⟨#[47]⟩] w fun e w' => e = .returned (.tuple #[.string (if slashed s then s.extract 1 s.size else s), .bool (slashed s)]) ∧ w' = w := by
  have HI := Lib.hid (fun w => cutp34_any s w hs)
  generalize slashed s = f at *
  generalize (if f = true then s.extract 1 s.size else s) = r at *
  go_enter Try.func26, Try.ntmps26
  go_wp2_with fail
  refine (HI.out _).mono ?_
  rintro e w1 ⟨rfl, rfl⟩
  dsimp only
  go_wp2_with fail
  go_ret2
  exact ⟨rfl, rfl⟩
end Go.Proofs.Ytpckafgbinoohaa
