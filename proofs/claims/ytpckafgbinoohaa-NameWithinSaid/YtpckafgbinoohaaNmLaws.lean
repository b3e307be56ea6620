/- Names and paths, plainly: what the laws of the layer ask. -/
import Derived.Test.YtpckafgbinoohaaNm
namespace Nm
theorem split_path {p : List UInt8} {ns : List (List UInt8)} (h : split p = some ns) : p = pathOf ns ∧ ns.length ≤ 8 ∧ ns.all right = true := by
  have h1 := join_split h
  unfold join at h1
  split at h1
  · rename_i hx
    cases h1; exact ⟨rfl, hx⟩
  · cases h1
theorem path_split {ns : List (List UInt8)} (h8 : ns.length ≤ 8) (hr : ns.all right = true) : split (pathOf ns) = some ns := split_join (by unfold join; rw [if_pos ⟨h8, hr⟩])
theorem isPrefixOf_iff (x y : List (List UInt8)) : x.isPrefixOf y = true ↔ ∃ z, y = x ++ z := by
  induction x generalizing y with
  | nil => exact ⟨fun _ => ⟨y, rfl⟩, fun _ => rfl⟩
  | cons a x ih =>
    cases y with
    | nil => exact ⟨(fun h => by cases h), (fun ⟨z, h⟩ => by cases h)⟩
    | cons b y =>
      show (a == b && x.isPrefixOf y) = true ↔ _
      rw [Bool.and_eq_true, ih, beq_iff_eq]
      constructor
      · rintro ⟨rfl, z, rfl⟩; exact ⟨z, rfl⟩
      · rintro ⟨z, h⟩; cases h; exact ⟨rfl, z, rfl⟩
theorem within_iff (a b : List UInt8) : within a b = true ↔ ∃ x z, split a = some x ∧ split b = some (x ++ z) := by
  unfold within
  constructor
  · intro h
    split at h
    · rename_i x y ha hb
      obtain ⟨z, rfl⟩ := (isPrefixOf_iff x y).1 h
      exact ⟨x, z, ha, hb⟩
    · cases h
  · rintro ⟨x, z, ha, hb⟩
    rw [ha, hb]
    exact (isPrefixOf_iff _ _).2 ⟨z, rfl⟩
theorem within_same {a b : List UInt8} (h : within a b = true) (h2 : within b a = true) : a = b := by
  obtain ⟨x, z, ha, hb⟩ := (within_iff a b).1 h
  obtain ⟨y, u, hb2, ha2⟩ := (within_iff b a).1 h2
  rw [hb] at hb2; cases hb2
  rw [ha] at ha2
  have := Option.some.inj ha2
  have hl := congrArg List.length this
  rw [List.length_append, List.length_append] at hl
  obtain rfl : z = [] := List.eq_nil_of_length_eq_zero (by omega)
  rw [List.append_nil] at hb
  rw [(split_path ha).1, (split_path hb).1]
theorem within_trans {a b c : List UInt8} (h : within a b = true) (h2 : within b c = true) : within a c = true := by
  obtain ⟨x, z, ha, hb⟩ := (within_iff a b).1 h
  obtain ⟨y, u, hb2, hc⟩ := (within_iff b c).1 h2
  rw [hb] at hb2; cases hb2
  exact (within_iff a c).2 ⟨x, z ++ u, ha, by rw [hc, List.append_assoc]⟩
theorem within_self (a : List UInt8) : within a a = (split a).isSome := by
  cases h : split a with
  | none => unfold within; rw [h]; rfl
  | some x => exact (within_iff a a).2 ⟨x, [], h, by rw [h, List.append_nil]⟩
theorem pathOf_append {x z : List (List UInt8)} (hx : x ≠ []) : pathOf (x ++ z) = pathOf x ++ (z.map (47 :: ·)).flatten := by
  unfold pathOf
  rw [if_neg (by simp [hx]), if_neg hx, List.map_append, List.flatten_append]
/-- A path that is within another one is that one's beginning. -/
theorem within_head {a b : List UInt8} (h : within a b = true) : a = [47] ∨ (a.length ≤ b.length ∧ b.take a.length = a ∧ (b.length = a.length ∨ b.getD a.length 0 = 47)) := by
  obtain ⟨x, z, ha, hb⟩ := (within_iff a b).1 h
  have pa := (split_path ha).1
  have pb := (split_path hb).1
  cases x with
  | nil => left; rw [pa]; rfl
  | cons c x =>
    right
    rw [pathOf_append (by simp), ← pa] at pb
    subst pb
    refine ⟨by rw [List.length_append]; omega, List.take_left, ?_⟩
    cases z with
    | nil => left; simp
    | cons d z =>
      right
      rw [List.getD, List.getElem?_append_right (Nat.le_refl _), Nat.sub_self]; rfl
theorem top_within {a : List UInt8} (h : (split a).isSome = true) : within [47] a = true := by
  obtain ⟨x, hx⟩ := Option.isSome_iff_exists.1 h
  exact (within_iff _ _).2 ⟨[], x, split_top, by rw [hx]; rfl⟩
/-- A path, its parent's, and the last name. -/
structure Parted (a p n : List UInt8) : Prop where
  inside : within p a = true
  not : within a p = false
  right : right n = true
  deep : p ≠ [47] → a = p ++ [47] ++ n
  flat : p = [47] → a = 47 :: n
theorem parted {a : List UInt8} {ms : List (List UInt8)} {n : List UInt8} (h : split a = some (ms ++ [n])) : Parted a (pathOf ms) n := by
  obtain ⟨pa, h8, hr⟩ := split_path h
  rw [List.all_append, Bool.and_eq_true] at hr
  rw [List.length_append] at h8
  have hp := path_split (ns := ms) (by omega) hr.1
  have hn : Nm.right n = true := by simpa using hr.2
  refine ⟨(within_iff _ _).2 ⟨ms, [n], hp, h⟩, ?_, hn, fun hne => ?_, fun he => ?_⟩
  · unfold within
    rw [h, hp]
    show (ms ++ [n]).isPrefixOf ms = false
    apply Bool.eq_false_iff.2
    intro hh
    obtain ⟨z, hz⟩ := (isPrefixOf_iff _ _).1 hh
    have := congrArg List.length hz
    simp at this
  · cases ms with
    | nil => exact absurd rfl hne
    | cons c ms => rw [pa, pathOf_append (by simp)]; simp
  · cases ms with
    | nil => rw [pa]; unfold pathOf; simp
    | cons c ms =>
      exfalso
      have hc := right_ne (List.all_eq_true.1 hr.1 c (by simp))
      unfold pathOf at he
      rw [if_neg (by simp), List.map_cons, List.flatten_cons, List.cons_append] at he
      have := congrArg List.tail he
      simp only [List.tail_cons] at this
      exact hc (List.append_eq_nil_iff.1 this).1
end Nm
