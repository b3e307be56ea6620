/- Nodes and their texts, plainly. No program in it. -/
import Derived.Test.YteieehjggiiljaaTr
namespace Nd
abbrev En := ByteArray × Int
def bs (b : ByteArray) : List UInt8 := b.data.toList
def mk (l : List UInt8) : ByteArray := ⟨l.toArray⟩
theorem mk_bs (b : ByteArray) : mk (bs b) = b := rfl
theorem bs_mk (l : List UInt8) : bs (mk l) = l := rfl
theorem bs_inj {a b : ByteArray} (h : bs a = bs b) : a = b := by rw [← mk_bs a, ← mk_bs b, h]
structure Node where
  kind : Int
  mode : Int
  data : ByteArray
  target : ByteArray
  ents : List En
  deriving DecidableEq
section
variable (lt : ByteArray → ByteArray → Bool) (nm : List UInt8 → Bool)
/-- By rising names, one beside the other. -/
def rises : List En → Bool
  | [] => true
  | [_] => true
  | x :: y :: l => lt x.1 y.1 && rises (y :: l)
def entOk (x : En) : Bool := nm (bs x.1) && decide (1 ≤ x.2) && decide (x.2 ≤ 2147483647)
def right (x : Node) : Bool :=
  decide (0 ≤ x.mode) && decide (x.mode ≤ 511) && decide (x.ents.length ≤ 64) && x.ents.all (entOk nm) && rises lt x.ents &&
  (if x.kind = 1 then decide (x.target = ByteArray.empty) && decide (x.ents.length = 0) && decide (x.data.size ≤ 4096)
   else if x.kind = 2 then decide (x.target = ByteArray.empty) && decide (x.data = ByteArray.empty)
   else decide (x.kind = 3) && decide (x.data = ByteArray.empty) && decide (x.ents.length = 0) && decide (1 ≤ x.target.size) && decide (x.target.size ≤ 64))
end
/-- Number's bytes, the highest first. -/
def n4 (n : Nat) : List UInt8 := [UInt8.ofNat (n / 16777216), UInt8.ofNat (n / 65536), UInt8.ofNat (n / 256), UInt8.ofNat n]
def v4 : List UInt8 → Nat
  | [a, b, c, d] => ((a.toNat * 256 + b.toNat) * 256 + c.toNat) * 256 + d.toNat
  | _ => 0
theorem v4_n4 {n : Nat} (h : n < 4294967296) : v4 (n4 n) = n := by
  simp only [v4, n4, UInt8.toNat_ofNat']; omega
theorem n4_v4 (l : List UInt8) (h : l.length = 4) : n4 (v4 l) = l := by
  match l, h with
  | [a, b, c, d], _ =>
    have ha := a.toNat_lt; have hb := b.toNat_lt; have hc := c.toNat_lt; have hd := d.toNat_lt
    simp only [v4, n4, List.cons.injEq, and_true]
    refine ⟨?_, ?_, ?_, ?_⟩ <;> apply UInt8.toNat_inj.1 <;> rw [UInt8.toNat_ofNat'] <;> omega
def entText (x : En) : List UInt8 := UInt8.ofNat x.1.size :: (bs x.1 ++ n4 x.2.toNat)
def text (x : Node) : List UInt8 :=
  UInt8.ofNat x.kind.toNat :: UInt8.ofNat (x.mode.toNat / 256) :: UInt8.ofNat x.mode.toNat :: (bs x.data ++ bs x.target ++ (x.ents.map entText).flatten)
/-- The entries of a text. -/
def ents (l : List UInt8) : Option (List En) :=
  match l with
  | [] => some []
  | n :: t => if n.toNat + 4 ≤ t.length then (ents (t.drop (n.toNat + 4))).map fun es => (mk (t.take n.toNat), (v4 ((t.drop n.toNat).take 4) : Int)) :: es else none
  termination_by l.length
  decreasing_by simp; omega
theorem len_bs (b : ByteArray) : (bs b).length = b.size := Array.length_toList
theorem size_mk (l : List UInt8) : (mk l).size = l.length := by rw [← len_bs, bs_mk]
theorem ents_texts : ∀ es : List En, (∀ x ∈ es, x.1.size < 256 ∧ 0 ≤ x.2 ∧ x.2 < 4294967296) → ents (es.map entText).flatten = some es := by
  intro es
  induction es with
  | nil => intro _; simp [ents]
  | cons x es ih =>
    intro h
    obtain ⟨h1, h2, h3⟩ := h x List.mem_cons_self
    rw [List.map_cons, List.flatten_cons]
    show ents (UInt8.ofNat x.1.size :: ((bs x.1 ++ n4 x.2.toNat) ++ (es.map entText).flatten)) = _
    rw [ents]
    have hn : (UInt8.ofNat x.1.size).toNat = x.1.size := by rw [UInt8.toNat_ofNat']; omega
    have hl : (n4 x.2.toNat).length = 4 := rfl
    rw [hn, if_pos (by simp [len_bs, hl]), List.append_assoc]
    have e1 : (bs x.1 ++ (n4 x.2.toNat ++ (es.map entText).flatten)).drop (x.1.size + 4) = (es.map entText).flatten := by
      rw [← List.append_assoc]
      exact List.drop_left' (by rw [List.length_append, len_bs, hl])
    have e2 : (bs x.1 ++ (n4 x.2.toNat ++ (es.map entText).flatten)).take x.1.size = bs x.1 := List.take_left' (len_bs _)
    have e3 : ((bs x.1 ++ (n4 x.2.toNat ++ (es.map entText).flatten)).drop x.1.size).take 4 = n4 x.2.toNat := by
      rw [List.drop_left' (len_bs _)]; exact List.take_left' hl
    rw [e1, e2, e3, ih (fun y hy => h y (List.mem_cons_of_mem _ hy)), v4_n4 (by omega), mk_bs]
    simp only [Option.map_some]
    rw [Int.toNat_of_nonneg h2]
theorem texts_ents (k : Nat) : ∀ (l : List UInt8) (es : List En), l.length ≤ k → ents l = some es → (es.map entText).flatten = l ∧ ∀ x ∈ es, 0 ≤ x.2 := by
  induction k with
  | zero =>
    intro l es hk h
    have : l = [] := List.length_eq_zero_iff.1 (by omega)
    subst this
    rw [ents] at h; injection h with h; subst h; exact ⟨rfl, fun x hx => by cases hx⟩
  | succ k ih =>
    intro l es hk h
    match l, hk, h with
    | [], _, h => rw [ents] at h; injection h with h; subst h; exact ⟨rfl, fun x hx => by cases hx⟩
    | n :: t, hk, h =>
      rw [ents] at h
      split at h
      · rename_i hlen
        cases he : ents (t.drop (n.toNat + 4)) with
        | none => rw [he] at h; cases h
        | some es' =>
          rw [he] at h
          simp only [Option.map_some, Option.some.injEq] at h
          subst h
          have := ih _ es' (by simp only [List.length_cons] at hk; rw [List.length_drop]; omega) he
          obtain ⟨h1, h2⟩ := this
          refine ⟨?_, fun x hx => ?_⟩
          · rw [List.map_cons, List.flatten_cons, h1]
            show UInt8.ofNat (mk (t.take n.toNat)).size :: ((bs (mk (t.take n.toNat)) ++ n4 (v4 ((t.drop n.toNat).take 4))) ++ t.drop (n.toNat + 4)) = n :: t
            have hs : (mk (t.take n.toNat)).size = n.toNat := by rw [size_mk, List.length_take]; omega
            rw [hs, bs_mk, n4_v4 _ (by rw [List.length_take, List.length_drop]; omega), UInt8.ofNat_toNat, List.append_assoc, ← List.drop_drop, List.take_append_drop, List.take_append_drop]
          · rcases List.mem_cons.1 hx with rfl | hx
            · exact Int.natCast_nonneg _
            · exact h2 x hx
      · cases h
def nodeOf (a b c : UInt8) (r : List UInt8) (es : List En) : Node := ⟨a.toNat, b.toNat * 256 + c.toNat, if a.toNat = 1 then mk r else ByteArray.empty, if a.toNat = 3 then mk r else ByteArray.empty, es⟩
/-- A text's node. -/
def parse (lt : ByteArray → ByteArray → Bool) (nm : List UInt8 → Bool) (s : List UInt8) : Option Node :=
  match s with
  | a :: b :: c :: r =>
    match (if a.toNat = 2 then ents r else some []) with
    | none => none
    | some es => if right lt nm (nodeOf a b c r es) = true then some (nodeOf a b c r es) else none
  | _ => none
section
variable {lt : ByteArray → ByteArray → Bool} {nm : List UInt8 → Bool}
structure Right (lt : ByteArray → ByteArray → Bool) (nm : List UInt8 → Bool) (x : Node) : Prop where
  m0 : 0 ≤ x.mode
  m1 : x.mode ≤ 511
  len : x.ents.length ≤ 64
  ok : ∀ e ∈ x.ents, nm (bs e.1) = true ∧ 1 ≤ e.2 ∧ e.2 ≤ 2147483647
  rise : rises lt x.ents = true
  kinds : (x.kind = 1 ∧ x.target = ByteArray.empty ∧ x.ents = [] ∧ x.data.size ≤ 4096) ∨ (x.kind = 2 ∧ x.target = ByteArray.empty ∧ x.data = ByteArray.empty) ∨ (x.kind = 3 ∧ x.data = ByteArray.empty ∧ x.ents = [] ∧ 1 ≤ x.target.size ∧ x.target.size ≤ 64)
theorem right_iff (x : Node) : right lt nm x = true ↔ Right lt nm x := by
  constructor
  · intro h
    unfold right at h
    simp only [Bool.and_eq_true, decide_eq_true_eq, List.all_eq_true, entOk] at h
    obtain ⟨⟨⟨⟨⟨h1, h2⟩, h3⟩, h4⟩, h5⟩, h6⟩ := h
    refine ⟨h1, h2, h3, fun e he => ⟨(h4 e he).1.1, (h4 e he).1.2, (h4 e he).2⟩, h5, ?_⟩
    split at h6
    · rename_i hk
      simp only [Bool.and_eq_true, decide_eq_true_eq] at h6
      exact .inl ⟨hk, h6.1.1, List.length_eq_zero_iff.1 h6.1.2, h6.2⟩
    · split at h6
      · rename_i hk
        simp only [Bool.and_eq_true, decide_eq_true_eq] at h6
        exact .inr (.inl ⟨hk, h6.1, h6.2⟩)
      · simp only [Bool.and_eq_true, decide_eq_true_eq] at h6
        exact .inr (.inr ⟨h6.1.1.1.1, h6.1.1.1.2, List.length_eq_zero_iff.1 h6.1.1.2, h6.1.2, h6.2⟩)
  · rintro ⟨h1, h2, h3, h4, h5, h6⟩
    unfold right
    simp only [Bool.and_eq_true, decide_eq_true_eq, List.all_eq_true, entOk]
    refine ⟨⟨⟨⟨⟨h1, h2⟩, h3⟩, fun e he => ⟨⟨(h4 e he).1, (h4 e he).2.1⟩, (h4 e he).2.2⟩⟩, h5⟩, ?_⟩
    rcases h6 with ⟨hk, h7, h8, h9⟩ | ⟨hk, h7, h8⟩ | ⟨hk, h7, h8, h9, h10⟩
    · rw [if_pos hk, h7, h8]; simp [h9]
    · rw [if_neg (by omega), if_pos hk, h7, h8]; simp
    · rw [if_neg (by omega), if_neg (by omega), hk, h7, h8]; simp [h9, h10]
theorem bs_empty : bs ByteArray.empty = [] := rfl
theorem mk_nil : mk [] = ByteArray.empty := rfl
/-- What is printed is parsed. -/
theorem parse_text {x : Node} (hn : ∀ l, nm l = true → l.length < 256) (h : Right lt nm x) : parse lt nm (text x) = some x := by
  have hr := (right_iff x).2 h
  obtain ⟨kind, mode, data, target, es⟩ := x
  obtain ⟨h1, h2, h3, h4, h5, h6⟩ := h
  simp only at h1 h2 h3 h4 h5 h6
  have hes : ents (es.map entText).flatten = some es := ents_texts es fun x hx => ⟨by rw [← len_bs]; exact hn _ (h4 x hx).1, by have := (h4 x hx).2.1; omega, by have := (h4 x hx).2.2; omega⟩
  have hm : ((UInt8.ofNat (mode.toNat / 256)).toNat * 256 + (UInt8.ofNat mode.toNat).toNat : Int) = mode := by
    rw [UInt8.toNat_ofNat', UInt8.toNat_ofNat']; omega
  unfold text parse
  simp only [nodeOf]
  rcases h6 with ⟨rfl, rfl, rfl, h9⟩ | ⟨rfl, rfl, rfl⟩ | ⟨rfl, rfl, rfl, h9, h10⟩
  · simp only [List.map_nil, List.flatten_nil, bs_empty, List.append_nil, mk_bs, hm]
    simpa using hr
  · simp only [bs_empty, List.append_nil, List.nil_append, hm]
    simp only [show (UInt8.ofNat (Int.toNat 2)).toNat = 2 from rfl, if_true, hes]
    simpa using hr
  · simp only [List.map_nil, List.flatten_nil, bs_empty, List.append_nil, List.nil_append, mk_bs, hm]
    simpa using hr
/-- What is parsed is printed. -/
theorem text_parse {s : List UInt8} {x : Node} (h : parse lt nm s = some x) : text x = s ∧ Right lt nm x := by
  match s, h with
  | [], h => cases h
  | [_], h => cases h
  | [_, _], h => cases h
  | a :: b :: c :: r, h =>
    have hb := b.toNat_lt; have hc := c.toNat_lt; have ha := a.toNat_lt
    unfold parse at h
    cases hes : (if a.toNat = 2 then ents r else some []) with
    | none => simp only [hes] at h; cases h
    | some es =>
      simp only [hes] at h
      by_cases hr : right lt nm (nodeOf a b c r es) = true
      · rw [if_pos hr] at h
        injection h with h
        subst h
        have hR := (right_iff _).1 hr
        refine ⟨?_, hR⟩
        have e0 : UInt8.ofNat (Int.toNat (a.toNat : Int)) = a := by rw [Int.toNat_natCast, UInt8.ofNat_toNat]
        have e1 : UInt8.ofNat ((b.toNat * 256 + c.toNat : Int).toNat / 256) = b := by apply UInt8.toNat_inj.1; rw [UInt8.toNat_ofNat']; omega
        have e2 : UInt8.ofNat (b.toNat * 256 + c.toNat : Int).toNat = c := by apply UInt8.toNat_inj.1; rw [UInt8.toNat_ofNat']; omega
        unfold text
        simp only [nodeOf, e0, e1, e2]
        have hK := hR.kinds
        simp only [nodeOf] at hK
        congr 3
        rcases hK with ⟨hk, h7, h8, h9⟩ | ⟨hk, h7, h8⟩ | ⟨hk, h7, h8, h9, h10⟩
        · have : a.toNat = 1 := by omega
          rw [h8, this]; simp [bs_mk, bs_empty]
        · have : a.toNat = 2 := by omega
          rw [this, if_pos rfl] at hes
          rw [this]; simp [bs_empty, (texts_ents _ r es (Nat.le_refl _) hes).1]
        · have : a.toNat = 3 := by omega
          rw [h8, this]; simp [bs_mk, bs_empty]
      · rw [if_neg hr] at h; cases h
/-- Unlike nodes have unlike texts. -/
theorem text_inj {x y : Node} (hn : ∀ l, nm l = true → l.length < 256) (hx : Right lt nm x) (hy : Right lt nm y) : text x = text y ↔ x = y := by
  refine ⟨fun h => ?_, fun h => by rw [h]⟩
  have h1 := parse_text hn hx
  rw [h, parse_text hn hy] at h1
  injection h1 with h1
  exact h1.symm
end
end Nd
