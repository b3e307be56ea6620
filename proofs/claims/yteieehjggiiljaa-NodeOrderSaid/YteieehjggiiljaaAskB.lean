/- What is right is small; its text; what is printed and parsed, in the form in which the laws ask it. -/
import Derived.Test.YteieehjggiiljaaBoxes
namespace Go.Proofs.Yteieehjggiiljaa
set_option maxRecDepth 100000
open Go.RowKit Go.Less
structure Fits (n : Nat) (l : List En) : Prop where
  few : n ≤ 140737488355328
  size : ∀ j, j < n → (l.getD j z0).1.size ≤ 140737488355328
theorem alike_refl (x : ByteArray) : alike x x = true := alike_eq.2 rfl
theorem small_right {k m : Int} {d t : ByteArray} {l : List En} {n : Nat} (h : Nd.Right less Nm.right ⟨k, m, d, t, l⟩) (hn : l.length = n) : Small d t n l := by
  have hl := h.len
  have hk := h.kinds
  dsimp only at hl hk
  refine ⟨by omega, fun x hx => ?_, ?_, ?_⟩
  · have := nm_len (h.ok x hx).1
    rw [Nd.len_bs] at this; omega
  · rcases hk with ⟨_, _, _, h⟩ | ⟨_, _, h⟩ | ⟨_, h, _⟩
    · omega
    · rw [h]; decide
    · rw [h]; decide
  · rcases hk with ⟨_, h, _⟩ | ⟨_, h, _⟩ | ⟨_, _, _, _, h⟩
    · rw [h]; decide
    · rw [h]; decide
    · omega
theorem flat_small : ∀ es : List En, (∀ x ∈ es, x.1.size ≤ 16) → (es.map Nd.entText).flatten.length ≤ es.length * 21
  | [], _ => by simp
  | x :: es, h => by
    have h1 := h x List.mem_cons_self
    have h2 := flat_small es fun y hy => h y (List.mem_cons_of_mem _ hy)
    have h3 : (Nd.entText x).length = x.1.size + 5 := by simp [Nd.entText, Nd.len_bs, Nd.n4]
    rw [List.map_cons, List.flatten_cons, List.length_append, h3, List.length_cons]
    omega
theorem text_small {k m : Int} {d t : ByteArray} {l : List En} (h : Nd.Right less Nm.right ⟨k, m, d, t, l⟩) : (Nd.text ⟨k, m, d, t, l⟩).length ≤ 100000 := by
  have S := small_right h rfl
  have hl := h.len
  have h1 := S.d5
  have h2 := S.t5
  have h3 := flat_small l fun x hx => by
    have := nm_len (h.ok x hx).1
    rw [Nd.len_bs] at this; omega
  dsimp only at hl
  unfold Nd.text
  simp only [List.length_cons, List.length_append, Nd.len_bs]
  omega
theorem prt_right {k m : Int} {d t : ByteArray} {l : List En} (h : ndr k m d t l = true) : prt ⟨k, m, d, t, l⟩ = (lstr (Nd.text ⟨k, m, d, t, l⟩), 0) := if_pos h
theorem prt_wrong {k m : Int} {d t : ByteArray} {l : List En} (h : ndr k m d t l = false) : prt ⟨k, m, d, t, l⟩ = (⟨#[]⟩, 2) := if_neg (by unfold ndr at h; rw [h]; simp)
theorem lstr_list (l : List UInt8) : (lstr l).data.toList = l := rfl
theorem lstr_back (s : ByteArray) : lstr s.data.toList = s := rfl
theorem parse_prt {k m : Int} {d t : ByteArray} {l : List En} (h : ndr k m d t l = true) : parseR (lstr (Nd.text ⟨k, m, d, t, l⟩)).data.toList = (⟨k, m, d, t, l⟩, 0) := by
  rw [lstr_list]
  unfold parseR
  rw [Nd.parse_text nm256 (ndr_right.1 h)]
theorem parseR_cases (s : ByteArray) : (∃ x, parseR s.data.toList = (x, 0) ∧ Nd.Right less Nm.right x ∧ prt x = (s, 0)) ∨ parseR s.data.toList = (Nd.none0, 2) := by
  cases hp : Nd.parse less Nm.right s.data.toList with
  | none => exact .inr (parseR_none hp)
  | some x =>
    have h := Nd.text_parse hp
    have hr : parseR s.data.toList = (x, 0) := by unfold parseR; rw [hp]
    exact .inl ⟨x, hr, h.2, (if_pos ((Nd.right_iff x).2 h.2)).trans (by rw [h.1]; rfl)⟩
theorem same_texts {k m : Int} {d t : ByteArray} {l : List En} {k' m' : Int} {d' t' : ByteArray} {l' : List En} (h : ndr k m d t l = true) (h' : ndr k' m' d' t' l' = true) :
    alike (lstr (Nd.text ⟨k, m, d, t, l⟩)) (lstr (Nd.text ⟨k', m', d', t', l'⟩)) = sameN k m d t l k' m' d' t' l' := by
  rw [Bool.eq_iff_iff, alike_eq, sameN_iff, ← Nd.text_inj nm256 (ndr_right.1 h) (ndr_right.1 h')]
  exact ⟨fun e => by rw [← lstr_list (Nd.text ⟨k, m, d, t, l⟩), e, lstr_list], fun e => by rw [e]⟩
end Go.Proofs.Yteieehjggiiljaa
