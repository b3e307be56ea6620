/- What a sector may hold: six rows of texts of the call's own; and what a failure leaves. -/
import Derived.Test.YtdgbfkedgedogaaApart
namespace Go.Proofs.Ytdgbfkedgedogaa
open Go.RowKit Go.Maps
theorem layD_mem (l : List (Int × Sec)) (K : Nat → Bool) (f : Int → Sec) (a : Int) : ∀ j, layD l K j f a = f a ∨ ∃ m, m < j ∧ (l.getD m (0, [])).1 = a ∧ layD l K j f a = (l.getD m (0, [])).2
  | 0 => .inl rfl
  | j + 1 => by
    unfold layD
    have ih := layD_mem l K f a j
    cases hK : K j
    · rcases ih with h | ⟨m, h1, h2, h3⟩
      · exact .inl h
      · exact .inr ⟨m, by omega, h2, h3⟩
    · show setAt _ _ _ a = _ ∨ ∃ m, m < j + 1 ∧ _ ∧ setAt _ _ _ a = _
      unfold setAt
      by_cases ha : a = (l.getD j (0, [])).1
      · exact .inr ⟨j, by omega, ha.symm, by rw [if_pos ha]⟩
      · rw [if_neg ha]
        rcases ih with h | ⟨m, h1, h2, h3⟩
        · exact .inl h
        · exact .inr ⟨m, by omega, h2, h3⟩
def updM {α : Type} (M : Nat → α) (n : Nat) (x : α) : Nat → α := fun i => if i = n then x else M i
structure LastT (f : Int → Sec) (t : St) (M : Nat → List Sec) : Prop where
  calm : Calm t
  lasts : ∀ a, t.lasts a = f a
  first : ∀ x ∈ t.first, ∀ i : Nat, i < 6 → x.1 = (i : Int) → x.2 ∈ M i
  head : ∀ i : Nat, i < 6 → ∃ r, M i = f i :: r
theorem LastT.put {f : Int → Sec} {t : St} {M : Nat → List Sec} (h : LastT f t M) {n : Nat} (hn : n < 6) {l : Sec} (hl : l.length = 32) : LastT f (t.put n l) (updM M n (M n ++ [l])) := by
  refine ⟨h.calm.put n hl, h.lasts, fun x hx i hi hxi => ?_, fun i hi => ?_⟩
  · have hx' : x ∈ t.first ++ [((n : Int), l)] := List.mem_of_mem_take hx
    unfold updM
    rcases List.mem_append.1 hx' with hx' | hx'
    · have := h.first x hx' i hi hxi
      by_cases e : i = n
      · rw [if_pos e]; exact List.mem_append_left _ (e ▸ this)
      · rw [if_neg e]; exact this
    · rw [List.mem_singleton.1 hx'] at hxi ⊢
      have e : i = n := by have : (n : Int) = (i : Int) := hxi; omega
      rw [if_pos e]; exact List.mem_append_right _ (List.mem_singleton.2 rfl)
  · unfold updM
    obtain ⟨r, hr⟩ := h.head i hi
    by_cases e : i = n
    · rw [if_pos e, ← e, hr]; exact ⟨r ++ [l], rfl⟩
    · rw [if_neg e]; exact ⟨r, hr⟩
theorem LastT.ends {f : Int → Sec} {t : St} {M : Nat → List Sec} (h : LastT f t M) (K : BitVec 64) {i : Nat} (hi : i < 6) : (t.drop K).seen i ∈ M i ∧ (K = 0 → (t.drop K).seen i = f i) := by
  have e : (t.drop K).seen i = layD t.first (bits K) t.first.length t.lasts i := rfl
  obtain ⟨r, hr⟩ := h.head i hi
  refine ⟨?_, fun hK => ?_⟩
  · rcases layD_mem t.first (bits K) t.lasts i t.first.length with h1 | ⟨m, hm, h1, h2⟩
    · rw [e, h1, h.lasts, hr]; exact List.mem_cons_self
    · rw [e, h2]
      have hx : t.first.getD m (0, []) ∈ t.first := by rw [List.getD, List.getElem?_eq_getElem hm]; exact List.getElem_mem hm
      exact h.first _ hx i hi h1
  · rw [e, layD_none _ _ _ _ _ (fun m _ hb => ?_), h.lasts]
    rw [hK] at hb
    unfold bits at hb
    simp at hb
theorem LastT.lens {f : Int → Sec} {t : St} {M : Nat → List Sec} (h : LastT f t M) : True := trivial

/-! ### In memory -/
def mayA (v : Nat → Value) : Array Value := #[v 0, v 1, v 2, v 3, v 4, v 5]
theorem mayA_set (v : Nat → Value) {k : Nat} (hk : k < 6) (x : Value) : (mayA v).setIfInBounds k x = mayA (updM v k x) := by
  have : k = 0 ∨ k = 1 ∨ k = 2 ∨ k = 3 ∨ k = 4 ∨ k = 5 := by omega
  rcases this with rfl | rfl | rfl | rfl | rfl | rfl <;> rfl
theorem mayA_at (v : Nat → Value) {k : Nat} (hk : k < 6) : (mayA v)[k]? = some (v k) := by
  have : k = 0 ∨ k = 1 ∨ k = 2 ∨ k = 3 ∨ k = 4 ∨ k = 5 := by omega
  rcases this with rfl | rfl | rfl | rfl | rfl | rfl <;> rfl
def texts (l : List Sec) : List Value := l.map fun s => .string (lstr s)
structure May (base p : Nat) (h : Hd) (B : Nat) (v : Nat → Value) (M : Nat → List Sec) (wr : World) : Prop where
  mineB : Mine wr p h B
  block : wr.heap[B]? = some (.cells (mayA v) 54 (0, 0))
  row : ∀ i, i < 6 → wr.ownsRow 0 9 1 (v i) (M i).length (texts (M i))
  mine : ∀ i, i < 6 → ∀ g, (v i).ownBlock = some g → Mine wr p h g ∧ base ≤ g
  apart : ∀ i j, i < 6 → j < 6 → i ≠ j → ∀ g, (v i).ownBlock = some g → (v j).ownBlock ≠ some g
theorem row_block9 {w : World} {v : Value} {n : Nat} {xs : List Value} (hr : w.ownsRow 0 9 1 v n xs) {k : Nat} (hk : v.ownBlock = some k) : ∃ cur, w.heap[k]? = some (.cells cur 9 (0, 0)) := by
  rcases hr.2 with ⟨rfl, _⟩ | ⟨g, cap, cur, rfl, _, hg, _⟩
  · cases hk
  · injection hk with hk; subst hk; exact ⟨cur, hg⟩
theorem May.kept {base p : Nat} {h h' : Hd} {B : Nat} {v : Nat → Value} {M : Nat → List Sec} {wr w' : World} (m : May base p h B v M wr) (hm : ∀ k, Mine wr p h k → Mine w' p h' k ∧ w'.heap[k]? = wr.heap[k]?) : May base p h' B v M w' := by
  refine ⟨(hm B m.mineB).1, (hm B m.mineB).2.trans m.block, fun i hi => ?_, fun i hi g hg => ⟨(hm g (m.mine i hi g hg).1).1, (m.mine i hi g hg).2⟩, m.apart⟩
  obtain ⟨h1, h2⟩ := m.row i hi
  refine ⟨h1, ?_⟩
  rcases h2 with h2 | ⟨g, cap, cur, hv, hb, hg, r⟩
  · exact .inl h2
  · exact .inr ⟨g, cap, cur, hv, hb, ((hm g (m.mine i hi g (by rw [hv]; rfl)).1).2).trans hg, r⟩
theorem May.turn {base p : Nat} {h h' : Hd} {B : Nat} {v : Nat → Value} {M : Nat → List Sec} {wr w' : World} (m : May base p h B v M wr) (T : Turn p wr w' h h') : May base p h' B v M w' := m.kept fun _ hk => ⟨T.mine hk, T.keep hk⟩
theorem May.grown {base p : Nat} {h : Hd} {B : Nat} {v : Nat → Value} {M : Nat → List Sec} {wr w' : World} (m : May base p h B v M wr) (b : Below wr.heap.size wr w') : May base p h B v M w' := m.kept fun _ hk => ⟨hk.below b, b.block _ hk.1⟩
theorem May.drew {base p : Nat} {h : Hd} {B : Nat} {v : Nat → Value} {M : Nat → List Sec} {wr : World} (m : May base p h B v M wr) : May base p h B v M wr.drew := m.kept fun _ hk => ⟨hk, rfl⟩
theorem May.cell {base p : Nat} {h : Hd} {B : Nat} {v : Nat → Value} {M : Nat → List Sec} {wr : World} (m : May base p h B v M wr) {i : Nat} (hi : i < 6) : wr.cell? ⟨B, i, none⟩ = some (v i) := by
  rw [cell_block m.block, mayA_at v hi]
theorem May.free {base p : Nat} {h : Hd} {B : Nat} {v : Nat → Value} {M : Nat → List Sec} {wr : World} (m : May base p h B v M wr) (i : Nat) : wr.frozen? ⟨B, i, none⟩ = false := free_block m.block i
/-- A text more for the i-th of them. -/
theorem May.more {base p : Nat} {h : Hd} {B : Nat} {v : Nat → Value} {M : Nat → List Sec} {t : St} {n : Nat} {w : World} {wr w3 : World} (m : May base p h B v M wr) (C : Ctx base w p h t n wr) (hBB : base ≤ B) {i : Nat} (hi : i < 6) {s : Sec} {g cap : Nat}
    (ho : w3.ownsRow 0 9 1 (.slice (some ⟨g, 0, none⟩) ((M i).length + 1) cap) ((M i).length + 1) (texts (M i) ++ [.string (lstr s)])) (hg : wr.grownBy w3 (v i).ownBlock) (hat : (v i).ownBlock = some g ∨ g = wr.heap.size) :
    May base p h B (updM v i (.slice (some ⟨g, 0, none⟩) ((M i).length + 1) cap)) (updM M i (M i ++ [s])) (w3.setCell ⟨B, i, none⟩ (.slice (some ⟨g, 0, none⟩) ((M i).length + 1) cap)) ∧
    Ctx base w p h t n (w3.setCell ⟨B, i, none⟩ (.slice (some ⟨g, 0, none⟩) ((M i).length + 1) cap)) ∧ w3.cell? ⟨B, i, none⟩ = some (v i) ∧ w3.frozen? ⟨B, i, none⟩ = false ∧
    (∀ k, Mine wr p h k → k ≠ B → (v i).ownBlock ≠ some k → (w3.setCell ⟨B, i, none⟩ (.slice (some ⟨g, 0, none⟩) ((M i).length + 1) cap)).heap[k]? = wr.heap[k]? ∧ w3.heap[k]? = wr.heap[k]?) := by
  have hBv : (v i).ownBlock ≠ some B := fun e => by
    obtain ⟨cur, hc⟩ := row_block9 (m.row i hi) e
    rw [m.block] at hc; injection hc with hc; injection hc with _ h2 _; cases h2
  have kB : w3.heap[B]? = wr.heap[B]? := hg.block B m.mineB.1 (Ne.symm hBv)
  have hgB : g ≠ B := fun e => by
    obtain ⟨cur, hc⟩ := row_block9 ho (k := g) rfl
    rw [e, kB, m.block] at hc; injection hc with hc; injection hc with _ h2 _; cases h2
  have hvm : ∀ k, (v i).ownBlock = some k → Mine wr p h k ∧ base ≤ k := m.mine i hi
  have hsz : ∀ x, (w3.setCell ⟨B, i, none⟩ x).heap.size = w3.heap.size := fun x => by simp [World.setCell]
  have hother : ∀ k, k < wr.heap.size → k ≠ B → (v i).ownBlock ≠ some k → ∀ x, (w3.setCell ⟨B, i, none⟩ x).heap[k]? = wr.heap[k]? := fun k hk hkB hkv x => by
    rw [Below.heap_setCell _ _ _ _ hkB]; exact hg.block k hk (Ne.symm hkv)
  have hgm : Mine w3 p h g ∧ base ≤ g := by
    rcases hat with e | e
    · have := hvm g e
      exact ⟨⟨Nat.lt_of_lt_of_le this.1.1 hg.size, this.1.2⟩, this.2⟩
    · obtain ⟨cur, hc⟩ := row_block9 ho (k := g) rfl
      exact ⟨⟨lt_of_block hc, fun o => by have := C.on.lt o; omega⟩, by rw [e]; exact C.len⟩
  refine ⟨⟨⟨by rw [hsz]; exact Nat.lt_of_lt_of_le m.mineB.1 hg.size, m.mineB.2⟩, by rw [block_setCell (kB.trans m.block), mayA_set v hi], fun j hj => ?_, fun j hj k hk => ?_, fun j1 j2 h1 h2 hne k hk => ?_⟩, ⟨C.on.kept fun k hk => ?_, C.own, ?_, ?_⟩, ?_, ?_, fun k hk hkB hkv => ⟨hother k hk.1 hkB hkv _, hg.block k hk.1 (Ne.symm hkv)⟩⟩
  · unfold updM
    by_cases e : j = i
    · rw [if_pos e, if_pos e, List.length_append, List.length_singleton]
      unfold texts at ho ⊢
      rw [List.map_append]
      exact ownsRow_setCell_other ho (fun e2 => hgB (by injection e2)) _
    · rw [if_neg e, if_neg e]
      refine ownsRow_setCell_other ((m.row j hj).kept hg ?_) (fun e2 => ?_) _
      · by_cases hn : (v j).ownBlock = none
        · exact .inl hn
        · right
          intro e2
          obtain ⟨k, hk⟩ := Option.ne_none_iff_exists'.1 hn
          exact m.apart j i hj hi e k hk (e2 ▸ hk)
      · obtain ⟨cur, hc⟩ := row_block9 (m.row j hj) e2
        rw [m.block] at hc; injection hc with hc; injection hc with _ h2 _; cases h2
  · unfold updM at hk
    by_cases e : j = i
    · rw [if_pos e] at hk
      injection hk with hk
      rw [← hk]
      exact ⟨⟨by rw [hsz]; exact hgm.1.1, hgm.1.2⟩, hgm.2⟩
    · rw [if_neg e] at hk
      have := m.mine j hj k hk
      exact ⟨⟨by rw [hsz]; exact Nat.lt_of_lt_of_le this.1.1 hg.size, this.1.2⟩, this.2⟩
  · unfold updM at hk ⊢
    by_cases e1 : j1 = i
    · rw [if_pos e1] at hk
      injection hk with hk
      rw [if_neg (fun e2 => hne (e1.trans e2.symm))]
      intro e3
      rcases hat with e4 | e4
      · exact m.apart i j2 hi h2 (fun e => hne (e1.trans e)) g e4 (e3.trans (congrArg some hk.symm))
      · have := (m.mine j2 h2 k e3).1.1; rw [← hk] at this; have hgg : (⟨g, 0, none⟩ : Addr).block = g := rfl; omega
    · rw [if_neg e1] at hk
      by_cases e2 : j2 = i
      · rw [if_pos e2]
        intro e3
        injection e3 with e3
        rcases hat with e4 | e4
        · exact m.apart j1 i h1 hi e1 k hk (e3 ▸ e4)
        · have := (m.mine j1 h1 k hk).1.1; rw [← e3] at this; have hgg : (⟨g, 0, none⟩ : Addr).block = g := rfl; omega
      · rw [if_neg e2]; exact m.apart j1 j2 h1 h2 hne k hk
  · exact hother k (C.on.lt hk) (fun e => m.mineB.2 (e ▸ hk)) (fun e => (hvm k e).1.2 hk) _
  · exact (C.below.grown hg C.len (fun k hk => (hvm k hk).2)).setCell (p := ⟨B, i, none⟩) hBB _
  · rw [hsz]; exact Nat.le_trans C.len hg.size
  · rw [cell_block (kB.trans m.block), mayA_at v hi]
  · exact free_block (kB.trans m.block) i
end Go.Proofs.Ytdgbfkedgedogaa
