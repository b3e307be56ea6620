/- A directory's entries, plainly: found, put, taken. No program in it. -/
import Derived.Test.YteieehjggiiljaaNd
namespace Nd
def find : List En → ByteArray → Option Int
  | [], _ => none
  | x :: l, k => if x.1 = k then some x.2 else find l k
/-- Ahead of the first one whose name isn't lesser. -/
def ins (lt : ByteArray → ByteArray → Bool) : List En → ByteArray → Int → List En
  | [], k, i => [(k, i)]
  | x :: l, k, i => if lt x.1 k = true then x :: ins lt l k i else (k, i) :: x :: l
/-- Without the first one of that name. -/
def cut : List En → ByteArray → List En
  | [], _ => []
  | x :: l, k => if x.1 = k then l else x :: cut l k
def none0 : Node := ⟨0, 0, ByteArray.empty, ByteArray.empty, []⟩
def withE (lt : ByteArray → ByteArray → Bool) (nm : List UInt8 → Bool) (x : Node) (k : ByteArray) (i : Int) : Node × Int :=
  if x.kind ≠ 2 then (none0, 10) else if nm (bs k) = false then (none0, 14) else if (find x.ents k).isSome = true then (none0, 5) else if 64 ≤ x.ents.length then (none0, 3) else ({ x with ents := ins lt x.ents k i }, 0)
def withoutE (x : Node) (k : ByteArray) : Node × Int :=
  if x.kind ≠ 2 then (none0, 10) else if (find x.ents k).isSome = false then (none0, 4) else ({ x with ents := cut x.ents k }, 0)
theorem find_none {l : List En} {k : ByteArray} : find l k = none ↔ ∀ x ∈ l, x.1 ≠ k := by
  induction l with
  | nil => simp [find]
  | cons x l ih =>
    unfold find
    by_cases h : x.1 = k
    · rw [if_pos h]; simp [h]
    · rw [if_neg h, ih]; simp [h]
theorem find_mem {l : List En} {k : ByteArray} {i : Int} (h : find l k = some i) : (k, i) ∈ l := by
  induction l with
  | nil => cases h
  | cons x l ih =>
    unfold find at h
    by_cases hx : x.1 = k
    · rw [if_pos hx] at h; injection h with h; subst h; subst hx; exact List.mem_cons_self
    · rw [if_neg hx] at h; exact List.mem_cons_of_mem _ (ih h)
section
variable {lt : ByteArray → ByteArray → Bool}
theorem len_ins (l : List En) (k : ByteArray) (i : Int) : (ins lt l k i).length = l.length + 1 := by
  induction l with
  | nil => rfl
  | cons x l ih =>
    unfold ins
    split
    · simp [ih]
    · rfl
theorem mem_ins {l : List En} {k : ByteArray} {i : Int} {x : En} : x ∈ ins lt l k i ↔ x = (k, i) ∨ x ∈ l := by
  induction l with
  | nil => simp [ins]
  | cons y l ih =>
    unfold ins
    split
    · simp only [List.mem_cons, ih]
      constructor
      · rintro (h | h | h) <;> simp [h]
      · rintro (h | h | h) <;> simp [h]
    · simp only [List.mem_cons]
theorem find_ins_same {l : List En} {k : ByteArray} {i : Int} (h : find l k = none) : find (ins lt l k i) k = some i := by
  induction l with
  | nil => simp [ins, find]
  | cons x l ih =>
    have hx : x.1 ≠ k := find_none.1 h x List.mem_cons_self
    have hl : find l k = none := by unfold find at h; rwa [if_neg hx] at h
    unfold ins
    split
    · unfold find; rw [if_neg hx]; exact ih hl
    · unfold find; rw [if_pos rfl]
theorem find_ins_other {l : List En} {k c : ByteArray} {i : Int} (h : c ≠ k) : find (ins lt l k i) c = find l c := by
  induction l with
  | nil => simp [ins, find, Ne.symm h]
  | cons x l ih =>
    unfold ins
    split
    · unfold find; rw [ih]
    · rw [find, if_neg (Ne.symm h)]
theorem cut_ins {l : List En} {k : ByteArray} {i : Int} (h : find l k = none) : cut (ins lt l k i) k = l := by
  induction l with
  | nil => simp [ins, cut]
  | cons x l ih =>
    have hx : x.1 ≠ k := find_none.1 h x List.mem_cons_self
    have hl : find l k = none := by unfold find at h; rwa [if_neg hx] at h
    unfold ins
    split
    · unfold cut; rw [if_neg hx, ih hl]
    · unfold cut; rw [if_pos rfl]
theorem rises_iff (R : Tr.Rising lt) (l : List En) : rises lt l = true ↔ Tr.Sorted lt l := by
  induction l with
  | nil => simp [rises, Tr.Sorted]
  | cons x l ih =>
    cases l with
    | nil => simp [rises, Tr.Sorted]
    | cons y l =>
      rw [rises, Bool.and_eq_true, ih]
      constructor
      · rintro ⟨h1, h2⟩
        refine List.pairwise_cons.2 ⟨fun z hz => ?_, h2⟩
        rcases List.mem_cons.1 hz with rfl | hz
        · exact h1
        · exact R.tra _ _ _ h1 ((List.pairwise_cons.1 h2).1 z hz)
      · intro h
        obtain ⟨h1, h2⟩ := List.pairwise_cons.1 h
        exact ⟨h1 y List.mem_cons_self, h2⟩
theorem sorted_ins (R : Tr.Rising lt) {l : List En} {k : ByteArray} {i : Int} (hs : Tr.Sorted lt l) (h : find l k = none) : Tr.Sorted lt (ins lt l k i) := by
  induction l with
  | nil => exact List.pairwise_singleton _ _
  | cons x l ih =>
    have hx : x.1 ≠ k := find_none.1 h x List.mem_cons_self
    have hl : find l k = none := by unfold find at h; rwa [if_neg hx] at h
    obtain ⟨h1, h2⟩ := List.pairwise_cons.1 hs
    unfold ins
    by_cases hlt : lt x.1 k = true
    · rw [if_pos hlt]
      refine List.pairwise_cons.2 ⟨fun z hz => ?_, ih h2 hl⟩
      rcases mem_ins.1 hz with rfl | hz
      · exact hlt
      · exact h1 z hz
    · rw [if_neg hlt]
      have hk : lt k x.1 = true := by
        cases hkx : lt k x.1
        · exact absurd (R.tot _ _ (by simpa using hlt) hkx) hx
        · rfl
      refine List.pairwise_cons.2 ⟨fun z hz => ?_, hs⟩
      rcases List.mem_cons.1 hz with rfl | hz
      · exact hk
      · exact R.tra _ _ _ hk (h1 z hz)
theorem sorted_ext (R : Tr.Rising lt) : ∀ {l m : List En}, Tr.Sorted lt l → Tr.Sorted lt m → (∀ x, x ∈ l ↔ x ∈ m) → l = m
  | [], [], _, _, _ => rfl
  | [], y :: m, _, _, h => by have := (h y).2 List.mem_cons_self; cases this
  | x :: l, [], _, _, h => by have := (h x).1 List.mem_cons_self; cases this
  | x :: l, y :: m, hl, hm, h => by
    obtain ⟨h1, h2⟩ := List.pairwise_cons.1 hl
    obtain ⟨h3, h4⟩ := List.pairwise_cons.1 hm
    have hxy : x = y := by
      rcases List.mem_cons.1 ((h x).1 List.mem_cons_self) with e | hx
      · exact e
      rcases List.mem_cons.1 ((h y).2 List.mem_cons_self) with e | hy
      · exact e.symm
      have a := h3 x hx
      have b := h1 y hy
      rw [R.asym a] at b; cases b
    subst hxy
    have hne : ∀ {z : En} {r : List En}, (∀ w ∈ r, lt z.1 w.1 = true) → z ∉ r := fun hr hz => by have := hr _ hz; rw [R.irr] at this; cases this
    refine congrArg _ (sorted_ext R h2 h4 fun z => ⟨fun hz => ?_, fun hz => ?_⟩)
    · rcases List.mem_cons.1 ((h z).1 (List.mem_cons_of_mem _ hz)) with e | hz'
      · subst e; exact absurd hz (hne h1)
      · exact hz'
    · rcases List.mem_cons.1 ((h z).2 (List.mem_cons_of_mem _ hz)) with e | hz'
      · subst e; exact absurd hz (hne h3)
      · exact hz'
theorem cut_sub (l : List En) (k : ByteArray) : (cut l k).Sublist l := by
  induction l with
  | nil => exact List.Sublist.slnil
  | cons x l ih =>
    unfold cut
    split
    · exact List.sublist_cons_self _ _
    · exact ih.cons_cons x
theorem cut_none (R : Tr.Rising lt) {l : List En} {k : ByteArray} (hs : Tr.Sorted lt l) : find (cut l k) k = none := by
  induction l with
  | nil => rfl
  | cons x l ih =>
    obtain ⟨h1, h2⟩ := List.pairwise_cons.1 hs
    unfold cut
    split
    · rename_i hx
      refine find_none.2 fun z hz e => ?_
      have := h1 z hz
      rw [e, hx, R.irr] at this; cases this
    · rename_i hx
      unfold find; rw [if_neg hx]; exact ih h2
/-- Without one of them, put again, it is as it was. -/
theorem ins_cut (R : Tr.Rising lt) {l : List En} {k : ByteArray} {i : Int} (hs : Tr.Sorted lt l) (h : find l k = some i) : ins lt (cut l k) k i = l := by
  induction l with
  | nil => cases h
  | cons x l ih =>
    obtain ⟨h1, h2⟩ := List.pairwise_cons.1 hs
    unfold find at h
    unfold cut
    by_cases hx : x.1 = k
    · rw [if_pos hx] at h ⊢
      injection h with h
      subst h; subst hx
      cases l with
      | nil => rfl
      | cons y l => rw [ins, if_neg (by rw [R.asym (h1 y List.mem_cons_self)]; simp)]
    · rw [if_neg hx] at h ⊢
      rw [ins, if_pos (h1 (k, i) (find_mem h)), ih h2 h]
theorem find_at (R : Tr.Rising lt) {l : List En} {x : En} (hs : Tr.Sorted lt l) (h : x ∈ l) : find l x.1 = some x.2 := by
  induction l with
  | nil => cases h
  | cons y l ih =>
    obtain ⟨h1, h2⟩ := List.pairwise_cons.1 hs
    unfold find
    rcases List.mem_cons.1 h with rfl | h
    · rw [if_pos rfl]
    · rw [if_neg (fun e => by have := h1 x h; rw [e, R.irr] at this; cases this), ih h2 h]
variable {nm : List UInt8 → Bool}
theorem right_ins (R : Tr.Rising lt) {x : Node} {k : ByteArray} {i : Int} (h : Right lt nm x) (hk : x.kind = 2) (hn : nm (bs k) = true) (hf : find x.ents k = none) (hl : x.ents.length < 64) (h1 : 1 ≤ i) (h2 : i ≤ 2147483647) :
    Right lt nm { x with ents := ins lt x.ents k i } := by
  refine ⟨h.m0, h.m1, ?_, fun e he => ?_, ?_, ?_⟩
  · show (ins lt x.ents k i).length ≤ 64; rw [len_ins]; omega
  · rcases mem_ins.1 he with rfl | he
    · exact ⟨hn, h1, h2⟩
    · exact h.ok e he
  · exact (rises_iff R _).2 (sorted_ins R ((rises_iff R _).1 h.rise) hf)
  · rcases h.kinds with ⟨e, _⟩ | h | ⟨e, _⟩
    · omega
    · exact .inr (.inl h)
    · omega
theorem snoc_rec {α : Type} {P : List α → Prop} (nil : P []) (append_singleton : ∀ l x, P l → P (l ++ [x])) (l : List α) : P l := by
  have h : ∀ m : List α, P m.reverse := by
    intro m
    induction m with
    | nil => exact nil
    | cons x m ih => rw [List.reverse_cons]; exact append_singleton _ _ ih
  have := h l.reverse
  rwa [List.reverse_reverse] at this
/-- The entries of some names, put one after the other. -/
def gather (lt : ByteArray → ByteArray → Bool) (nm : List UInt8 → Bool) (l : List En) : List En := l.foldl (fun es x => if nm (bs x.1) = true then ins lt es x.1 x.2 else es) []
theorem gather_snoc (l : List En) (x : En) : gather lt nm (l ++ [x]) = if nm (bs x.1) = true then ins lt (gather lt nm l) x.1 x.2 else gather lt nm l := by
  unfold gather; rw [List.foldl_append]; rfl
theorem mem_gather {l : List En} {x : En} : x ∈ gather lt nm l ↔ x ∈ l ∧ nm (bs x.1) = true := by
  induction l using snoc_rec with
  | nil => simp [gather]
  | append_singleton l y ih =>
    rw [gather_snoc]
    split
    · rename_i hy
      rw [mem_ins, ih]
      simp only [List.mem_append, List.mem_singleton]
      constructor
      · rintro (h | h)
        · subst h; exact ⟨.inr rfl, hy⟩
        · exact ⟨.inl h.1, h.2⟩
      · rintro ⟨h | h, h'⟩
        · exact .inr ⟨h, h'⟩
        · exact .inl h
    · rename_i hy
      rw [ih]
      simp only [List.mem_append, List.mem_singleton]
      constructor
      · rintro ⟨h, h'⟩; exact ⟨.inl h, h'⟩
      · rintro ⟨h | h, h'⟩
        · exact ⟨h, h'⟩
        · subst h; exact absurd h' hy
theorem gather_len (l : List En) : (gather lt nm l).length ≤ l.length := by
  induction l using snoc_rec with
  | nil => exact Nat.le_refl _
  | append_singleton l y ih =>
    rw [gather_snoc, List.length_append, List.length_singleton]
    split
    · rw [len_ins]; omega
    · omega
theorem gather_none {l : List En} {k : ByteArray} (h : ∀ x ∈ l, x.1 ≠ k) : find (gather lt nm l) k = none := find_none.2 fun x hx => h x (mem_gather.1 hx).1
theorem gather_sorted (R : Tr.Rising lt) {l : List En} (h : l.Pairwise fun x y => x.1 ≠ y.1) : Tr.Sorted lt (gather lt nm l) := by
  induction l using snoc_rec with
  | nil => exact List.Pairwise.nil
  | append_singleton l y ih =>
    obtain ⟨h1, _, h3⟩ := List.pairwise_append.1 h
    rw [gather_snoc]
    split
    · exact sorted_ins R (ih h1) (gather_none fun x hx => h3 x hx y (List.mem_singleton.2 rfl))
    · exact ih h1
/-- In whatever order entries are put the node is the same. -/
theorem gather_back (R : Tr.Rising lt) {l : List En} (h : l.Pairwise fun x y => x.1 ≠ y.1) : gather lt nm l.reverse = gather lt nm l :=
  sorted_ext R (gather_sorted R (List.pairwise_reverse.2 (h.imp fun h => Ne.symm h))) (gather_sorted R h) fun x => by rw [mem_gather, mem_gather, List.mem_reverse]
end
end Nd
