/- Names put one after the other, upwards and downwards, plainly. No program in it. -/
import Derived.Test.YteieehjggiiljaaAskB
namespace Go.Proofs.Yteieehjggiiljaa
open Go.Less
/-- The entries of the first i names. -/
def row (ss : List ByteArray) (i : Nat) : List En := (List.range i).map fun q => (ss.getD q ⟨#[]⟩, ((q : Int) + 1))
theorem row_succ (ss : List ByteArray) (i : Nat) : row ss (i + 1) = row ss i ++ [(ss.getD i ⟨#[]⟩, (i : Int) + 1)] := by
  unfold row; rw [List.range_succ, List.map_append]; rfl
theorem row_len (ss : List ByteArray) (i : Nat) : (row ss i).length = i := by unfold row; simp
/-- No two of the first i are alike. -/
def Unlike (ss : List ByteArray) (i : Nat) : Prop := ∀ p q, p < q → q < i → ss.getD p ⟨#[]⟩ ≠ ss.getD q ⟨#[]⟩
theorem mem_row {ss : List ByteArray} {i : Nat} {x : En} (h : x ∈ row ss i) : ∃ q, q < i ∧ x = (ss.getD q ⟨#[]⟩, (q : Int) + 1) := by
  unfold row at h
  obtain ⟨q, hq, e⟩ := List.mem_map.1 h
  exact ⟨q, List.mem_range.1 hq, e.symm⟩
theorem row_pair {ss : List ByteArray} : ∀ {i : Nat}, Unlike ss i → (row ss i).Pairwise fun x y => x.1 ≠ y.1
  | 0, _ => List.Pairwise.nil
  | i + 1, h => by
    rw [row_succ]
    refine List.pairwise_append.2 ⟨row_pair fun p q hp hq => h p q hp (by omega), List.pairwise_singleton _ _, fun x hx y hy => ?_⟩
    obtain ⟨q, hq, rfl⟩ := mem_row hx
    rw [List.mem_singleton.1 hy]
    exact h q i hq (by omega)
abbrev gat (l : List En) : List En := Nd.gather less Nm.right l
/-- One more, whatever lay there before. -/
theorem put_step (pre : List En) (x : En) (hne : ∀ y ∈ pre, y.1 ≠ x.1) (hl : pre.length < 64) :
    (Nd.withE less Nm.right ⟨2, 0, ⟨#[]⟩, ⟨#[]⟩, gat pre⟩ x.1 x.2 = (⟨2, 0, ⟨#[]⟩, ⟨#[]⟩, gat (pre ++ [x])⟩, 0)) ∨ (Nd.withE less Nm.right ⟨2, 0, ⟨#[]⟩, ⟨#[]⟩, gat pre⟩ x.1 x.2 = (Nd.none0, 14) ∧ gat (pre ++ [x]) = gat pre) := by
  have hg := Nd.gather_snoc (lt := less) (nm := Nm.right) pre x
  cases h2 : Nm.right (Nd.bs x.1)
  · exact .inr ⟨by unfold Nd.withE; rw [if_neg (by simp), if_pos h2], by unfold gat; rw [hg, h2]; rfl⟩
  · refine .inl ?_
    have h3 := Nd.gather_none (lt := less) (nm := Nm.right) hne
    have h4 := Nd.gather_len (lt := less) (nm := Nm.right) pre
    unfold Nd.withE
    rw [if_neg (by simp), if_neg (by rw [h2]; simp), if_neg (by simp only [gat]; rw [h3]; simp), if_neg (by show ¬ 64 ≤ (Nd.gather less Nm.right pre).length; omega)]
    simp only [gat]
    rw [hg, h2]; rfl
theorem gat_len (l : List En) : (gat l).length ≤ l.length := Nd.gather_len l
/-- The names from i on, the last first. -/
def down (ss : List ByteArray) (n i : Nat) : List En := ((row ss n).drop i).reverse
theorem down_zero (ss : List ByteArray) (n : Nat) : down ss n 0 = (row ss n).reverse := rfl
theorem down_end (ss : List ByteArray) (n : Nat) : down ss n n = [] := by unfold down; rw [List.drop_eq_nil_of_le (by rw [row_len]; exact Nat.le_refl _)]; rfl
theorem down_succ (ss : List ByteArray) {n i : Nat} (h : i < n) : down ss n i = down ss n (i + 1) ++ [(ss.getD i ⟨#[]⟩, (i : Int) + 1)] := by
  unfold down
  rw [List.drop_eq_getElem_cons (by rw [row_len]; exact h), List.reverse_cons]
  congr 2
  unfold row
  simp
theorem gat_down {ss : List ByteArray} {n : Nat} (h : Unlike ss n) : gat (down ss n 0) = gat (row ss n) := Nd.gather_back Less.rising (row_pair h)
theorem row_right {ss : List ByteArray} {n : Nat} (h : Unlike ss n) (hn : n ≤ 30) : Nd.Right less Nm.right ⟨2, 0, ⟨#[]⟩, ⟨#[]⟩, gat (row ss n)⟩ := by
  refine ⟨(by decide : (0 : Int) ≤ 0), (by decide : (0 : Int) ≤ 511), ?_, fun e he => ?_, (Nd.rises_iff Less.rising _).2 (Nd.gather_sorted Less.rising (row_pair h)), .inr (.inl ⟨rfl, rfl, rfl⟩)⟩
  · have := gat_len (row ss n)
    rw [row_len] at this
    show (gat (row ss n)).length ≤ 64
    omega
  · obtain ⟨h1, h2⟩ := Nd.mem_gather.1 he
    obtain ⟨q, hq, rfl⟩ := mem_row h1
    exact ⟨h2, by show 1 ≤ (q : Int) + 1; omega, by show (q : Int) + 1 ≤ 2147483647; omega⟩
/-- Without one of them, put again. -/
theorem again {l : List En} (hR : Nd.Right less Nm.right ⟨2, 0, ⟨#[]⟩, ⟨#[]⟩, l⟩) {x : En} (hx : x ∈ l) :
    Nd.withoutE ⟨2, 0, ⟨#[]⟩, ⟨#[]⟩, l⟩ x.1 = (⟨2, 0, ⟨#[]⟩, ⟨#[]⟩, Nd.cut l x.1⟩, 0) ∧ Nd.withE less Nm.right ⟨2, 0, ⟨#[]⟩, ⟨#[]⟩, Nd.cut l x.1⟩ x.1 x.2 = (⟨2, 0, ⟨#[]⟩, ⟨#[]⟩, l⟩, 0) := by
  have hs := (Nd.rises_iff Less.rising _).1 hR.rise
  have hf := Nd.find_at Less.rising hs hx
  have hc := Nd.cut_none Less.rising (k := x.1) hs
  have hsub : (Nd.cut l x.1).length < l.length := by
    have e := Nd.ins_cut Less.rising hs hf
    have h1 := Nd.len_ins (lt := less) (Nd.cut l x.1) x.1 x.2
    dsimp only at e
    rw [e] at h1
    omega
  have hlen := hR.len
  dsimp only at hlen hs hf hc
  constructor
  · unfold Nd.withoutE
    rw [if_neg (by simp), if_neg (by rw [hf]; simp)]
  · unfold Nd.withE
    rw [if_neg (by simp), if_neg (by rw [(hR.ok x hx).1]; simp), if_neg (by rw [hc]; simp), if_neg (by show ¬ 64 ≤ (Nd.cut l x.1).length; omega)]
    exact congrArg (fun q => ((⟨2, 0, ⟨#[]⟩, ⟨#[]⟩, q⟩ : Nd.Node), (0 : Int))) (Nd.ins_cut Less.rising hs hf)
end Go.Proofs.Yteieehjggiiljaa
