/- Few; a node in its box behind a world. -/
import Derived.Test.YteieehjggiiljaaOwn
namespace Go.Proofs.Yteieehjggiiljaa
set_option maxRecDepth 100000
open Go.RowKit Go.Less
/-- A node in its box. -/
structure Nb (p : Nat) (k m : Int) (d t : ByteArray) (a : Option Addr) (n c : Nat) (l : List En) (W : World) : Prop where
  box : W.heap[p]? = some (.cells #[.int .i64 k, .int .i64 m, .string d, .string t, .slice a n c] 24 (0, 0))
  ents : Ents a n l W
theorem Nb.kept {p : Nat} {k m : Int} {d t : ByteArray} {a : Option Addr} {n c : Nat} {l : List En} {W W' : World} (h : Nb p k m d t a n c l W) (hb : Below W.heap.size W W') : Nb p k m d t a n c l W' :=
  ⟨(hb.block _ (lt_of_obj h.box)).trans h.box, h.ents.below hb⟩
theorem nb_new {k m : Int} {d t : ByteArray} {a : Option Addr} {n c : Nat} {l : List En} {W : World} (h : Ents a n l W) : Nb W.heap.size k m d t a n c l (W.alloc (.cells #[.int .i64 k, .int .i64 m, .string d, .string t, .slice a n c] 24)) :=
  ⟨heap_alloc_new W _, h.below (below_one W _)⟩
/-- Few, plainly. -/
def fewB (d t : ByteArray) (l : List En) : Bool := decide (l.length ≤ 80) && l.all (fun x => decide (x.1.size ≤ 100)) && (decide (d.size ≤ 5000) && decide (t.size ≤ 500))
structure Small (d t : ByteArray) (n : Nat) (l : List En) : Prop where
  n80 : n ≤ 80
  names : ∀ x ∈ l, x.1.size ≤ 100
  d5 : d.size ≤ 5000
  t5 : t.size ≤ 500
theorem Small.at {d t : ByteArray} {n : Nat} {l : List En} (h : Small d t n l) (hn : n = l.length) : ∀ j, j < n → (l.getD j z0).1.size ≤ 100000 := fun j hj => by
  rw [List.getD, List.getElem?_eq_getElem (by omega)]
  exact Nat.le_trans (h.names _ (List.getElem_mem (by omega))) (by decide)
theorem small_of {d t : ByteArray} {n : Nat} {l : List En} (hn : n = l.length) (h : fewB d t l = true) : Small d t n l := by
  unfold fewB at h
  simp only [Bool.and_eq_true, decide_eq_true_eq, List.all_eq_true] at h
  exact ⟨by omega, h.1.2, h.2.1, h.2.2⟩
/-- Entries in memory, none too many, none too long. -/
structure EntsA (a : Option Addr) (n : Nat) (l : List En) (w : World) : Prop where
  ents : Ents a n l w
  few : n ≤ 140737488355328
  size : ∀ j, j < n → (l.getD j z0).1.size ≤ 140737488355328
set_option maxHeartbeats 4000000 in
theorem few_any (k m : Int) (d t : ByteArray) (a : Option Addr) (n cap : Nat) (l : List En) (w : World) (hE : EntsA a n l w) (hd : d.size ≤ 140737488355328) (ht : t.size ≤ 140737488355328) :
    Calls Try.prog 8 #[nv k m d t a n cap] w fun e w' => e = .returned (.bool (fewB d t l)) ∧ Below w.heap.size w w' := by
  have HNL := Lib.hid hE.ents.count
  have hni : (n : Int) ≤ 140737488355328 := by have := hE.few; omega
  have HE := Lib.hid (fun W (hb : Below w.heap.size w W) => hE.ents.below hb)
  have HS := Lib.hid hE.size
  have hdi : (d.size : Int) ≤ 140737488355328 := by omega
  have hti : (t.size : Int) ≤ 140737488355328 := by omega
  clear hE
  go_enter Try.func8, Try.ntmps8
  go_wp2_with fail
  go_loopw [3] (fun i wr => (∃ j : Nat, j ≤ n ∧ j ≤ 80 ∧ i = .int .i64 j ∧ Hid (∀ x ∈ l.take j, x.1.size ≤ 100)) ∧ wr.heap[w.heap.size]? = some (.cells #[.int .i64 k, .int .i64 m, .string d, .string t, .slice a n cap] 24 (0, 0)) ∧ Below w.heap.size w wr) (fun i _ => n - (intOf i).toNat)
  case atStart => exact ⟨⟨0, Nat.zero_le _, by omega, rfl, fun x hx => by simp at hx⟩, heap_alloc_new w _, below_one w _⟩
  case round =>
    obtain ⟨⟨j, hj, hj80, rfl, HA⟩, hbx, hb⟩ := hrel
    have HX := Lib.hid hbx
    have HB := Lib.hid hb
    have b4 : wr.cell? ⟨w.heap.size, 4, none⟩ = some (.slice a n cap) := cell_obj hbx 4
    clear hbx
    by_cases hlt : j < n
    · have j0 : (j : Int) < (n : Int) := by omega
      have hj0 : (0 : Int) ≤ (j : Int) := by omega
      have hjl : j < l.length := by rw [← HNL.out]; exact hlt
      by_cases h80 : 80 ≤ j
      · have h8i : (80 : Int) ≤ (j : Int) := by omega
        have HR := Lib.hid (show fewB d t l = false by unfold fewB; rw [decide_eq_false (p := l.length ≤ 80) (by have := HNL.out; omega)]; rfl)
        clear hb h80
        go_wp2_with fail
        go_ret
        rw [HR.out]
        exact ⟨rfl, HB.out⟩
      have h8i : ¬ (80 : Int) ≤ (j : Int) := by omega
      obtain ⟨b, off, rfl, c0, c1⟩ := (HE.out _ hb).cell j hlt
      have hsz := HS.out j hlt
      have hmem : l.getD j z0 ∈ l := by rw [List.getD, List.getElem?_eq_getElem hjl]; exact List.getElem_mem hjl
      have HT := Lib.hid (take_snoc hjl z0)
      generalize l.getD j z0 = x at c0 c1 hsz hmem HT
      have hxi : (x.1.size : Int) ≤ 140737488355328 := by omega
      rcases Nat.lt_or_ge 100 x.1.size with h | h
      · have h1 : (100 : Int) < (x.1.size : Int) := by omega
        have HR := Lib.hid (show fewB d t l = false by
          unfold fewB
          have : l.all (fun x => decide (x.1.size ≤ 100)) = false := by
            rw [List.all_eq_false]; exact ⟨x, hmem, by simp; omega⟩
          rw [this]; simp)
        clear hb h hmem
        go_wp2_with fail
        go_ret
        rw [HR.out]
        exact ⟨rfl, HB.out⟩
      · have h1 : ¬ (100 : Int) < (x.1.size : Int) := by omega
        have HN := Lib.hid (show ∀ y ∈ l.take (j + 1), y.1.size ≤ 100 from fun y hy => by
          rw [HT.out] at hy
          rcases List.mem_append.1 hy with hy | hy
          · exact HA.out y hy
          · rw [List.mem_singleton.1 hy]; exact h)
        clear hb h hmem
        go_wp2_with fail
        go_roundw
        case rel => exact ⟨⟨j + 1, by omega, by omega, by go_num, HN.out⟩, HX.out, HB.out⟩
        case measure => simp [intOf]; omega
    · obtain rfl : j = n := by omega
      have b2 : wr.cell? ⟨w.heap.size, 2, none⟩ = some (.string d) := cell_obj HX.out 2
      have b3 : wr.cell? ⟨w.heap.size, 3, none⟩ = some (.string t) := cell_obj HX.out 3
      have hall := HA.out
      rw [HNL.out, List.take_length] at hall
      have hfew : fewB d t l = (decide (d.size ≤ 5000) && decide (t.size ≤ 500)) := by
        unfold fewB
        rw [decide_eq_true (show l.length ≤ 80 by have := HNL.out; omega), List.all_eq_true.2 (fun x hx => decide_eq_true (hall x hx))]; rfl
      rcases Nat.lt_or_ge 5000 d.size with h | h
      · have h1 : (5000 : Int) < (d.size : Int) := by omega
        have HR := Lib.hid (hfew.trans (show _ = false by rw [decide_eq_false (by omega)]; rfl))
        clear hb h hall hfew
        go_wp2_with fail
        go_ret
        rw [HR.out]
        exact ⟨rfl, HB.out⟩
      · have h1 : (d.size : Int) ≤ 5000 := by omega
        have HR := Lib.hid (show fewB d t l = decide ((t.size : Int) ≤ 500) by rw [hfew, decide_eq_true h]; simp; omega)
        clear hb h hall hfew
        go_wp2_with fail
        go_ret
        rw [HR.out]
        exact ⟨rfl, HB.out⟩
end Go.Proofs.Yteieehjggiiljaa
