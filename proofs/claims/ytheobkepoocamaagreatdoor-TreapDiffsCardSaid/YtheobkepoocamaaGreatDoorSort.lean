/- slices.Sort of a row of texts of the call's own. -/
import Derived.Test.YtheobkepoocamaaGreatDoorLay
import Derived.Test.YtheobkepoocamaaGreatDoorOwn
import Derived.Test.YtheobkepoocamaaGreatDoorLess
import Derived.Sort.OwnSorted
namespace Go.Proofs.YtheobkepoocamaaGreatDoor
set_option maxRecDepth 100000
open Go.RowKit Go.Less
def tl (x : ByteArray) : List UInt8 := x.data.toList
def ofl (l : List UInt8) : ByteArray := ⟨l.toArray⟩
theorem ofl_tl (x : ByteArray) : ofl (tl x) = x := by unfold ofl tl; cases x; simp
theorem tl_ofl (l : List UInt8) : tl (ofl l) = l := by simp [ofl, tl]
/-- Texts, sorted. -/
def srt (l : List ByteArray) : List ByteArray := ((l.map tl).mergeSort fun x y => decide (x ≤ y)).map ofl
theorem srt_perm (l : List ByteArray) : (srt l).Perm l := by
  have h := (List.mergeSort_perm (l.map tl) fun x y => decide (x ≤ y)).map ofl
  rw [List.map_map] at h
  have e : (ofl ∘ tl) = (id : ByteArray → ByteArray) := funext ofl_tl
  rw [e, List.map_id] at h
  exact h
theorem less_tl (x y : ByteArray) : less x y = decide (tl x < tl y) := by
  rw [less_is, ByteArray.toList_eq, ByteArray.toList_eq]; rfl
theorem srt_sorted (l : List ByteArray) : (srt l).Pairwise fun x y => less y x = false := by
  unfold srt
  rw [List.pairwise_map]
  refine (List.pairwise_mergeSort (le := fun x y => decide (x ≤ y)) ?_ ?_ (l.map tl)).imp ?_
  · intro a b c h1 h2
    simp only [decide_eq_true_eq] at *
    exact List.le_trans h1 h2
  · intro a b
    simp only [Bool.or_eq_true, decide_eq_true_eq]
    exact List.le_total a b
  · intro a b h
    rw [less_tl, tl_ofl, tl_ofl]
    simp only [decide_eq_true_eq] at h
    exact decide_eq_false (List.not_lt.2 h)
theorem srt_len (l : List ByteArray) : (srt l).length = l.length := (srt_perm l).length_eq
theorem enc_map (l : List ByteArray) : l.map Value.string = (l.map tl).map encStr := by
  rw [List.map_map]
  refine List.map_congr_left fun x _ => ?_
  show Value.string x = Value.string (ofl (tl x))
  rw [ofl_tl]
theorem enc_srt (l : List ByteArray) : (srt l).map Value.string = ((l.map tl).mergeSort fun x y => decide (x ≤ y)).map encStr := by
  unfold srt
  rw [List.map_map]
  rfl
def Sorts (base : Nat) (a : Option Addr) (cap : Nat) (l : List ByteArray) (W : World) (e : Ending) (W' : World) : Prop := e = .returned (.tuple #[]) ∧ W'.ownsRow base 9 1 (.slice a l.length cap) l.length ((srt l).map Value.string) ∧ W.grownBy W' (Value.slice a l.length cap).ownBlock
theorem sort_any {base : Nat} {a : Option Addr} {cap : Nat} {l : List ByteArray} {W : World} (h : W.ownsRow base 9 1 (.slice a l.length cap) l.length (l.map Value.string)) (hn : l.length ≤ 1000000) :
    Calls Tryz.prog 26 #[.slice a l.length cap] W (Sorts base a cap l W) := by
  have hr := h
  obtain ⟨_, ⟨hv, h0⟩ | ⟨g, cap', cur, hv, hbase, hb, h1, h2, h3, h4⟩⟩ := h
  · injection hv with e1 e2 e3
    subst e1; subst e3
    have hl : l = [] := List.length_eq_zero_iff.1 h0
    subst hl
    refine (Tryz.slices_Sort_string_none none 0 W).mono ?_
    rintro e w' ⟨rfl, rfl⟩
    have e0 : srt [] = [] := by simp [srt]
    exact ⟨rfl, by rw [e0]; exact hr, ⟨rfl, rfl, rfl, Nat.le_refl _, fun _ _ _ => rfl⟩⟩
  · injection hv with e1 e2 e3
    subst e1; subst e3
    rw [enc_map, Nat.mul_one] at h4
    have hs : (l.map tl).length = l.length := List.length_map ..
    have hH : Go.Sort.Holds encStr W g 0 (l.map tl).toArray := holds_of_block hb (by rw [hs]; exact h4)
    have hc := Tryz.slices_Sort_string g 0 cap (l.map tl) W hH ((Array.getElem?_eq_some_iff.1 hb).1) (by omega)
    rw [hs] at hc
    refine hc.mono ?_
    rintro e w' ⟨rfl, n, os, rfl⟩
    refine ⟨rfl, ?_, grownBy_sorted _⟩
    have := ownsRow_sorted (w := W) (n := n) (os := os) (ss := l.map tl) (ts := (l.map tl).mergeSort fun x y => decide (x ≤ y)) (by simp) hbase hb (by rw [hs]; exact h1) h2 h3
    rw [hs] at this
    rw [enc_srt]
    exact this
end Go.Proofs.YtheobkepoocamaaGreatDoor
