/- What a table is at first: noughts. -/
import Derived.Test.YtfemanblkmcglaaProg
import Derived.KernelRfl
import Derived.WalkKit
namespace Go.Proofs.Ytfemanblkmcglaa
open Go.RowKit

def nought : Value := .int .u16 0
def isNought : Value → Bool
  | .int .u16 n => decide (n = 0)
  | _ => false
theorem isNought_eq {v : Value} (h : isNought v = true) : v = nought := by
  unfold isNought at h
  split at h
  · rw [of_decide_eq_true h]; rfl
  · cases h
def eat : Nat → List Value → Option (List Value)
  | 0, l => some l
  | _ + 1, [] => none
  | n + 1, v :: l => if isNought v then eat n l else none
def eats (m : Nat) : Nat → List Value → Option (List Value)
  | 0, l => some l
  | k + 1, l => match eat m l with
    | none => none
    | some r => eats m k r
theorem eat_is : ∀ (n : Nat) {l r : List Value}, eat n l = some r → l = List.replicate n nought ++ r
  | 0, l, r, h => by injection h
  | n + 1, [], r, h => by cases h
  | n + 1, v :: l, r, h => by
    unfold eat at h
    split at h
    · rename_i hv
      rw [isNought_eq hv, eat_is n h]; rfl
    · cases h
theorem eats_is (m : Nat) : ∀ (k : Nat) {l r : List Value}, eats m k l = some r → l = List.replicate (k * m) nought ++ r
  | 0, l, r, h => by rw [Nat.zero_mul]; injection h
  | k + 1, l, r, h => by
    unfold eats at h
    split at h
    · cases h
    · rename_i s hs
      rw [eat_is m hs, eats_is m k h, ← List.append_assoc, List.replicate_append_replicate, Nat.succ_mul, Nat.add_comm]
def isEmpty : Option (List Value) → Bool
  | some [] => true
  | _ => false
theorem isEmpty_eq {o : Option (List Value)} (h : isEmpty o = true) : o = some [] := by
  unfold isEmpty at h
  split at h
  · rfl
  · cases h
def cellsOf : Option Value → List Value
  | some (.agg z) => z.toList
  | _ => []
theorem zero_check : isEmpty (eats 257 257 (cellsOf Try.t50.zero)) = true := by kernel_rfl
/-- The cells of a new table. -/
def zeros : List Value := List.replicate (257 * 257) nought
theorem zero_cells {o : Option Value} (h : cellsOf o = zeros) : o = some (.agg ⟨zeros⟩) := by
  have hl : (cellsOf o).length = 66049 := by rw [h]; unfold zeros; rw [List.length_replicate]
  match o, hl, h with
  | some (.agg z), _, h =>
    obtain ⟨l⟩ := z
    have h' : l = zeros := h
    rw [h']
theorem zero50 : Try.t50.zero = some (.agg ⟨zeros⟩) := by
  have h := eats_is 257 257 (isEmpty_eq zero_check)
  rw [List.append_nil] at h
  exact zero_cells h
theorem zeroValue50 (w : World) : (zeroValue 50).run Try.prog w = .ok (.agg ⟨zeros⟩) w := by
  unfold zeroValue
  rw [Sem.run_bind, Try.typeInfo50 w, Result.andThen_ok, zero50]
  rfl
theorem run_alloc50 (w : World) (old : Value) : (Instr.alloc 50 true old).run Try.prog w = .ok (.pointer (some ⟨w.heap.size, 0, none⟩)) (w.alloc (.cells ⟨zeros⟩ 50)) := by
  unfold Instr.alloc
  rw [Sem.run_bind, zeroValue50 w, Result.andThen_ok]
  rfl
theorem zeros_get {i : Nat} (h : i < 66049) : zeros[i]? = some nought := by
  unfold zeros
  rw [List.getElem?_replicate, if_pos h]
theorem zeros_size : (⟨zeros⟩ : Array Value).size = 66049 := by
  show zeros.length = 66049
  unfold zeros
  rw [List.length_replicate]
end Go.Proofs.Ytfemanblkmcglaa
