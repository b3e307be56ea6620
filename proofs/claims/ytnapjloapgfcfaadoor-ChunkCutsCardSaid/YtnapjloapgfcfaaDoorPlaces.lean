/- The places of a file's chunks: the iterator's contract; how many there are. -/
import Derived.RangeFuncNested
import Derived.RangeFuncBox
import Derived.RangeFuncBound
import Derived.RangeFuncCalls
import Derived.RangeFuncLeaves
import Derived.RangeFuncWrites
import Derived.Shelf.Abstract
import Derived.Shelf.RegionOpen
import Derived.WalkKit
import Derived.OwnWalkIn
import Derived.TacticsInMore
import Derived.LoopNIn
import Derived.LoopIn
import Derived.Maps.AppendAt
import Derived.Lib.Hide
import Derived.Test.YtnapjloapgfcfaaDoorProg
namespace Go.Proofs.YtnapjloapgfcfaaDoor
open Go.RowKit Go.Shelf
attribute [local go_sem] Oper.semAt_some

/-- A place of a file of m bytes: its number. -/
abbrev Pl (m : Nat) := { k : Nat // 16 * k < m }
def upto (m k : Nat) : Nat := min (16 * k + 16) m
def plEnc (m : Nat) (x : Pl m) : Array Value := #[.int .i64 (16 * (x.1 : Int)), .int .i64 ((upto m x.1 : Nat) : Int)]
def goesAll (m : Nat) (xs : List (Pl m)) : Prop := xs.map (·.1) = List.range ((m + 15) / 16)
def goesSome (m : Nat) (xs : List (Pl m)) : Prop := ∃ j, j ≤ (m + 15) / 16 ∧ xs.map (·.1) = List.range j

/-- One variable of the iterator's own stays as it is. -/
def KeepC (B : Nat) (W W' : World) : Prop := ∀ v, W.cell? ⟨B, 0, none⟩ = some v → W'.cell? ⟨B, 0, none⟩ = some v
theorem keepC_t {B : Nat} {X Y Z : World} (h : KeepC B X Y) (k : KeepC B Y Z) : KeepC B X Z := fun v e => k v (h v e)
theorem keepC_b {B : Nat} {w : World} (W : World) (l : Nat) (o o' : Obj) (_ : w.heap.size ≤ l) (h : W.heap[l]? = some o) (ho : o.isCells = false) (_ : o.isWalk = false) : KeepC B W (W.putObj l o') :=
  fun _ e => cell_kept e (grownBy_putObj' W l o') (fun r hr => by cases hr; exact ⟨o, h, ho⟩)
theorem KeepC.below {B : Nat} {W W' : World} (hb : Below W.heap.size W W') (hB : B < W.heap.size) : KeepC B W W' := fun _ e => (hb.cell (p := ⟨B, 0, none⟩) hB).trans e
theorem KeepC.set {B c : Nat} {j : Nat} (W : World) (h : c ≠ B) (v : Value) : KeepC B W (W.setCell ⟨c, j, none⟩ v) := fun _ e => by
  rw [World.cell?_setCell_other (h := fun hh => h (congrArg Addr.block hh))]; exact e

theorem count_any (m : Nat) (w : World) (hm : m ≤ 1000000000000) : Calls Tryd.prog 31 #[.int .i64 (m : Int)] w fun e w' => e = .returned (.int .i64 (((m + 15) / 16 : Nat) : Int)) ∧ w = w' := by
  go_enter Tryd.func31, Tryd.ntmps31
  go_wp2
  go_ret
  exact ⟨by go_num, rfl⟩

theorem places_any (m : Int) (w : World) : Calls Tryd.prog 32 #[.int .i64 m] w fun e w' => e = .returned (.func (.func 38) #[] #[.pointer (some ⟨w.heap.size, 0, none⟩)]) ∧ w' = w.alloc (.cells #[.int .i64 m] 3) := by
  go_enter Tryd.func32, Tryd.ntmps32
  go_wp2
  go_ret
  exact ⟨rfl, rfl⟩

set_option maxRecDepth 100000 in
set_option maxHeartbeats 1000000 in
theorem goes_in (F : Fence) (n : Nat) (h6 : F.fn 38) (hro : F.round = none) (hn : 1 ≤ n) (l Bn : Nat) (m : Nat) (hm : m ≤ 1000000000000) (J Jx : List (Pl m) → World → Prop)
    (hY : ∀ pre x W, J pre W → pre.length < (m + 15) / 16 → YieldAt F (n - 1) Tryd.prog l (plEnc m x) W fun e W' =>
      (e = .returned (.bool true) ∧ J (pre ++ [x]) W' ∧ KeepC Bn W W') ∨ (e = .returned (.bool false) ∧ Jx (pre ++ [x]) W'))
    (W : World) (hBn : W.cell? ⟨Bn, 0, none⟩ = some (.int .i64 (m : Int))) (h0 : J [] W) :
    CallsIn F n Tryd.prog 38 #[.func (.yield l) #[] #[], .pointer (some ⟨Bn, 0, none⟩)] W fun e W' => (∃ v, e = .returned v) ∧
      ((∃ ys, goesAll m ys ∧ J ys W') ∨ (∃ pre, goesSome m pre ∧ Jx pre W')) := by
  refine callsIn_of_wp Tryd.func38 rfl h6 ?_ hro
  simp only [Tryd.ntmps38, List.size_toArray, List.length_cons, List.length_nil, Nat.reduceAdd, Nat.reduceSub, Array.replicate_succ, Array.replicate_zero, List.push_toArray, List.append_toArray, List.nil_append, List.cons_append]
  gi_wp2
  gi_loopw [3] (fun p wr => ∃ (k : Nat) (pre : List (Pl m)), k ≤ (m + 15) / 16 ∧ p = .int .i64 ((16 * k : Nat) : Int) ∧ pre.map (·.1) = List.range k ∧ wr.cell? ⟨Bn, 0, none⟩ = some (.int .i64 (m : Int)) ∧ J pre wr)
    (fun p wr => m + 16 - (intOf p).toNat)
  case atStart =>
    exact ⟨0, [], Nat.zero_le _, rfl, rfl, hBn, h0⟩
  case round =>
    obtain ⟨k, pre, hk, rfl, hp, hc, hJ⟩ := hrel
    have hlen : pre.length = k := by simpa using congrArg List.length hp
    by_cases hlt : 16 * k < m
    · have hlt' : ((16 * k : Nat) : Int) < (m : Int) := by omega
      obtain ⟨fn, tmps, assign, body, hy, hR⟩ := hY pre ⟨k, hlt⟩ wr hJ (by omega)
      dsimp only [plEnc] at hy
      have hBw := hc
      have back : ∀ W3, J (pre ++ [⟨k, hlt⟩]) W3 → KeepC Bn wr W3 → ∃ (k' : Nat) (pre' : List (Pl m)), k' ≤ (m + 15) / 16 ∧ Value.int .i64 (16 * (k : Int) + 16) = .int .i64 ((16 * k' : Nat) : Int) ∧ pre'.map (·.1) = List.range k' ∧ W3.cell? ⟨Bn, 0, none⟩ = some (.int .i64 (m : Int)) ∧ J pre' W3 :=
        fun W3 hJ3 hk3 => ⟨k + 1, pre ++ [⟨k, hlt⟩], by omega, by rw [show ((16 * (k + 1) : Nat) : Int) = 16 * (k : Int) + 16 from by omega], by rw [List.map_append, hp, List.range_succ]; rfl, hk3 _ hBw, hJ3⟩
      have gone : ∀ W3, Jx (pre ++ [⟨k, hlt⟩]) W3 → ∃ p, goesSome m p ∧ Jx p W3 :=
        fun W3 h3 => ⟨_, ⟨k + 1, by omega, by rw [List.map_append, hp, List.range_succ]; rfl⟩, h3⟩
      by_cases he : 16 * k + 16 ≤ m
      · have he' : 16 * (k : Int) + 16 ≤ (m : Int) := by omega
        rw [show ((upto m k : Nat) : Int) = 16 * (k : Int) + 16 from by unfold upto; omega] at hy
        gi_wp2
        refine hR.mono ?_
        rintro e W3 (⟨rfl, hJ3, hk3⟩ | ⟨rfl, hJx3⟩)
        · gi_wp2
          go_roundw
          case rel => exact back W3 hJ3 hk3
          case measure => simp [intOf]; omega
        · gi_wp2
          refine bodyPost_ret (results_none rfl _ _ _) rfl ?_
          exact ⟨⟨_, rfl⟩, .inr (gone W3 hJx3)⟩
      · have he' : (m : Int) < 16 * (k : Int) + 16 := by omega
        rw [show ((upto m k : Nat) : Int) = (m : Int) from by unfold upto; omega] at hy
        gi_wp2
        refine hR.mono ?_
        rintro e W3 (⟨rfl, hJ3, hk3⟩ | ⟨rfl, hJx3⟩)
        · gi_wp2
          go_roundw
          case rel => exact back W3 hJ3 hk3
          case measure => simp [intOf]; omega
        · gi_wp2
          refine bodyPost_ret (results_none rfl _ _ _) rfl ?_
          exact ⟨⟨_, rfl⟩, .inr (gone W3 hJx3)⟩
    · have hlt' : (m : Int) ≤ ((16 * k : Nat) : Int) := by omega
      gi_wp2
      go_end0
      obtain rfl : k = (m + 15) / 16 := by omega
      exact ⟨⟨_, rfl⟩, .inl ⟨pre, hp, hJ⟩⟩

/-- What places(m) hands back goes through the places. -/
theorem goes_stops (F : Fence) (n : Nat) (h6 : F.fn 38) (hro : F.round = none) (hn : 1 ≤ n) (Bn m : Nat) (hm : m ≤ 1000000000000) (w : World) (hn₀ : Bn < w.heap.size) (hc : w.cell? ⟨Bn, 0, none⟩ = some (.int .i64 (m : Int))) :
    SeqStopsK F n Tryd.prog 38 #[.pointer (some ⟨Bn, 0, none⟩)] (plEnc m) (KeepC Bn) (goesAll m) (goesSome m) ((m + 15) / 16) w := fun l J Jx W hW _ _ hY h0 =>
  goes_in F n h6 hro hn l Bn m hm J Jx hY W ((hW.cell (p := ⟨Bn, 0, none⟩) hn₀).trans hc) h0
end Go.Proofs.YtnapjloapgfcfaaDoor
