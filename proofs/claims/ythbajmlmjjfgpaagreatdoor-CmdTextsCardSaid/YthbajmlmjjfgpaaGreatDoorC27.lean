/- A part of the proofs. -/
import Derived.Lib.LaidTab
import Derived.Test.YthbajmlmjjfgpaaGreatDoorC26
set_option maxRecDepth 1000000
set_option maxHeartbeats 16000000
open Go.Lib (hid)
open Go.Proofs.Tryz
namespace Go.Proofs.YthbajmlmjjfgpaaGreatDoor
open Go.RowKit Go.Less
attribute [local go_sem 9000] sem_eql sem_neq
def tbl : List (List Bool) := [[false, false, false, false, false], [true, false, false, false, true], [true, false, false, false, true], [true, false, false, false, false], [true, true, false, false, false], [false, true, false, false, false], [true, false, false, false, true], [true, false, false, false, true], [true, false, true, false, false], [true, true, true, true, true], [true, false, false, false, false]]
def tb (k i : Nat) : Bool := (tbl.getD k []).getD i false
def Tn (w : World) : Prop := ∀ k i, k < 11 -> i < 5 -> w.cell? ⟨0, k * 5 + i, none⟩ = some (.bool (tb k i))
theorem Tn.below {w w' : World} (h : Tn w) (hb : Below w.heap.size w w') : Tn w' := λk i hk hi => (hb.cell (p := ⟨0, k * 5 + i, none⟩) (block_lt_of_cell (h k i hk hi))).trans (h k i hk hi)
def mz (b : Bool) (a : Int) : Int := bif b then a else 0
def mb (b : Bool) (a : ByteArray) : ByteArray := bif b then a else ⟨#[]⟩
def onlyC (q : Fs.Cmd) : Fs.Cmd := ⟨q.kind, mz (tb q.kind.toNat 0) q.ino, mz (tb q.kind.toNat 1) q.src, mz (tb q.kind.toNat 2) q.off, mz (tb q.kind.toNat 3) q.from_, mz (tb q.kind.toNat 4) q.n, mb (q.kind == 4 || q.kind == 5) q.name, mb (q.kind == 3 || q.kind == 8) q.data⟩
theorem idx51_0 (b0 b1 b2 b3 b4 : Bool) (w : World) : (Instr.index 165 (.agg #[.bool b0, .bool b1, .bool b2, .bool b3, .bool b4]) (.int .i64 0)).run prog w = .ok (.bool b0) w := by kernel_rfl
theorem idxN_0 (b0 b1 b2 b3 b4 : Int) (w : World) : (Instr.index 95 (.agg #[.int .i64 b0, .int .i64 b1, .int .i64 b2, .int .i64 b3, .int .i64 b4]) (.int .i64 0)).run prog w = .ok (.int .i64 b0) w := by kernel_rfl
theorem idx51_1 (b0 b1 b2 b3 b4 : Bool) (w : World) : (Instr.index 165 (.agg #[.bool b0, .bool b1, .bool b2, .bool b3, .bool b4]) (.int .i64 1)).run prog w = .ok (.bool b1) w := by kernel_rfl
theorem idxN_1 (b0 b1 b2 b3 b4 : Int) (w : World) : (Instr.index 95 (.agg #[.int .i64 b0, .int .i64 b1, .int .i64 b2, .int .i64 b3, .int .i64 b4]) (.int .i64 1)).run prog w = .ok (.int .i64 b1) w := by kernel_rfl
theorem idx51_2 (b0 b1 b2 b3 b4 : Bool) (w : World) : (Instr.index 165 (.agg #[.bool b0, .bool b1, .bool b2, .bool b3, .bool b4]) (.int .i64 2)).run prog w = .ok (.bool b2) w := by kernel_rfl
theorem idxN_2 (b0 b1 b2 b3 b4 : Int) (w : World) : (Instr.index 95 (.agg #[.int .i64 b0, .int .i64 b1, .int .i64 b2, .int .i64 b3, .int .i64 b4]) (.int .i64 2)).run prog w = .ok (.int .i64 b2) w := by kernel_rfl
theorem idx51_3 (b0 b1 b2 b3 b4 : Bool) (w : World) : (Instr.index 165 (.agg #[.bool b0, .bool b1, .bool b2, .bool b3, .bool b4]) (.int .i64 3)).run prog w = .ok (.bool b3) w := by kernel_rfl
theorem idxN_3 (b0 b1 b2 b3 b4 : Int) (w : World) : (Instr.index 95 (.agg #[.int .i64 b0, .int .i64 b1, .int .i64 b2, .int .i64 b3, .int .i64 b4]) (.int .i64 3)).run prog w = .ok (.int .i64 b3) w := by kernel_rfl
theorem idx51_4 (b0 b1 b2 b3 b4 : Bool) (w : World) : (Instr.index 165 (.agg #[.bool b0, .bool b1, .bool b2, .bool b3, .bool b4]) (.int .i64 4)).run prog w = .ok (.bool b4) w := by kernel_rfl
theorem idxN_4 (b0 b1 b2 b3 b4 : Int) (w : World) : (Instr.index 95 (.agg #[.int .i64 b0, .int .i64 b1, .int .i64 b2, .int .i64 b3, .int .i64 b4]) (.int .i64 4)).run prog w = .ok (.int .i64 b4) w := by kernel_rfl
theorem onlyNamed_any (n : Nat) (i0 i1 i2 i3 i4 : Int) (nm da : ByteArray) (w : World) (hT : Tn w) (h1 : n < 11) :
  Calls prog 49 #[.agg #[.int .i64 (n : Int), .int .i64 i0, .int .i64 i1, .int .i64 i2, .int .i64 i3, .int .i64 i4, .string nm, .string da]] w λe w' => e = .returned (.agg (ccs (onlyC ⟨(n : Int), i0, i1, i2, i3, i4, nm, da⟩))) /\ Below w.heap.size w w' := by
 have hn0 : (0 : Int) <= (n : Int) := by omega
 have hn1 : (n : Int) < 11 := by omega
 have HB := hid (show Bxs w [(w.heap.size, #[.int .i64 (n : Int), .int .i64 i0, .int .i64 i1, .int .i64 i2, .int .i64 i3, .int .i64 i4, .string nm, .string da], 23), (w.heap.size + 1, zcc, 23)] ((w.alloc (.cells #[.int .i64 (n : Int), .int .i64 i0, .int .i64 i1, .int .i64 i2, .int .i64 i3, .int .i64 i4, .string nm, .string da] 23)).alloc (.cells zcc 23)) from Bxs.two w _ _ _ _)
 have HNo := hid (λW => (show Calls prog 40 #[.agg #[.int .i64 (n : Int), .int .i64 i0, .int .i64 i1, .int .i64 i2, .int .i64 i3, .int .i64 i4, .string nm, .string da]] W (λe w' => e = .returned (.agg (nms i0 i1 i2 i3 i4)) /\ Below W.heap.size W w') from numbersOf_any ⟨(n : Int), i0, i1, i2, i3, i4, nm, da⟩ W))
 have HTn := hid (λW (hb : Below w.heap.size w W) j (hj : j < 5) => hT.below hb n j h1 hj)
 have HNn := hid (λW => namesName_any (n : Int) W)
 have HNd := hid (λW => namesData_any (n : Int) W)
 obtain ⟨b0, e0⟩ : ∃ b, tb n 0 = b := ⟨_, rfl⟩
 obtain ⟨b1, e1⟩ : ∃ b, tb n 1 = b := ⟨_, rfl⟩
 obtain ⟨b2, e2⟩ : ∃ b, tb n 2 = b := ⟨_, rfl⟩
 obtain ⟨b3, e3⟩ : ∃ b, tb n 3 = b := ⟨_, rfl⟩
 obtain ⟨b4, e4⟩ : ∃ b, tb n 4 = b := ⟨_, rfl⟩
 obtain ⟨B6, e6⟩ : ∃ b, ((n : Int) == 4 || (n : Int) == 5) = b := ⟨_, rfl⟩
 obtain ⟨B7, e7⟩ : ∃ b, ((n : Int) == 3 || (n : Int) == 8) = b := ⟨_, rfl⟩
 have hO : onlyC ⟨(n : Int), i0, i1, i2, i3, i4, nm, da⟩ = ⟨(n : Int), mz b0 i0, mz b1 i1, mz b2 i2, mz b3 i3, mz b4 i4, mb B6 nm, mb B7 da⟩ := by
  unfold onlyC
  dsimp only
  rw [Int.toNat_natCast, e0, e1, e2, e3, e4, e6, e7]
 rw [hO]
 rw [e6] at HNn
 rw [e7] at HNd
 have HTc := hid (show ∀ W, Below w.heap.size w W -> W.cell? ⟨0, n * 5, none⟩ = some (.bool b0) /\ W.cell? ⟨0, n * 5 + 1, none⟩ = some (.bool b1) /\ W.cell? ⟨0, n * 5 + 2, none⟩ = some (.bool b2) /\ W.cell? ⟨0, n * 5 + 3, none⟩ = some (.bool b3) /\ W.cell? ⟨0, n * 5 + 4, none⟩ = some (.bool b4) from λW hb => by
  rw [<- e0, <- e1, <- e2, <- e3, <- e4]
  exact ⟨HTn.out W hb 0 (by decide), HTn.out W hb 1 (by decide), HTn.out W hb 2 (by decide), HTn.out W hb 3 (by decide), HTn.out W hb 4 (by decide)⟩)
 clear hO HTn hT h1 e0 e1 e2 e3 e4 e6 e7
 go_enter func49, ntmps49
 go_wp2_with fail
 generalize (w.alloc (.cells #[.int .i64 (n : Int), .int .i64 i0, .int .i64 i1, .int .i64 i2, .int .i64 i3, .int .i64 i4, .string nm, .string da] 23)).alloc (.cells #[.int .i64 0, .int .i64 0, .int .i64 0, .int .i64 0, .int .i64 0, .int .i64 0, .string ⟨#[]⟩, .string ⟨#[]⟩] 23) = W0 at HB |-
 refine (HNo.out W0).mono ?_
 rintro e w1 ⟨rfl, hb⟩
 have HB := hid ((HB.out.kept hb).more #[.int .i64 i0, .int .i64 i1, .int .i64 i2, .int .i64 i3, .int .i64 i4] 95 rfl)
 clear hb HNo
 have hk : (w1.alloc (.cells #[.int .i64 i0, .int .i64 i1, .int .i64 i2, .int .i64 i3, .int .i64 i4] 95)).cell? ⟨w.heap.size, 0, none⟩ = some (.int .i64 (n : Int)) := HB.out.cell 0 rfl 0
 obtain ⟨t0, t1, t2, t3, t4⟩ := HTc.out _ HB.out.below
 dsimp only
 go_wp2_with fail
 clear hk t0 t1 t2 t3 t4 HTc
 generalize w1.alloc (.cells #[.int .i64 i0, .int .i64 i1, .int .i64 i2, .int .i64 i3, .int .i64 i4] 95) = W1 at HB |-
 generalize w1.heap.size = P at HB |-
 go_loopw [4, 5, 13] (λ_ _ x13 wr => (x13 = .int .i64 0 /\ Bxs w [(w.heap.size, #[.int .i64 (n : Int), .int .i64 i0, .int .i64 i1, .int .i64 i2, .int .i64 i3, .int .i64 i4, .string nm, .string da], 23), (w.heap.size + 1, zcc, 23), (P, #[.int .i64 i0, .int .i64 i1, .int .i64 i2, .int .i64 i3, .int .i64 i4], 95)] wr) \/ (x13 = .int .i64 1 /\ Bxs w [(w.heap.size, #[.int .i64 (n : Int), .int .i64 i0, .int .i64 i1, .int .i64 i2, .int .i64 i3, .int .i64 i4, .string nm, .string da], 23), (w.heap.size + 1, zcc, 23), (P, #[.int .i64 (mz b0 i0), .int .i64 i1, .int .i64 i2, .int .i64 i3, .int .i64 i4], 95)] wr) \/ (x13 = .int .i64 2 /\ Bxs w [(w.heap.size, #[.int .i64 (n : Int), .int .i64 i0, .int .i64 i1, .int .i64 i2, .int .i64 i3, .int .i64 i4, .string nm, .string da], 23), (w.heap.size + 1, zcc, 23), (P, #[.int .i64 (mz b0 i0), .int .i64 (mz b1 i1), .int .i64 i2, .int .i64 i3, .int .i64 i4], 95)] wr) \/ (x13 = .int .i64 3 /\ Bxs w [(w.heap.size, #[.int .i64 (n : Int), .int .i64 i0, .int .i64 i1, .int .i64 i2, .int .i64 i3, .int .i64 i4, .string nm, .string da], 23), (w.heap.size + 1, zcc, 23), (P, #[.int .i64 (mz b0 i0), .int .i64 (mz b1 i1), .int .i64 (mz b2 i2), .int .i64 i3, .int .i64 i4], 95)] wr) \/ (x13 = .int .i64 4 /\ Bxs w [(w.heap.size, #[.int .i64 (n : Int), .int .i64 i0, .int .i64 i1, .int .i64 i2, .int .i64 i3, .int .i64 i4, .string nm, .string da], 23), (w.heap.size + 1, zcc, 23), (P, #[.int .i64 (mz b0 i0), .int .i64 (mz b1 i1), .int .i64 (mz b2 i2), .int .i64 (mz b3 i3), .int .i64 i4], 95)] wr) \/ (x13 = .int .i64 5 /\ Bxs w [(w.heap.size, #[.int .i64 (n : Int), .int .i64 i0, .int .i64 i1, .int .i64 i2, .int .i64 i3, .int .i64 i4, .string nm, .string da], 23), (w.heap.size + 1, zcc, 23), (P, #[.int .i64 (mz b0 i0), .int .i64 (mz b1 i1), .int .i64 (mz b2 i2), .int .i64 (mz b3 i3), .int .i64 (mz b4 i4)], 95)] wr)) (λ_ _ x13 _ => 5 - (intOf x13).toNat)
 case atStart => exact .inl ⟨rfl, HB.out⟩
 case round =>
  clear HB
  rcases hrel with ⟨rfl, hB⟩ | ⟨rfl, hB⟩ | ⟨rfl, hB⟩ | ⟨rfl, hB⟩ | ⟨rfl, hB⟩ | ⟨rfl, hB⟩
  ·have HB := hid hB
   clear hB
   have hix := idx51_0
   cases b0 with
   | true =>
    have HB2 := hid (show Bxs w [(w.heap.size, #[.int .i64 (n : Int), .int .i64 i0, .int .i64 i1, .int .i64 i2, .int .i64 i3, .int .i64 i4, .string nm, .string da], 23), (w.heap.size + 1, zcc, 23), (P, #[.int .i64 (mz true i0), .int .i64 i1, .int .i64 i2, .int .i64 i3, .int .i64 i4], 95)] wr from HB.out)
    go_wp2_with fail
    go_roundw
    case rel => exact .inr (.inl ⟨by go_num, HB2.out⟩)
    case measure => simp [intOf]
   | false =>
    have HB2 := hid (show Bxs w [(w.heap.size, #[.int .i64 (n : Int), .int .i64 i0, .int .i64 i1, .int .i64 i2, .int .i64 i3, .int .i64 i4, .string nm, .string da], 23), (w.heap.size + 1, zcc, 23), (P, #[.int .i64 (mz false i0), .int .i64 i1, .int .i64 i2, .int .i64 i3, .int .i64 i4], 95)] (wr.setCell ⟨P, 0, none⟩ (.int .i64 0)) from HB.out.put 2 rfl 0 (.int .i64 0))
    have hx := HB.out.c5 2 rfl
    have fz : wr.frozen? ⟨P, 0, none⟩ = false := HB.out.free 2 rfl 0
    go_wp2_with fail
    go_roundw
    case rel => exact .inr (.inl ⟨by go_num, HB2.out⟩)
    case measure => simp [intOf]
  ·have HB := hid hB
   clear hB
   have hix := idx51_1
   cases b1 with
   | true =>
    have HB2 := hid (show Bxs w [(w.heap.size, #[.int .i64 (n : Int), .int .i64 i0, .int .i64 i1, .int .i64 i2, .int .i64 i3, .int .i64 i4, .string nm, .string da], 23), (w.heap.size + 1, zcc, 23), (P, #[.int .i64 (mz b0 i0), .int .i64 (mz true i1), .int .i64 i2, .int .i64 i3, .int .i64 i4], 95)] wr from HB.out)
    go_wp2_with fail
    go_roundw
    case rel => exact .inr (.inr (.inl ⟨by go_num, HB2.out⟩))
    case measure => simp [intOf]
   | false =>
    have HB2 := hid (show Bxs w [(w.heap.size, #[.int .i64 (n : Int), .int .i64 i0, .int .i64 i1, .int .i64 i2, .int .i64 i3, .int .i64 i4, .string nm, .string da], 23), (w.heap.size + 1, zcc, 23), (P, #[.int .i64 (mz b0 i0), .int .i64 (mz false i1), .int .i64 i2, .int .i64 i3, .int .i64 i4], 95)] (wr.setCell ⟨P, 1, none⟩ (.int .i64 0)) from HB.out.put 2 rfl 1 (.int .i64 0))
    have hx := HB.out.c5 2 rfl
    have fz : wr.frozen? ⟨P, 1, none⟩ = false := HB.out.free 2 rfl 1
    go_wp2_with fail
    go_roundw
    case rel => exact .inr (.inr (.inl ⟨by go_num, HB2.out⟩))
    case measure => simp [intOf]
  ·have HB := hid hB
   clear hB
   have hix := idx51_2
   cases b2 with
   | true =>
    have HB2 := hid (show Bxs w [(w.heap.size, #[.int .i64 (n : Int), .int .i64 i0, .int .i64 i1, .int .i64 i2, .int .i64 i3, .int .i64 i4, .string nm, .string da], 23), (w.heap.size + 1, zcc, 23), (P, #[.int .i64 (mz b0 i0), .int .i64 (mz b1 i1), .int .i64 (mz true i2), .int .i64 i3, .int .i64 i4], 95)] wr from HB.out)
    go_wp2_with fail
    go_roundw
    case rel => exact .inr (.inr (.inr (.inl ⟨by go_num, HB2.out⟩)))
    case measure => simp [intOf]
   | false =>
    have HB2 := hid (show Bxs w [(w.heap.size, #[.int .i64 (n : Int), .int .i64 i0, .int .i64 i1, .int .i64 i2, .int .i64 i3, .int .i64 i4, .string nm, .string da], 23), (w.heap.size + 1, zcc, 23), (P, #[.int .i64 (mz b0 i0), .int .i64 (mz b1 i1), .int .i64 (mz false i2), .int .i64 i3, .int .i64 i4], 95)] (wr.setCell ⟨P, 2, none⟩ (.int .i64 0)) from HB.out.put 2 rfl 2 (.int .i64 0))
    have hx := HB.out.c5 2 rfl
    have fz : wr.frozen? ⟨P, 2, none⟩ = false := HB.out.free 2 rfl 2
    go_wp2_with fail
    go_roundw
    case rel => exact .inr (.inr (.inr (.inl ⟨by go_num, HB2.out⟩)))
    case measure => simp [intOf]
  ·have HB := hid hB
   clear hB
   have hix := idx51_3
   cases b3 with
   | true =>
    have HB2 := hid (show Bxs w [(w.heap.size, #[.int .i64 (n : Int), .int .i64 i0, .int .i64 i1, .int .i64 i2, .int .i64 i3, .int .i64 i4, .string nm, .string da], 23), (w.heap.size + 1, zcc, 23), (P, #[.int .i64 (mz b0 i0), .int .i64 (mz b1 i1), .int .i64 (mz b2 i2), .int .i64 (mz true i3), .int .i64 i4], 95)] wr from HB.out)
    go_wp2_with fail
    go_roundw
    case rel => exact .inr (.inr (.inr (.inr (.inl ⟨by go_num, HB2.out⟩))))
    case measure => simp [intOf]
   | false =>
    have HB2 := hid (show Bxs w [(w.heap.size, #[.int .i64 (n : Int), .int .i64 i0, .int .i64 i1, .int .i64 i2, .int .i64 i3, .int .i64 i4, .string nm, .string da], 23), (w.heap.size + 1, zcc, 23), (P, #[.int .i64 (mz b0 i0), .int .i64 (mz b1 i1), .int .i64 (mz b2 i2), .int .i64 (mz false i3), .int .i64 i4], 95)] (wr.setCell ⟨P, 3, none⟩ (.int .i64 0)) from HB.out.put 2 rfl 3 (.int .i64 0))
    have hx := HB.out.c5 2 rfl
    have fz : wr.frozen? ⟨P, 3, none⟩ = false := HB.out.free 2 rfl 3
    go_wp2_with fail
    go_roundw
    case rel => exact .inr (.inr (.inr (.inr (.inl ⟨by go_num, HB2.out⟩))))
    case measure => simp [intOf]
  ·have HB := hid hB
   clear hB
   have hix := idx51_4
   cases b4 with
   | true =>
    have HB2 := hid (show Bxs w [(w.heap.size, #[.int .i64 (n : Int), .int .i64 i0, .int .i64 i1, .int .i64 i2, .int .i64 i3, .int .i64 i4, .string nm, .string da], 23), (w.heap.size + 1, zcc, 23), (P, #[.int .i64 (mz b0 i0), .int .i64 (mz b1 i1), .int .i64 (mz b2 i2), .int .i64 (mz b3 i3), .int .i64 (mz true i4)], 95)] wr from HB.out)
    go_wp2_with fail
    go_roundw
    case rel => exact .inr (.inr (.inr (.inr (.inr (⟨by go_num, HB2.out⟩)))))
    case measure => simp [intOf]
   | false =>
    have HB2 := hid (show Bxs w [(w.heap.size, #[.int .i64 (n : Int), .int .i64 i0, .int .i64 i1, .int .i64 i2, .int .i64 i3, .int .i64 i4, .string nm, .string da], 23), (w.heap.size + 1, zcc, 23), (P, #[.int .i64 (mz b0 i0), .int .i64 (mz b1 i1), .int .i64 (mz b2 i2), .int .i64 (mz b3 i3), .int .i64 (mz false i4)], 95)] (wr.setCell ⟨P, 4, none⟩ (.int .i64 0)) from HB.out.put 2 rfl 4 (.int .i64 0))
    have hx := HB.out.c5 2 rfl
    have fz : wr.frozen? ⟨P, 4, none⟩ = false := HB.out.free 2 rfl 4
    go_wp2_with fail
    go_roundw
    case rel => exact .inr (.inr (.inr (.inr (.inr (⟨by go_num, HB2.out⟩)))))
    case measure => simp [intOf]
  ·have HB := hid hB
   clear hB
   have HOf := hid (λW => ofNumbers_any (n : Int) (mz b0 i0) (mz b1 i1) (mz b2 i2) (mz b3 i3) (mz b4 i4) W)
   obtain ⟨z0, hz0⟩ : ∃ z, mz b0 i0 = z := ⟨_, rfl⟩
   rw [hz0] at HB HOf
   obtain ⟨z1, hz1⟩ : ∃ z, mz b1 i1 = z := ⟨_, rfl⟩
   rw [hz1] at HB HOf
   obtain ⟨z2, hz2⟩ : ∃ z, mz b2 i2 = z := ⟨_, rfl⟩
   rw [hz2] at HB HOf
   obtain ⟨z3, hz3⟩ : ∃ z, mz b3 i3 = z := ⟨_, rfl⟩
   rw [hz3] at HB HOf
   obtain ⟨z4, hz4⟩ : ∃ z, mz b4 i4 = z := ⟨_, rfl⟩
   rw [hz4] at HB HOf
   have HZ := hid (And.intro hz0 (And.intro hz1 (And.intro hz2 (And.intro hz3 hz4))))
   clear hz0 hz1 hz2 hz3 hz4
   have hx := HB.out.c5 2 rfl
   have hk : wr.cell? ⟨w.heap.size, 0, none⟩ = some (.int .i64 (n : Int)) := HB.out.cell 0 rfl 0
   go_wp2_with fail
   refine (HOf.out wr).mono ?_
   rintro e w3 ⟨rfl, hb⟩
   have HBk := hid (HB.out.kept hb)
   clear hb hx hk HB
   have HB := hid (HBk.out.more #[.int .i64 (n : Int), .int .i64 z0, .int .i64 z1, .int .i64 z2, .int .i64 z3, .int .i64 z4, .string ⟨#[]⟩, .string ⟨#[]⟩] 23 rfl)
   have hk : (w3.alloc (.cells #[.int .i64 (n : Int), .int .i64 z0, .int .i64 z1, .int .i64 z2, .int .i64 z3, .int .i64 z4, .string ⟨#[]⟩, .string ⟨#[]⟩] 23)).cell? ⟨w.heap.size, 0, none⟩ = some (.int .i64 (n : Int)) := HB.out.cell 0 rfl 0
   have hm : (w3.alloc (.cells #[.int .i64 (n : Int), .int .i64 z0, .int .i64 z1, .int .i64 z2, .int .i64 z3, .int .i64 z4, .string ⟨#[]⟩, .string ⟨#[]⟩] 23)).cell? ⟨w.heap.size, 6, none⟩ = some (.string nm) := HB.out.cell 0 rfl 6
   dsimp only
   go_wp2_with fail
   refine (HNn.out _).mono ?_
   rintro e w4 ⟨rfl, rfl⟩
   dsimp only
   cases B6 with
   | false =>
    have HB := hid (HBk.out.more #[.int .i64 (n : Int), .int .i64 z0, .int .i64 z1, .int .i64 z2, .int .i64 z3, .int .i64 z4, .string ⟨#[]⟩, .string ⟨#[]⟩] 23 rfl)
    have hk2 : (w3.alloc (.cells #[.int .i64 (n : Int), .int .i64 z0, .int .i64 z1, .int .i64 z2, .int .i64 z3, .int .i64 z4, .string ⟨#[]⟩, .string ⟨#[]⟩] 23)).cell? ⟨w.heap.size, 0, none⟩ = some (.int .i64 (n : Int)) := HB.out.cell 0 rfl 0
    have hd : (w3.alloc (.cells #[.int .i64 (n : Int), .int .i64 z0, .int .i64 z1, .int .i64 z2, .int .i64 z3, .int .i64 z4, .string ⟨#[]⟩, .string ⟨#[]⟩] 23)).cell? ⟨w.heap.size, 7, none⟩ = some (.string da) := HB.out.cell 0 rfl 7
    go_wp2_with fail
    refine (HNd.out _).mono ?_
    rintro e w5 ⟨rfl, rfl⟩
    clear hk hm
    dsimp only
    cases B7 with
    | false =>
     have HB := hid (HBk.out.more #[.int .i64 (n : Int), .int .i64 z0, .int .i64 z1, .int .i64 z2, .int .i64 z3, .int .i64 z4, .string ⟨#[]⟩, .string ⟨#[]⟩] 23 rfl)
     have hy := HB.out.c8 3 rfl
     go_wp2_with (first | (refine store_bx HB.out 1 rfl 23 _ _ rfl rfl #[.int .i64 (n : Int), .int .i64 z0, .int .i64 z1, .int .i64 z2, .int .i64 z3, .int .i64 z4, .string ⟨#[]⟩, .string ⟨#[]⟩] rfl rfl (by kernel_rfl) rfl rfl (by decide) (by decide) ?_; intro w9 hS hK9 hbS hsS; have HBS := hid hS; clear hS hK9 hbS hsS) | fail)
     refine bodyPost_ret_by (results_cmd rfl _ _ (w.heap.size + 1) _ _ _ _ _ _ _ _ rfl (HBS.out.obj 1 rfl)) rfl ?_
     exact ⟨by rw [HZ.out.1, HZ.out.2.1, HZ.out.2.2.1, HZ.out.2.2.2.1, HZ.out.2.2.2.2]; rfl, HBS.out.below⟩
    | true =>
     have HB := hid (HBk.out.more #[.int .i64 (n : Int), .int .i64 z0, .int .i64 z1, .int .i64 z2, .int .i64 z3, .int .i64 z4, .string ⟨#[]⟩, .string da] 23 rfl)
     have hy := HB.out.c8 3 rfl
     go_wp2_with (first | (refine store_bx HB.out 1 rfl 23 _ _ rfl rfl #[.int .i64 (n : Int), .int .i64 z0, .int .i64 z1, .int .i64 z2, .int .i64 z3, .int .i64 z4, .string ⟨#[]⟩, .string da] rfl rfl (by kernel_rfl) rfl rfl (by decide) (by decide) ?_; intro w9 hS hK9 hbS hsS; have HBS := hid hS; clear hS hK9 hbS hsS) | fail)
     refine bodyPost_ret_by (results_cmd rfl _ _ (w.heap.size + 1) _ _ _ _ _ _ _ _ rfl (HBS.out.obj 1 rfl)) rfl ?_
     exact ⟨by rw [HZ.out.1, HZ.out.2.1, HZ.out.2.2.1, HZ.out.2.2.2.1, HZ.out.2.2.2.2]; rfl, HBS.out.below⟩
   | true =>
    have HB := hid (HBk.out.more #[.int .i64 (n : Int), .int .i64 z0, .int .i64 z1, .int .i64 z2, .int .i64 z3, .int .i64 z4, .string nm, .string ⟨#[]⟩] 23 rfl)
    have hk2 : (w3.alloc (.cells #[.int .i64 (n : Int), .int .i64 z0, .int .i64 z1, .int .i64 z2, .int .i64 z3, .int .i64 z4, .string nm, .string ⟨#[]⟩] 23)).cell? ⟨w.heap.size, 0, none⟩ = some (.int .i64 (n : Int)) := HB.out.cell 0 rfl 0
    have hd : (w3.alloc (.cells #[.int .i64 (n : Int), .int .i64 z0, .int .i64 z1, .int .i64 z2, .int .i64 z3, .int .i64 z4, .string nm, .string ⟨#[]⟩] 23)).cell? ⟨w.heap.size, 7, none⟩ = some (.string da) := HB.out.cell 0 rfl 7
    go_wp2_with fail
    refine (HNd.out _).mono ?_
    rintro e w5 ⟨rfl, rfl⟩
    clear hk hm
    dsimp only
    cases B7 with
    | false =>
     have HB := hid (HBk.out.more #[.int .i64 (n : Int), .int .i64 z0, .int .i64 z1, .int .i64 z2, .int .i64 z3, .int .i64 z4, .string nm, .string ⟨#[]⟩] 23 rfl)
     have hy := HB.out.c8 3 rfl
     go_wp2_with (first | (refine store_bx HB.out 1 rfl 23 _ _ rfl rfl #[.int .i64 (n : Int), .int .i64 z0, .int .i64 z1, .int .i64 z2, .int .i64 z3, .int .i64 z4, .string nm, .string ⟨#[]⟩] rfl rfl (by kernel_rfl) rfl rfl (by decide) (by decide) ?_; intro w9 hS hK9 hbS hsS; have HBS := hid hS; clear hS hK9 hbS hsS) | fail)
     refine bodyPost_ret_by (results_cmd rfl _ _ (w.heap.size + 1) _ _ _ _ _ _ _ _ rfl (HBS.out.obj 1 rfl)) rfl ?_
     exact ⟨by rw [HZ.out.1, HZ.out.2.1, HZ.out.2.2.1, HZ.out.2.2.2.1, HZ.out.2.2.2.2]; rfl, HBS.out.below⟩
    | true =>
     have HB := hid (HBk.out.more #[.int .i64 (n : Int), .int .i64 z0, .int .i64 z1, .int .i64 z2, .int .i64 z3, .int .i64 z4, .string nm, .string da] 23 rfl)
     have hy := HB.out.c8 3 rfl
     go_wp2_with (first | (refine store_bx HB.out 1 rfl 23 _ _ rfl rfl #[.int .i64 (n : Int), .int .i64 z0, .int .i64 z1, .int .i64 z2, .int .i64 z3, .int .i64 z4, .string nm, .string da] rfl rfl (by kernel_rfl) rfl rfl (by decide) (by decide) ?_; intro w9 hS hK9 hbS hsS; have HBS := hid hS; clear hS hK9 hbS hsS) | fail)
     refine bodyPost_ret_by (results_cmd rfl _ _ (w.heap.size + 1) _ _ _ _ _ _ _ _ rfl (HBS.out.obj 1 rfl)) rfl ?_
     exact ⟨by rw [HZ.out.1, HZ.out.2.1, HZ.out.2.2.1, HZ.out.2.2.2.1, HZ.out.2.2.2.2]; rfl, HBS.out.below⟩
end Go.Proofs.YthbajmlmjjfgpaaGreatDoor
namespace Go.Proofs.YthbajmlmjjfgpaaGreatDoor
open Go.RowKit Go.Less
attribute [local go_sem 9000] sem_eql sem_neq eql_cmd80
def inN (a : Int) : Bool := decide (0 <= a /\ a <= 2147483647)
def rightC (q : Fs.Cmd) : Bool := decide (1 <= q.kind /\ q.kind <= 10) && (decide (q.name.size <= 16 /\ q.data.size <= 4096) && (inN q.ino && (inN q.src && (inN q.off && (inN q.from_ && (inN q.n && sameC q (onlyC q)))))))
theorem inN_low {a : Int} (h : a < 0) : inN a = false := decide_eq_false (by omega)
theorem inN_high {a : Int} (h : 2147483647 < a) : inN a = false := decide_eq_false (by omega)
theorem inN_in {a : Int} (h : ¬ a < 0) (h2 : ¬ 2147483647 < a) : inN a = true := decide_eq_true (by omega)
theorem rightC_any (kd i0 i1 i2 i3 i4 : Int) (nm da : ByteArray) (w : World) (hT : Tn w) :
  Calls prog 12 #[.agg #[.int .i64 kd, .int .i64 i0, .int .i64 i1, .int .i64 i2, .int .i64 i3, .int .i64 i4, .string nm, .string da]] w λe w' => e = .returned (.bool (rightC ⟨kd, i0, i1, i2, i3, i4, nm, da⟩)) /\ Below w.heap.size w w' := by
 have HB := hid (show Bxs w [(w.heap.size, #[.int .i64 kd, .int .i64 i0, .int .i64 i1, .int .i64 i2, .int .i64 i3, .int .i64 i4, .string nm, .string da], 23)] (w.alloc (.cells #[.int .i64 kd, .int .i64 i0, .int .i64 i1, .int .i64 i2, .int .i64 i3, .int .i64 i4, .string nm, .string da] 23)) from Bxs.one w _ _)
 by_cases k1 : kd < 1
 ·have HR := hid (show rightC ⟨kd, i0, i1, i2, i3, i4, nm, da⟩ = false by unfold rightC; rw [decide_eq_false (by dsimp only; omega)]; rfl)
  go_enter func12, ntmps12
  go_wp2_with fail
  go_ret
  exact ⟨by rw [HR.out]; rfl, HB.out.below⟩
 by_cases k2 : 11 <= kd
 ·have HR := hid (show rightC ⟨kd, i0, i1, i2, i3, i4, nm, da⟩ = false by unfold rightC; rw [decide_eq_false (by dsimp only; omega)]; rfl)
  go_enter func12, ntmps12
  go_wp2_with fail
  go_ret
  exact ⟨by rw [HR.out]; rfl, HB.out.below⟩
 have hk : decide (1 <= kd /\ kd <= 10) = true := decide_eq_true (by omega)
 by_cases n1 : 16 < nm.size
 ·have n1i : (16 : Int) < (nm.size : Int) := by omega
  have HR := hid (show rightC ⟨kd, i0, i1, i2, i3, i4, nm, da⟩ = false by unfold rightC; dsimp only; rw [hk, decide_eq_false (p := nm.size <= 16 /\ da.size <= 4096) (by omega)]; rfl)
  clear hk n1
  go_enter func12, ntmps12
  go_wp2_with fail
  go_ret
  exact ⟨by rw [HR.out]; rfl, HB.out.below⟩
 have n1i : ¬ (16 : Int) < (nm.size : Int) := by omega
 by_cases d1 : 4096 < da.size
 ·have d1i : (4096 : Int) < (da.size : Int) := by omega
  have HR := hid (show rightC ⟨kd, i0, i1, i2, i3, i4, nm, da⟩ = false by unfold rightC; dsimp only; rw [hk, decide_eq_false (p := nm.size <= 16 /\ da.size <= 4096) (by omega)]; rfl)
  clear hk n1 d1
  go_enter func12, ntmps12
  go_wp2_with fail
  go_ret
  exact ⟨by rw [HR.out]; rfl, HB.out.below⟩
 have d1i : ¬ (4096 : Int) < (da.size : Int) := by omega
 have HR := hid (show rightC ⟨kd, i0, i1, i2, i3, i4, nm, da⟩ = (inN i0 && (inN i1 && (inN i2 && (inN i3 && (inN i4 && sameC ⟨kd, i0, i1, i2, i3, i4, nm, da⟩ (onlyC ⟨kd, i0, i1, i2, i3, i4, nm, da⟩)))))) by unfold rightC; dsimp only; rw [hk, decide_eq_true (p := nm.size <= 16 /\ da.size <= 4096) (by omega)]; rfl)
 rw [HR.out]
 clear hk n1 d1 HR
 have HNo := hid (λW => (show Calls prog 40 #[.agg #[.int .i64 kd, .int .i64 i0, .int .i64 i1, .int .i64 i2, .int .i64 i3, .int .i64 i4, .string nm, .string da]] W (λe w' => e = .returned (.agg (nms i0 i1 i2 i3 i4)) /\ Below W.heap.size W w') from numbersOf_any ⟨kd, i0, i1, i2, i3, i4, nm, da⟩ W))
 have HOn := hid (show ∀ W, Below w.heap.size w W -> Calls prog 49 #[.agg #[.int .i64 kd, .int .i64 i0, .int .i64 i1, .int .i64 i2, .int .i64 i3, .int .i64 i4, .string nm, .string da]] W (λe w' => e = .returned (.agg (ccs (onlyC ⟨kd, i0, i1, i2, i3, i4, nm, da⟩))) /\ Below W.heap.size W w') from λW hb => by
  obtain ⟨n, rfl⟩ : ∃ n : Nat, kd = n := ⟨kd.toNat, by omega⟩
  exact onlyNamed_any n i0 i1 i2 i3 i4 nm da W (hT.below hb) (by omega))
 generalize onlyC ⟨kd, i0, i1, i2, i3, i4, nm, da⟩ = y at *
 obtain ⟨yk, y0, y1, y2, y3, y4, yn, yd⟩ := y
 clear hT
 go_enter func12, ntmps12
 go_wp2_with fail
 generalize w.alloc (.cells #[.int .i64 kd, .int .i64 i0, .int .i64 i1, .int .i64 i2, .int .i64 i3, .int .i64 i4, .string nm, .string da] 23) = W0 at HB |-
 refine (HNo.out W0).mono ?_
 rintro e w1 ⟨rfl, hb⟩
 have HB := hid (HB.out.kept hb)
 clear hb HNo
 dsimp only
 go_wp2_with fail
 go_loopw [4, 25] (λ_ x25 wr => (x25 = .int .i64 0 /\ Bxs w [(w.heap.size, #[.int .i64 kd, .int .i64 i0, .int .i64 i1, .int .i64 i2, .int .i64 i3, .int .i64 i4, .string nm, .string da], 23)] wr) \/ (x25 = .int .i64 1 /\ inN i0 = true /\ Bxs w [(w.heap.size, #[.int .i64 kd, .int .i64 i0, .int .i64 i1, .int .i64 i2, .int .i64 i3, .int .i64 i4, .string nm, .string da], 23)] wr) \/ (x25 = .int .i64 2 /\ inN i0 = true /\ inN i1 = true /\ Bxs w [(w.heap.size, #[.int .i64 kd, .int .i64 i0, .int .i64 i1, .int .i64 i2, .int .i64 i3, .int .i64 i4, .string nm, .string da], 23)] wr) \/ (x25 = .int .i64 3 /\ inN i0 = true /\ inN i1 = true /\ inN i2 = true /\ Bxs w [(w.heap.size, #[.int .i64 kd, .int .i64 i0, .int .i64 i1, .int .i64 i2, .int .i64 i3, .int .i64 i4, .string nm, .string da], 23)] wr) \/ (x25 = .int .i64 4 /\ inN i0 = true /\ inN i1 = true /\ inN i2 = true /\ inN i3 = true /\ Bxs w [(w.heap.size, #[.int .i64 kd, .int .i64 i0, .int .i64 i1, .int .i64 i2, .int .i64 i3, .int .i64 i4, .string nm, .string da], 23)] wr) \/ (x25 = .int .i64 5 /\ inN i0 = true /\ inN i1 = true /\ inN i2 = true /\ inN i3 = true /\ inN i4 = true /\ Bxs w [(w.heap.size, #[.int .i64 kd, .int .i64 i0, .int .i64 i1, .int .i64 i2, .int .i64 i3, .int .i64 i4, .string nm, .string da], 23)] wr)) (λ_ x25 _ => 5 - (intOf x25).toNat)
 case atStart => exact .inl ⟨rfl, HB.out⟩
 case round =>
  clear HB
  rcases hrel with ⟨rfl, hB⟩ | ⟨rfl, r0, hB⟩ | ⟨rfl, r0, r1, hB⟩ | ⟨rfl, r0, r1, r2, hB⟩ | ⟨rfl, r0, r1, r2, r3, hB⟩ | ⟨rfl, r0, r1, r2, r3, r4, hB⟩
  ·have HB := hid hB
   have HQ := hid (trivial)
   clear hB
   have hix := idxN_0
   by_cases l0 : i0 < 0
   ·have HI := hid (inN_low l0)
    go_wp2_with fail
    go_ret
    exact ⟨by rw [HI.out]; rfl, HB.out.below⟩
   by_cases u0 : 2147483647 < i0
   ·have HI := hid (inN_high u0)
    go_wp2_with fail
    go_ret
    exact ⟨by rw [HI.out]; rfl, HB.out.below⟩
   have HI := hid (inN_in l0 u0)
   go_wp2_with fail
   go_roundw
   case rel => exact .inr (.inl ⟨by go_num, HI.out, HB.out⟩)
   case measure => simp [intOf]
  ·have HB := hid hB
   have HQ := hid ((And.intro r0 trivial))
   clear hB r0
   have hix := idxN_1
   by_cases l1 : i1 < 0
   ·have HI := hid (inN_low l1)
    go_wp2_with fail
    go_ret
    exact ⟨by rw [HQ.out.1, HI.out]; rfl, HB.out.below⟩
   by_cases u1 : 2147483647 < i1
   ·have HI := hid (inN_high u1)
    go_wp2_with fail
    go_ret
    exact ⟨by rw [HQ.out.1, HI.out]; rfl, HB.out.below⟩
   have HI := hid (inN_in l1 u1)
   go_wp2_with fail
   go_roundw
   case rel => exact .inr (.inr (.inl ⟨by go_num, HQ.out.1, HI.out, HB.out⟩))
   case measure => simp [intOf]
  ·have HB := hid hB
   have HQ := hid ((And.intro r0 (And.intro r1 trivial)))
   clear hB r0 r1
   have hix := idxN_2
   by_cases l2 : i2 < 0
   ·have HI := hid (inN_low l2)
    go_wp2_with fail
    go_ret
    exact ⟨by rw [HQ.out.1, HQ.out.2.1, HI.out]; rfl, HB.out.below⟩
   by_cases u2 : 2147483647 < i2
   ·have HI := hid (inN_high u2)
    go_wp2_with fail
    go_ret
    exact ⟨by rw [HQ.out.1, HQ.out.2.1, HI.out]; rfl, HB.out.below⟩
   have HI := hid (inN_in l2 u2)
   go_wp2_with fail
   go_roundw
   case rel => exact .inr (.inr (.inr (.inl ⟨by go_num, HQ.out.1, HQ.out.2.1, HI.out, HB.out⟩)))
   case measure => simp [intOf]
  ·have HB := hid hB
   have HQ := hid ((And.intro r0 (And.intro r1 (And.intro r2 trivial))))
   clear hB r0 r1 r2
   have hix := idxN_3
   by_cases l3 : i3 < 0
   ·have HI := hid (inN_low l3)
    go_wp2_with fail
    go_ret
    exact ⟨by rw [HQ.out.1, HQ.out.2.1, HQ.out.2.2.1, HI.out]; rfl, HB.out.below⟩
   by_cases u3 : 2147483647 < i3
   ·have HI := hid (inN_high u3)
    go_wp2_with fail
    go_ret
    exact ⟨by rw [HQ.out.1, HQ.out.2.1, HQ.out.2.2.1, HI.out]; rfl, HB.out.below⟩
   have HI := hid (inN_in l3 u3)
   go_wp2_with fail
   go_roundw
   case rel => exact .inr (.inr (.inr (.inr (.inl ⟨by go_num, HQ.out.1, HQ.out.2.1, HQ.out.2.2.1, HI.out, HB.out⟩))))
   case measure => simp [intOf]
  ·have HB := hid hB
   have HQ := hid ((And.intro r0 (And.intro r1 (And.intro r2 (And.intro r3 trivial)))))
   clear hB r0 r1 r2 r3
   have hix := idxN_4
   by_cases l4 : i4 < 0
   ·have HI := hid (inN_low l4)
    go_wp2_with fail
    go_ret
    exact ⟨by rw [HQ.out.1, HQ.out.2.1, HQ.out.2.2.1, HQ.out.2.2.2.1, HI.out]; rfl, HB.out.below⟩
   by_cases u4 : 2147483647 < i4
   ·have HI := hid (inN_high u4)
    go_wp2_with fail
    go_ret
    exact ⟨by rw [HQ.out.1, HQ.out.2.1, HQ.out.2.2.1, HQ.out.2.2.2.1, HI.out]; rfl, HB.out.below⟩
   have HI := hid (inN_in l4 u4)
   go_wp2_with fail
   go_roundw
   case rel => exact .inr (.inr (.inr (.inr (.inr (⟨by go_num, HQ.out.1, HQ.out.2.1, HQ.out.2.2.1, HQ.out.2.2.2.1, HI.out, HB.out⟩)))))
   case measure => simp [intOf]
  ·have HB := hid hB
   have HQ := hid ((And.intro r0 (And.intro r1 (And.intro r2 (And.intro r3 (And.intro r4 trivial))))))
   clear hB r0 r1 r2 r3 r4
   have hx := HB.out.c8 0 rfl
   have HSx := hid (show ∀ W, Below wr.heap.size wr W -> (W.cell? ⟨w.heap.size, 0, none⟩ = some (.int .i64 kd) /\ W.cell? ⟨w.heap.size, 1, none⟩ = some (.int .i64 i0) /\ W.cell? ⟨w.heap.size, 2, none⟩ = some (.int .i64 i1) /\ W.cell? ⟨w.heap.size, 3, none⟩ = some (.int .i64 i2) /\ W.cell? ⟨w.heap.size, 4, none⟩ = some (.int .i64 i3) /\ W.cell? ⟨w.heap.size, 5, none⟩ = some (.int .i64 i4) /\ W.cell? ⟨w.heap.size, 6, none⟩ = some (.string nm) /\ W.cell? ⟨w.heap.size, 7, none⟩ = some (.string da)) /\ Below w.heap.size w W from λW hb => ⟨(HB.out.kept hb).c8 0 rfl, (HB.out.kept hb).below⟩)
   have hBd := (Below.refl wr.heap.size wr).drew
   go_wp2_with fail
   go_region_law (first
    | (go_simp; (with_reducible refine (HOn.out _ (HSx.out _ (by assumption)).2).mono ?_); rintro e w5 ⟨rfl, hb5⟩; have hB5 := T8.btrans hb5 (by assumption); have HB5 := hid (HSx.out _ hB5).2; have hx5 := (HSx.out _ hB5).1; clear hb5 hB5))
   all_goals
    go_wp2_with fail
    go_ret
    exact ⟨by rw [HQ.out.1, HQ.out.2.1, HQ.out.2.2.1, HQ.out.2.2.2.1, HQ.out.2.2.2.2.1]; rfl, HB5.out⟩
end Go.Proofs.YthbajmlmjjfgpaaGreatDoor
namespace Go.Proofs.YthbajmlmjjfgpaaGreatDoor
open Go.RowKit Go.Less
open Go.Proofs (Any.Builder_WriteByte_k)
attribute [local go_sem 9000] sem_eql sem_neq run_c8
theorem at_below {B : Nat} {p : Value} {bs : List Value} {w w' : World} (h : Lib.BuilderAtF 93 5 B B p bs w) (hb : Below w.heap.size w w') : Lib.BuilderAtF 93 5 B B p bs w' := by
 obtain ⟨hB, v, hbk, hown, hne⟩ := h
 refine ⟨hB, v, (hb.block _ (lt_of_obj hbk)).trans hbk, hown.kept (row := none) ⟨hb.os, hb.tape, hb.output, hb.size, λk hk _ => hb.block k hk⟩ ?_, hne⟩
 cases v.ownBlock with
 | none => exact .inl rfl
 | some k => exact .inr (λe => by cases e)
theorem ib_below {B : Nat} {bs : List Value} {w w' : World} (h : IB B bs w) (hb : Below w.heap.size w w') : IB B bs w' := h.elim (λx => .inl (at_below x hb)) (λx => .inr (at_below x hb))
structure Prb (w : World) (q : Fs.Cmd) (B : Nat) (L : List UInt8) (W : World) : Prop where
 box : W.heap[w.heap.size]? = some (.cells (ccs q) 23 (0, 0))
 ib : IB B (Lib.byteCells L) W
 lo : w.heap.size < B
 below : Below w.heap.size w W
section
variable {w W W' : World} {q : Fs.Cmd} {B : Nat} {L : List UInt8}
theorem Prb.kept (h : Prb w q B L W) (hb : Below W.heap.size W W') : Prb w q B L W' := ⟨(hb.block _ (lt_of_obj h.box)).trans h.box, ib_below h.ib hb, h.lo, h.below.trans (hb.mono h.below.size)⟩
theorem Prb.wrote (h : Prb w q B L W) {L2 : List UInt8} (hA : BA B (Lib.byteCells (L ++ L2)) W') (hb : Below B W W') (hk : Lib.OthersKept 5 (some B) W W') : Prb w q B (L ++ L2) W' :=
 ⟨hk _ _ h.box (λe => by injection e with e; have := h.lo; omega) (λc fz e => by cases e), .inr hA, h.lo, h.below.trans (hb.mono (Nat.le_of_lt h.lo))⟩
theorem wStr_any (h : Prb w q B L W) (s : ByteArray) (hl : L.length + s.size <= 1000000) : Calls prog 41 #[.pointer (some ⟨B, 0, none⟩), .string s] W λe w' => e = .returned (.tuple #[.int .i64 s.size, .nilIface]) /\ Prb w q B (L ++ s.data.toList) w' := by
 refine (Any.Builder_WriteString_k lays166 extra B B _ s W h.ib (by rw [Lib.byteCells_length]; omega) (Nat.le_of_lt (ib_lt h.ib))).mono ?_
 rintro e w' ⟨rfl, hA, hb, hk⟩
 refine ⟨rfl, h.wrote ?_ hb hk⟩
 have : Lib.byteCells L ++ Lib.strCells s = Lib.byteCells (L ++ s.data.toList) := by simp [Lib.byteCells, Lib.strCells]
 rw [<- this]; exact hA
theorem wByte_any (h : Prb w q B L W) (n : Nat) (hl : L.length <= 1000000) : Calls prog 43 #[.pointer (some ⟨B, 0, none⟩), .int .u8 ((u8z (n : Int)).toNat : Int)] W λe w' => e = .returned .nilIface /\ Prb w q B (L ++ [UInt8.ofNat n]) w' := by
 refine (Any.Builder_WriteByte_k lays167 extra B B _ _ W h.ib (by rw [Lib.byteCells_length]; omega) (Nat.le_of_lt (ib_lt h.ib))).mono ?_
 rintro e w' ⟨rfl, hA, hb, hk⟩
 refine ⟨rfl, h.wrote ?_ hb hk⟩
 rw [u8z_nat] at hA
 have : Lib.byteCells L ++ [.int .u8 ((UInt8.ofNat n).toNat : Int)] = Lib.byteCells (L ++ [UInt8.ofNat n]) := by simp [Lib.byteCells]
 rw [<- this]; exact hA
theorem wEnd_any (h : Prb w q B L W) : Calls prog 44 #[.pointer (some ⟨B, 0, none⟩)] W λe w' => e = .returned (.string (lstr L)) /\ Below w.heap.size w w' := by
 refine (Any.Builder_String_any_k lays169 extra B B L W h.ib (Nat.le_of_lt (ib_lt h.ib))).mono ?_
 rintro e w' ⟨rfl, _, hb, _⟩
 exact ⟨rfl, h.below.trans (hb.mono (Nat.le_of_lt h.lo))⟩
end
def n4z (i : Int) : List UInt8 := Nd.n4 i.toNat
def printL (q : Fs.Cmd) : List UInt8 := [] ++ n4z q.ino ++ n4z q.src ++ n4z q.off ++ n4z q.from_ ++ n4z q.n ++ [UInt8.ofNat q.name.size] ++ q.name.data.toList ++ q.data.data.toList
def printC (q : Fs.Cmd) : ByteArray × Int := if rightC q = true then (lstr (printL q), 0) else (⟨#[]⟩, 2)
theorem n4z_len (i : Int) : (n4z i).length = 4 := rfl
theorem rightC_parts {q : Fs.Cmd} (h : rightC q = true) : (1 <= q.kind /\ q.kind <= 10) /\ q.name.size <= 16 /\ q.data.size <= 4096 /\ inN q.ino = true /\ inN q.src = true /\ inN q.off = true /\ inN q.from_ = true /\ inN q.n = true /\ sameC q (onlyC q) = true := by
 unfold rightC at h
 simp only [Bool.and_eq_true, decide_eq_true_eq] at h
 exact ⟨h.1, h.2.1.1, h.2.1.2, h.2.2.1, h.2.2.2.1, h.2.2.2.2.1, h.2.2.2.2.2.1, h.2.2.2.2.2.2.1, h.2.2.2.2.2.2.2⟩
theorem inN_iff {a : Int} : inN a = true ↔ 0 <= a /\ a <= 2147483647 := decide_eq_true_iff
theorem numT_any (W : World) {a : Int} (h : inN a = true) : Calls prog 42 #[.int .i64 a] W (λe w' => e = .returned (.string (Fs.key a)) /\ Below W.heap.size W w') := by
 have := inN_iff.1 h
 exact numText_any a W this.1 (by omega)
theorem printC_any (kd i0 i1 i2 i3 i4 : Int) (nm da : ByteArray) (w : World) (hT : Tn w) :
  Calls prog 8 #[.agg #[.int .i64 kd, .int .i64 i0, .int .i64 i1, .int .i64 i2, .int .i64 i3, .int .i64 i4, .string nm, .string da]] w λe w' => e = .returned (.tuple #[.string (printC ⟨kd, i0, i1, i2, i3, i4, nm, da⟩).1, .int .i64 (printC ⟨kd, i0, i1, i2, i3, i4, nm, da⟩).2]) /\ Below w.heap.size w w' := by
 have HB := hid (show Bxs w [(w.heap.size, #[.int .i64 kd, .int .i64 i0, .int .i64 i1, .int .i64 i2, .int .i64 i3, .int .i64 i4, .string nm, .string da], 23)] (w.alloc (.cells #[.int .i64 kd, .int .i64 i0, .int .i64 i1, .int .i64 i2, .int .i64 i3, .int .i64 i4, .string nm, .string da] 23)) from Bxs.one w _ _)
 have HRi := hid (λW (hb : Below w.heap.size w W) => rightC_any kd i0 i1 i2 i3 i4 nm da W (hT.below hb))
 unfold printC
 cases hr : rightC ⟨kd, i0, i1, i2, i3, i4, nm, da⟩ with
 | false =>
  rw [hr] at HRi
  rw [if_neg (by simp)]
  clear hr hT
  go_enter func8, ntmps8
  go_wp2_with fail
  generalize w.alloc (.cells #[.int .i64 kd, .int .i64 i0, .int .i64 i1, .int .i64 i2, .int .i64 i3, .int .i64 i4, .string nm, .string da] 23) = W0 at HB |-
  refine (HRi.out W0 HB.out.below).mono ?_
  rintro e w1 ⟨rfl, hb⟩
  have HB := hid (HB.out.kept hb)
  clear hb
  dsimp only
  go_wp2_with fail
  go_ret2
  exact ⟨rfl, HB.out.below⟩
 | true =>
  rw [hr] at HRi
  rw [if_pos rfl]
  obtain ⟨-, hn, hd, r0, r1, r2, r3, r4, -⟩ := rightC_parts hr
  dsimp only at hn hd r0 r1 r2 r3 r4
  have HQ := hid (And.intro hn hd)
  have HK0 := hid (λW => numT_any W r0)
  have HK1 := hid (λW => numT_any W r1)
  have HK2 := hid (λW => numT_any W r2)
  have HK3 := hid (λW => numT_any W r3)
  have HK4 := hid (λW => numT_any W r4)
  have HNo := hid (λW => (show Calls prog 40 #[.agg #[.int .i64 kd, .int .i64 i0, .int .i64 i1, .int .i64 i2, .int .i64 i3, .int .i64 i4, .string nm, .string da]] W (λe w' => e = .returned (.agg (nms i0 i1 i2 i3 i4)) /\ Below W.heap.size W w') from numbersOf_any ⟨kd, i0, i1, i2, i3, i4, nm, da⟩ W))
  clear hr hT r0 r1 r2 r3 r4 hn hd
  go_enter func8, ntmps8
  go_wp2_with fail
  generalize w.alloc (.cells #[.int .i64 kd, .int .i64 i0, .int .i64 i1, .int .i64 i2, .int .i64 i3, .int .i64 i4, .string nm, .string da] 23) = W0 at HB |-
  refine (HRi.out W0 HB.out.below).mono ?_
  rintro e w1 ⟨rfl, hb⟩
  have HB := hid (HB.out.kept hb)
  clear hb HRi
  have HP := hid (show Prb w ⟨kd, i0, i1, i2, i3, i4, nm, da⟩ w1.heap.size [] (w1.alloc (.cells #[.pointer none, .slice none 0 0] 93)) from ⟨((below_one w1 _).block _ (lt_of_obj (HB.out.obj 0 rfl))).trans (HB.out.obj 0 rfl), ib_new w1, lt_of_obj (HB.out.obj 0 rfl), HB.out.below.trans ((below_one w1 _).mono HB.out.below.size)⟩)
  have hx := HB.out.c8 0 rfl
  have hy := And.intro (cell_obj HP.out.box 0) (And.intro (cell_obj HP.out.box 1) (And.intro (cell_obj HP.out.box 2) (And.intro (cell_obj HP.out.box 3) (And.intro (cell_obj HP.out.box 4) (And.intro (cell_obj HP.out.box 5) (And.intro (cell_obj HP.out.box 6) (cell_obj HP.out.box 7)))))))
  dsimp only
  go_wp2_with fail
  generalize w1.alloc (.cells #[.pointer none, .slice none 0 0] 93) = W2 at HP hy |-
  refine (HNo.out W2).mono ?_
  rintro e w3 ⟨rfl, hb⟩
  have HP := hid (HP.out.kept hb)
  clear hb hx hy HB HNo
  generalize w1.heap.size = B at HP |-
  dsimp only
  go_wp2_with fail
  go_loopw [6, 12] (λ_ x12 wr => (x12 = .int .i64 0 /\ Prb w ⟨kd, i0, i1, i2, i3, i4, nm, da⟩ B [] wr) \/ (x12 = .int .i64 1 /\ Prb w ⟨kd, i0, i1, i2, i3, i4, nm, da⟩ B ([] ++ n4z i0) wr) \/ (x12 = .int .i64 2 /\ Prb w ⟨kd, i0, i1, i2, i3, i4, nm, da⟩ B (([] ++ n4z i0) ++ n4z i1) wr) \/ (x12 = .int .i64 3 /\ Prb w ⟨kd, i0, i1, i2, i3, i4, nm, da⟩ B ((([] ++ n4z i0) ++ n4z i1) ++ n4z i2) wr) \/ (x12 = .int .i64 4 /\ Prb w ⟨kd, i0, i1, i2, i3, i4, nm, da⟩ B (((([] ++ n4z i0) ++ n4z i1) ++ n4z i2) ++ n4z i3) wr) \/ (x12 = .int .i64 5 /\ Prb w ⟨kd, i0, i1, i2, i3, i4, nm, da⟩ B ((((([] ++ n4z i0) ++ n4z i1) ++ n4z i2) ++ n4z i3) ++ n4z i4) wr)) (λ_ x12 _ => 5 - (intOf x12).toNat)
  case atStart => exact .inl ⟨rfl, HP.out⟩
  case round =>
   clear HP
   rcases hrel with ⟨rfl, hP⟩ | ⟨rfl, hP⟩ | ⟨rfl, hP⟩ | ⟨rfl, hP⟩ | ⟨rfl, hP⟩ | ⟨rfl, hP⟩
   ·have HP := hid hP
    clear hP
    have hix := idxN_0
    go_wp2_with fail
    refine (HK0.out _).mono ?_
    rintro e w4 ⟨rfl, hb⟩
    have HP2 := hid (HP.out.kept hb)
    clear hb
    dsimp only
    go_wp2_with fail
    refine (wStr_any HP2.out (Fs.key i0) (by simp [Fs.key_size])).mono ?_
    rintro e w5 ⟨rfl, hP3⟩
    have HP3 := hid hP3
    clear hP3
    dsimp only
    go_wp2_with fail
    go_roundw
    case rel => exact .inr (.inl ⟨by go_num, HP3.out⟩)
    case measure => simp [intOf]
   ·have HP := hid hP
    clear hP
    have hix := idxN_1
    go_wp2_with fail
    refine (HK1.out _).mono ?_
    rintro e w4 ⟨rfl, hb⟩
    have HP2 := hid (HP.out.kept hb)
    clear hb
    dsimp only
    go_wp2_with fail
    refine (wStr_any HP2.out (Fs.key i1) (by simp [n4z_len, Fs.key_size])).mono ?_
    rintro e w5 ⟨rfl, hP3⟩
    have HP3 := hid hP3
    clear hP3
    dsimp only
    go_wp2_with fail
    go_roundw
    case rel => exact .inr (.inr (.inl ⟨by go_num, HP3.out⟩))
    case measure => simp [intOf]
   ·have HP := hid hP
    clear hP
    have hix := idxN_2
    go_wp2_with fail
    refine (HK2.out _).mono ?_
    rintro e w4 ⟨rfl, hb⟩
    have HP2 := hid (HP.out.kept hb)
    clear hb
    dsimp only
    go_wp2_with fail
    refine (wStr_any HP2.out (Fs.key i2) (by simp [n4z_len, Fs.key_size])).mono ?_
    rintro e w5 ⟨rfl, hP3⟩
    have HP3 := hid hP3
    clear hP3
    dsimp only
    go_wp2_with fail
    go_roundw
    case rel => exact .inr (.inr (.inr (.inl ⟨by go_num, HP3.out⟩)))
    case measure => simp [intOf]
   ·have HP := hid hP
    clear hP
    have hix := idxN_3
    go_wp2_with fail
    refine (HK3.out _).mono ?_
    rintro e w4 ⟨rfl, hb⟩
    have HP2 := hid (HP.out.kept hb)
    clear hb
    dsimp only
    go_wp2_with fail
    refine (wStr_any HP2.out (Fs.key i3) (by simp [n4z_len, Fs.key_size])).mono ?_
    rintro e w5 ⟨rfl, hP3⟩
    have HP3 := hid hP3
    clear hP3
    dsimp only
    go_wp2_with fail
    go_roundw
    case rel => exact .inr (.inr (.inr (.inr (.inl ⟨by go_num, HP3.out⟩))))
    case measure => simp [intOf]
   ·have HP := hid hP
    clear hP
    have hix := idxN_4
    go_wp2_with fail
    refine (HK4.out _).mono ?_
    rintro e w4 ⟨rfl, hb⟩
    have HP2 := hid (HP.out.kept hb)
    clear hb
    dsimp only
    go_wp2_with fail
    refine (wStr_any HP2.out (Fs.key i4) (by simp [n4z_len, Fs.key_size])).mono ?_
    rintro e w5 ⟨rfl, hP3⟩
    have HP3 := hid hP3
    clear hP3
    dsimp only
    go_wp2_with fail
    go_roundw
    case rel => exact .inr (.inr (.inr (.inr (.inr (⟨by go_num, HP3.out⟩)))))
    case measure => simp [intOf]
   ·have HP := hid hP
    clear hP
    have hx6 : wr.cell? ⟨w.heap.size, 6, none⟩ = some (.string nm) := cell_obj HP.out.box 6
    go_wp2_with fail
    refine (wByte_any HP.out nm.size (by simp [n4z_len])).mono ?_
    rintro e w4 ⟨rfl, hP2⟩
    have HP2 := hid hP2
    have hx6 : w4.cell? ⟨w.heap.size, 6, none⟩ = some (.string nm) := cell_obj hP2.box 6
    clear hP2
    dsimp only
    go_wp2_with fail
    refine (wStr_any HP2.out nm (by have := HQ.out.1; simp [n4z_len]; omega)).mono ?_
    rintro e w5 ⟨rfl, hP3⟩
    have HP3 := hid hP3
    have hx7 : w5.cell? ⟨w.heap.size, 7, none⟩ = some (.string da) := cell_obj hP3.box 7
    clear hP3
    dsimp only
    go_wp2_with fail
    refine (wStr_any HP3.out da (by have h1 := HQ.out.1; have h2 := HQ.out.2; have h3 : nm.data.toList.length = nm.size := Array.length_toList; simp only [List.length_append, List.length_nil, List.length_singleton, n4z_len, h3]; omega)).mono ?_
    rintro e w6 ⟨rfl, hP4⟩
    have HP4 := hid hP4
    clear hP4
    dsimp only
    go_wp2_with fail
    refine (wEnd_any HP4.out).mono ?_
    rintro e w7 ⟨rfl, hb⟩
    have HBe := hid hb
    clear hb
    dsimp only
    go_wp2_with fail
    go_ret2
    exact ⟨rfl, HBe.out⟩
end Go.Proofs.YthbajmlmjjfgpaaGreatDoor
