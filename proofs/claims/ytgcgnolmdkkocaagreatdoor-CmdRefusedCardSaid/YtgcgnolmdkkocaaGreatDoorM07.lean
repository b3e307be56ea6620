/- A part of the proofs. -/
import Derived.Shelf.Strings.AsciiSet
import Derived.Laws.CopyRow
import Derived.Laws.Append
import Derived.Lib.AppendZerosOnto
import Derived.Lib.Overlaps
import Derived.Lib.SliceRun
import Derived.Test.YtgcgnolmdkkocaaGreatDoorM06
set_option maxRecDepth 1000000
set_option maxHeartbeats 16000000
open Go.Lib (hid)
open Go.Proofs.Tryz
namespace Go.Proofs.YtgcgnolmdkkocaaGreatDoor
open Go.RowKit Go.Less
attribute [local go_sem 9000] sem_eql sem_neq sem_lss sem_leq sem_gtr sem_geq
def ndr (k m : Int) (d t : ByteArray) (l : List En) : Bool := Nd.right less Nm.right ⟨k, m, d, t, l⟩
def ndg (l : List En) : Bool := Nd.good less Nm.right l
def isE (t : ByteArray) : Bool := alike t ⟨#[]⟩
theorem nm_ok (x : En) : Nd.entOk Nm.right x = (Nm.right x.1.data.toList && decide (1 <= x.2) && decide (x.2 <= 2147483647)) := rfl
theorem ndg_more {l : List En} {j : Nat} (hj : j < l.length) (hg : ndg (l.take j) = true) {x : En} (hx : x = l.getD j z0) (ho : Nd.entOk Nm.right x = true) (ha : Nd.after less (l.take j) x = true) : ndg (l.take (j + 1)) = true := by
 subst hx
 rw [take_snoc hj z0]; unfold ndg at *; rw [Nd.good_snoc, hg, ho, ha]; rfl
theorem ndg_bad {l : List En} {j : Nat} (hj : j < l.length) {x : En} (hx : x = l.getD j z0) (ho : Nd.entOk Nm.right x = false) : ndg l = false := by
 subst hx
 refine Nd.good_take (j := j + 1) ?_
 rw [take_snoc hj z0, Nd.good_snoc, ho]; simp
theorem ndg_low {l : List En} {j : Nat} (hj : j < l.length) {x : En} (hx : x = l.getD j z0) (ha : Nd.after less (l.take j) x = false) : ndg l = false := by
 subst hx
 refine Nd.good_take (j := j + 1) ?_
 rw [take_snoc hj z0, Nd.good_snoc, ha]; simp
theorem after_zero (l : List En) (x : En) : Nd.after less (l.take 0) x = true := rfl
theorem after_succ {l : List En} {j : Nat} (hj : j < l.length) (h0 : 1 <= j) (x : En) : Nd.after less (l.take j) x = less (l.getD (j - 1) z0).1 x.1 := by
 obtain ⟨i, rfl⟩ : ∃ i, j = i + 1 := ⟨j - 1, by omega⟩
 rw [Nd.after_last (z := z0) (j := i) (by rw [List.length_take]; omega)]
 simp [List.getD]
end Go.Proofs.YtgcgnolmdkkocaaGreatDoor
namespace Go.Proofs.YtgcgnolmdkkocaaGreatDoor
open Go.RowKit
def bv (c : UInt8) : Value := .int .u8 (c.toNat : Int)
def byteOf (q : Nat) : UInt8 := UInt8.ofNat q
theorem byteOf_eq (q : Nat) : (q : Int) % 256 = ((byteOf q).toNat : Int) := by unfold byteOf; rw [UInt8.toNat_ofNat']; rfl
def num (v : Nat) : Nat -> List UInt8
 | 0 => []
 | k + 1 => UInt8.ofNat (v / 256 ^ k) :: num v k
theorem num_length (v : Nat) : ∀ k, (num v k).length = k
 | 0 => rfl
 | k + 1 => by simp [num, num_length v k]
theorem num_two (v : Nat) : num v 2 = [UInt8.ofNat (v / 256), UInt8.ofNat v] := by simp [num]
theorem num_one (v : Nat) : num v 1 = [UInt8.ofNat v] := by simp [num]
def numStr (n k : Nat) : ByteArray := ⟨(num n k).toArray⟩
theorem numStr_data (n k : Nat) : (numStr n k).data.toList = num n k := rfl
theorem run_bytes1 (w : World) (a : UInt8) : (convert 134 9 (.slice (some ⟨w.heap.size, 0, none⟩) 1 1)).run prog (w.alloc (.cells #[.int .u8 (a.toNat : Int)] 5)) = .ok (.string ⟨#[a]⟩) (w.alloc (.cells #[.int .u8 (a.toNat : Int)] 5)) := by
 rw [run_convert_bytes_arg (P := prog) (w.alloc (.cells #[.int .u8 (a.toNat : Int)] 5)) 134 5 underlying134 underlying5 w.heap.size 0 1 1 [(a.toNat : Int)] rfl ?_ 9 underlying9]
 ·simp [strOfNums]
 ·intro i hi
  rw [Nat.zero_add, World.cell?_alloc_new]
  match i, hi with
  | 0, _ => rfl
attribute [local go_sem 9000] run_bytes1
end Go.Proofs.YtgcgnolmdkkocaaGreatDoor
namespace Go.Proofs.YtgcgnolmdkkocaaGreatDoor
open Go.RowKit Go.Less
attribute [local go_sem 9000] sem_eql sem_neq sem_lss sem_leq sem_gtr sem_geq
def prt (x : Nd.Node) : ByteArray × Int := if Nd.right less Nm.right x = true then (lstr (Nd.text x), 0) else (⟨#[]⟩, 2)
def Printed (x : Nd.Node) (w : World) (e : Ending) (w' : World) : Prop := e = .returned (.tuple #[.string (prt x).1, .int .i64 (prt x).2]) /\ Below w.heap.size w w'
theorem nm_len {l : List UInt8} (h : Nm.right l = true) : l.length <= 16 := by
 unfold Nm.right at h
 simp only [Bool.and_eq_true, decide_eq_true_eq] at h
 omega
def hdr (k m : Int) (d t : ByteArray) : ByteArray := numStr k.toNat 1 ++ numStr m.toNat 2 ++ d ++ t
def acc (k m : Int) (d t : ByteArray) (l : List En) : ByteArray := hdr k m d t ++ lstr (l.map Nd.entText).flatten
theorem acc_text (k m : Int) (d t : ByteArray) (l : List En) : acc k m d t l = lstr (Nd.text ⟨k, m, d, t, l⟩) := by
 unfold acc hdr
 apply ByteArray.ext
 apply Array.ext'
 simp only [ByteArray.data_append, Array.toList_append, numStr_data, num_one, num_two, lstr_data, Nd.text, Nd.bs, List.append_assoc, List.cons_append, List.nil_append]
theorem kpos {x : Nd.Node} (h : Nd.Right less Nm.right x) : 0 <= x.kind /\ x.kind <= 3 := by
 rcases h.kinds with ⟨h, _⟩ | ⟨h, _⟩ | ⟨h, _⟩ <;> omega
theorem dsz {x : Nd.Node} (h : Nd.Right less Nm.right x) : x.data.size <= 4096 /\ x.target.size <= 64 := by
 rcases h.kinds with ⟨_, h1, _, h2⟩ | ⟨_, h1, h2⟩ | ⟨_, h1, _, _, h2⟩
 ·rw [h1]; exact ⟨h2, Nat.zero_le _⟩
 ·rw [h1, h2]; exact ⟨Nat.zero_le _, Nat.zero_le _⟩
 ·rw [h1]; exact ⟨Nat.zero_le _, h2⟩
theorem esz {x : Nd.Node} (h : Nd.Right less Nm.right x) : ∀ e ∈ x.ents, e.1.size <= 16 /\ 0 <= e.2 /\ e.2 <= 2147483647 := λe he => by
 have h1 := h.ok e he
 have h2 := nm_len h1.1
 rw [Nd.len_bs] at h2
 exact ⟨h2, by omega, h1.2.2⟩
end Go.Proofs.YtgcgnolmdkkocaaGreatDoor
namespace Go.Proofs.YtgcgnolmdkkocaaGreatDoor
open Go.Shelf
def ren : Go.Shelf.Ren := ⟨λ| 166 => 102 | 167 => 104 | 169 => 105 | 227 => 282 | 228 => 283 | 240 => 175 | 276 => 232 | 316 => 156 | n => n, λ| 0 => 0 | 3 => 3 | 4 => 4 | 5 => 5 | 9 => 9 | 20 => 20 | 37 => 134 | 70 => 176 | 72 => 178 | 75 => 183 | 80 => 74 | 116 => 336 | 124 => 351 | 127 => 248 | 164 => 294 | n => n, λ| n => n⟩
theorem lays166 : Go.Proofs.Lays.n166 prog ren := {
 mixed := by kernel_rfl
 f166 := func102.trans (congrArg some (by kernel_rfl))
 f240 := func175.trans (congrArg some (by kernel_rfl))
 f276 := func232.trans (congrArg some (by kernel_rfl))
 t0 := underlying0
 a0 := Tryz.isAgg0
 z0 := Tryz.sizeOf0
 v0 := Tryz.zeroValue0
 t3 := underlying3
 a3 := Tryz.isAgg3
 z3 := Tryz.sizeOf3
 v3 := Tryz.zeroValue3
 t4 := underlying4
 a4 := Tryz.isAgg4
 z4 := Tryz.sizeOf4
 v4 := Tryz.zeroValue4
 t9 := underlying9
 a9 := Tryz.isAgg9
 z9 := Tryz.sizeOf9
 v9 := Tryz.zeroValue9
 t20 := underlying20
 a20 := Tryz.isAgg20
 z20 := Tryz.sizeOf20
 v20 := Tryz.zeroValue20
 t37 := underlying134
 a37 := Tryz.isAgg134
 z37 := Tryz.sizeOf134
 v37 := Tryz.zeroValue134
 t70 := underlying176
 a70 := Tryz.isAgg176
 z70 := Tryz.sizeOf176
 v70 := Tryz.zeroValue176
 t72 := underlying178
 a72 := Tryz.isAgg178
 z72 := Tryz.sizeOf178
 v72 := Tryz.zeroValue178
 t75 := underlying183
 a75 := Tryz.isAgg183
 z75 := Tryz.sizeOf183
 v75 := Tryz.zeroValue183
 t164 := underlying294
 a164 := Tryz.isAgg294
 z164 := Tryz.sizeOf294
 v164 := Tryz.zeroValue294 }
theorem lays167 : Go.Proofs.Lays.n167 prog ren := {
 mixed := by kernel_rfl
 f167 := func104.trans (congrArg some (by kernel_rfl))
 f240 := func175.trans (congrArg some (by kernel_rfl))
 f276 := func232.trans (congrArg some (by kernel_rfl))
 t0 := underlying0
 a0 := Tryz.isAgg0
 z0 := Tryz.sizeOf0
 v0 := Tryz.zeroValue0
 t4 := underlying4
 a4 := Tryz.isAgg4
 z4 := Tryz.sizeOf4
 v4 := Tryz.zeroValue4
 t5 := underlying5
 a5 := Tryz.isAgg5
 z5 := Tryz.sizeOf5
 v5 := Tryz.zeroValue5
 t9 := underlying9
 a9 := Tryz.isAgg9
 z9 := Tryz.sizeOf9
 v9 := Tryz.zeroValue9
 t20 := underlying20
 a20 := Tryz.isAgg20
 z20 := Tryz.sizeOf20
 v20 := Tryz.zeroValue20
 t37 := underlying134
 a37 := Tryz.isAgg134
 z37 := Tryz.sizeOf134
 v37 := Tryz.zeroValue134
 t70 := underlying176
 a70 := Tryz.isAgg176
 z70 := Tryz.sizeOf176
 v70 := Tryz.zeroValue176
 t72 := underlying178
 a72 := Tryz.isAgg178
 z72 := Tryz.sizeOf178
 v72 := Tryz.zeroValue178
 t75 := underlying183
 a75 := Tryz.isAgg183
 z75 := Tryz.sizeOf183
 v75 := Tryz.zeroValue183
 t164 := underlying294
 a164 := Tryz.isAgg294
 z164 := Tryz.sizeOf294
 v164 := Tryz.zeroValue294 }
theorem lays169 : Go.Proofs.Lays.n169 prog ren := {
 mixed := by kernel_rfl
 f169 := func105.trans (congrArg some (by kernel_rfl))
 t0 := underlying0
 a0 := Tryz.isAgg0
 z0 := Tryz.sizeOf0
 v0 := Tryz.zeroValue0
 t3 := underlying3
 a3 := Tryz.isAgg3
 z3 := Tryz.sizeOf3
 v3 := Tryz.zeroValue3
 t9 := underlying9
 a9 := Tryz.isAgg9
 z9 := Tryz.sizeOf9
 v9 := Tryz.zeroValue9
 t37 := underlying134
 a37 := Tryz.isAgg134
 z37 := Tryz.sizeOf134
 v37 := Tryz.zeroValue134
 t70 := underlying176
 a70 := Tryz.isAgg176
 z70 := Tryz.sizeOf176
 v70 := Tryz.zeroValue176
 t72 := underlying178
 a72 := Tryz.isAgg178
 z72 := Tryz.sizeOf178
 v72 := Tryz.zeroValue178
 t127 := underlying248
 a127 := Tryz.isAgg248
 z127 := Tryz.sizeOf248
 v127 := Tryz.zeroValue248 }
theorem lays227 : Go.Proofs.Lays.n227 prog ren := {
 mixed := by kernel_rfl
 f227 := func282.trans (congrArg some (by kernel_rfl))
 t0 := underlying0
 a0 := Tryz.isAgg0
 z0 := Tryz.sizeOf0
 v0 := Tryz.zeroValue0
 t3 := underlying3
 a3 := Tryz.isAgg3
 z3 := Tryz.sizeOf3
 v3 := Tryz.zeroValue3
 t4 := underlying4
 a4 := Tryz.isAgg4
 z4 := Tryz.sizeOf4
 v4 := Tryz.zeroValue4
 t5 := underlying5
 a5 := Tryz.isAgg5
 z5 := Tryz.sizeOf5
 v5 := Tryz.zeroValue5
 t9 := underlying9
 a9 := Tryz.isAgg9
 z9 := Tryz.sizeOf9
 v9 := Tryz.zeroValue9
 t116 := underlying336
 a116 := Tryz.isAgg336
 z116 := Tryz.sizeOf336 }
theorem lays228 : Go.Proofs.Lays.n228 prog ren := {
 mixed := by kernel_rfl
 f228 := func283.trans (congrArg some (by kernel_rfl))
 t0 := underlying0
 a0 := Tryz.isAgg0
 z0 := Tryz.sizeOf0
 v0 := Tryz.zeroValue0
 t4 := underlying4
 a4 := Tryz.isAgg4
 z4 := Tryz.sizeOf4
 v4 := Tryz.zeroValue4
 t5 := underlying5
 a5 := Tryz.isAgg5
 z5 := Tryz.sizeOf5
 v5 := Tryz.zeroValue5
 t116 := underlying336
 a116 := Tryz.isAgg336
 z116 := Tryz.sizeOf336
 t124 := underlying351
 a124 := Tryz.isAgg351
 z124 := Tryz.sizeOf351
 v124 := Tryz.zeroValue351 }
theorem laysM316 : Go.Proofs.LaysM.n316 prog ren := {
 mixed := by kernel_rfl
 f316 := func156.trans (congrArg some (by kernel_rfl))
 t0 := underlying0
 a0 := Tryz.isAgg0
 z0 := Tryz.sizeOf0
 v0 := Tryz.zeroValue0
 t3 := underlying3
 a3 := Tryz.isAgg3
 z3 := Tryz.sizeOf3
 v3 := Tryz.zeroValue3
 t4 := underlying4
 a4 := Tryz.isAgg4
 z4 := Tryz.sizeOf4
 v4 := Tryz.zeroValue4
 t9 := underlying9
 a9 := Tryz.isAgg9
 z9 := Tryz.sizeOf9
 v9 := Tryz.zeroValue9
 t37 := underlying134
 a37 := Tryz.isAgg134
 z37 := Tryz.sizeOf134
 v37 := Tryz.zeroValue134
 t127 := underlying248
 a127 := Tryz.isAgg248
 z127 := Tryz.sizeOf248
 v127 := Tryz.zeroValue248
 t5 := underlying5
 a5 := Tryz.isAgg5
 z5 := Tryz.sizeOf5
 v5 := Tryz.zeroValue5
 i0 := by kernel_rfl
 i3 := by kernel_rfl
 i4 := by kernel_rfl
 i5 := by kernel_rfl
 i9 := by kernel_rfl
 i37 := by kernel_rfl
 i127 := by kernel_rfl }
theorem extra : Builder.Extra prog ren := {
 sizeBuilder := by kernel_rfl
 liesBuilder := by kernel_rfl
 t5 := underlying5
 a5 := Tryz.isAgg5
 z5 := Tryz.sizeOf5
 v5 := Tryz.zeroValue5
 infoByte := by kernel_rfl
 cellsByte := by kernel_rfl
 sizeByte := by kernel_rfl
 neB5 := by decide }
theorem info68 : (prog.info? 336).map (λi => (i.zero, i.size)) = some (some (.agg (Array.replicate 256 (.bool false))), 256) := by kernel_rfl
end Go.Proofs.YtgcgnolmdkkocaaGreatDoor
namespace Go.Proofs.YtgcgnolmdkkocaaGreatDoor
open Go.RowKit Go.Less
attribute [local go_sem 9000] sem_eql sem_neq sem_lss sem_leq sem_gtr sem_geq
theorem clone_any (s : ByteArray) (w : World) (hlim : s.size <= 281474976710656) :
  Calls prog 82 #[.string s] w λe w' => e = .returned (.string s) /\ Below w.heap.size w w' := by
 go_enter func82, ntmps82
 go_wp2_with fail
 refine (Any.stringslite_Clone laysM316 s w hlim).mono ?_
 rintro e w' ⟨rfl, hw⟩
 dsimp only
 go_wp2_with fail
 go_ret
 exact ⟨rfl, hw⟩
theorem step_ent {ops : Array Oper} {o : Oper} {a : Act} {w : World} {K : Act -> World -> Prop} {Q : Exit -> Act -> World -> Prop} {E : Prop} (hgd : o.guard = none) (s x : Operand)
  (ho : o.op = .call { callee := .builtin .append, args := #[s, x], argTypes := #[27, 27] })
  (base : Nat) (v : Value) (l : List En) (hs : a.eval s = v) (hown : Own base v l w)
  (b : Nat) (u : En) (hx : a.eval x = .slice (some ⟨b, 0, none⟩) 1 1) (hc : w.heap[b]? = some (.cells #[.string u.1, .int .i64 u.2] 125 (0, 0))) (hn : l.length <= 1000000) (hbase : base <= w.heap.size)
  (h : ∀ ao' cap' w', Own base (.slice ao' (l.length + 1) cap') (l ++ [u]) w' -> w.grownBy w' v.ownBlock -> K (a.put o.dst (.slice ao' (l.length + 1) cap')) w') :
  if Region.wanted o (yielded ops a.tmps) = true then Oper.wp prog o a w K Q else E := by
 have hw : Region.wanted o (yielded ops a.tmps) = true := by simp [Region.wanted, hgd]
 rw [if_pos hw]
 obtain ⟨i0, hi, hz0, hz1, hz2⟩ := info_parts info46
 refine wp_append_own w s x 27 ho base 125 i0 (.agg #[.string ⟨#[]⟩, .int .i64 0]) 2 24 underlying27 hi hz0 hz1 hz2 rfl (by decide) v l.length (erow l) hs hown ⟨b, 0, none⟩ 1 1 (ecell u) hx rfl ?_ ?_ (by unfold maxLen; omega) (by omega) hbase ?_
 ·intro j y hj
  rw [show (⟨b, 0, none⟩ : Addr).add j = ⟨b, j, none⟩ by unfold Addr.add; split <;> simp_all]
  match j with
  | 0 => simp [ecell] at hj; subst hj; simp [World.cell?, hc]
  | 1 => simp [ecell] at hj; subst hj; simp [World.cell?, hc]
  | j + 2 => simp [ecell] at hj
 ·intro y hy
  simp [ecell] at hy
  rcases hy with rfl | rfl <;> rfl
 ·intro v' w' hown' hg _
  obtain ⟨ao', cap', rfl⟩ := owns_form hown'
  refine h ao' cap' w' ?_ hg
  unfold Own
  rw [List.length_append, erow_append]
  simpa [erow, ecell] using hown'
theorem gat_kept {w wr W : World} {cs : Array Value} {l : List En} {v : Value} (h : Gat w cs l v wr) (hb : Below wr.heap.size wr W) : Gat w cs l v W :=
 ⟨owned_below h.own hb, (hb.block _ (lt_of_obj h.box)).trans h.box, (hb.block _ (lt_of_obj h.res)).trans h.res, Nat.le_trans h.big hb.size, h.below.trans (hb.mono h.below.size)⟩
theorem below_drew {w w' : World} (h : Below w.drew.heap.size w.drew w') : Below w.heap.size w w' := ((Below.refl w.heap.size w).drew).trans h
theorem below_one (w : World) (o : Obj) : Below w.heap.size w (w.alloc o) := (Below.refl _ w).alloc (Nat.le_refl _) _
def Owned (x : Nd.Node) (w : World) (e : Ending) (w' : World) : Prop :=
 ∃ ao cap, e = .returned (nv x.kind x.mode x.data x.target ao x.ents.length cap) /\ Own w.heap.size (.slice ao x.ents.length cap) x.ents w' /\ Below w.heap.size w w'
theorem own_mono {b b' : Nat} {v : Value} {l : List En} {w : World} (h : Own b v l w) (hb : b' <= b) : Own b' v l w := by
 refine ⟨h.1, ?_⟩
 rcases h.2 with h1 | ⟨g, cap, cur, e, h2, r⟩
 ·exact .inl h1
 ·exact .inr ⟨g, cap, cur, e, Nat.le_trans hb h2, r⟩
theorem gat_set3 {w W : World} {k m : Int} {d t d' t' : ByteArray} {u e : Value} {l : List En} {v : Value} (h : Gat w #[.int .i64 k, .int .i64 m, .string d, .string t, u] l v W) :
  Gat w #[.int .i64 k, .int .i64 m, .string d', .string t', e] l v (((W.setCell ⟨w.heap.size, 2, none⟩ (.string d')).setCell ⟨w.heap.size, 3, none⟩ (.string t')).setCell ⟨w.heap.size, 4, none⟩ e) := by
 have h2 := heap_setCell_same W w.heap.size 2 _ 29 (.string d') h.box
 have h3 := heap_setCell_same _ w.heap.size 3 _ 29 (.string t') h2
 have h4 := heap_setCell_same _ w.heap.size 4 _ 29 e h3
 refine ⟨own_set (own_set (own_set h.own (by omega) 2 _) (by omega) 3 _) (by omega) 4 _, by simpa using h4, ?_, ?_, ((h.below.setCell (Nat.le_refl _) _).setCell (Nat.le_refl _) _).setCell (Nat.le_refl _) _⟩
 ·have hne : w.heap.size + 1 ≠ w.heap.size := by omega
  rw [heap_setCell_other _ ⟨w.heap.size, 4, none⟩ (w.heap.size + 1) _ hne, heap_setCell_other _ ⟨w.heap.size, 3, none⟩ (w.heap.size + 1) _ hne, heap_setCell_other _ ⟨w.heap.size, 2, none⟩ (w.heap.size + 1) _ hne]
  exact h.res
 ·have := h.big
  simpa [World.setCell] using this
theorem results_one {fn : Func} {p : Tmp} (h : fn.results = #[.cell p 29]) (tmps : Array Value) (w : World) (g : Nat) (k m d t e : Value)
  (hp : tmps.getD p undef = .pointer (some ⟨g, 0, none⟩)) (hg : w.heap[g]? = some (.cells #[k, m, d, t, e] 29 (0, 0))) :
  (results fn tmps).run prog w = .ok (.agg #[k, m, d, t, e]) w :=
 results_cell_row (P := prog) h _ _ g 29 #[k, m, d, t, e] (0, 0) _ hp hg underlying29 rfl size24
theorem own_any (k m : Int) (d t : ByteArray) (a : Option Addr) (n cap : Nat) (l : List En) (w : World) (hE : Ents a n l w) (hn : n <= 100000) (hs : ∀ j, j < n -> (l.getD j z0).1.size <= 100000) (hd : d.size <= 100000) (ht : t.size <= 100000) :
  Calls prog 187 #[nv k m d t a n cap] w (Owned ⟨k, m, d, t, l⟩ w) := by
 have HNL := hid hE.count
 have hni : (n : Int) <= 100000 := by omega
 have HE := hid (λW (hb : Below w.heap.size w W) => hE.below hb)
 have HS := hid hs
 have HB0 := hid (show ∀ x y : Obj, Below w.heap.size w ((w.alloc x).alloc y) from λx y => ((Below.refl _ w).alloc (Nat.le_refl _) _).alloc (by simp) _)
 have HCd := hid (λW => clone_any d W (by omega))
 have HCt := hid (λW => clone_any t W (by omega))
 clear hE hs hd ht
 go_enter func187, ntmps187
 go_wp2_with fail
 go_loopw [3, 9] (λv i wr => ∃ j : Nat, j <= n /\ i = .int .i64 j /\ Gat w #[.int .i64 k, .int .i64 m, .string d, .string t, .slice a n cap] (l.take j) v wr) (λ_ i _ => n - (intOf i).toNat)
 case atStart => exact ⟨0, Nat.zero_le _, rfl, ⟨own_nil _ _, two0 _ _ _, two1 _ _ _, two2 _ _ _, HB0.out _ _⟩⟩
 case round =>
  obtain ⟨j, hj, rfl, hG⟩ := hrel
  obtain ⟨ao, cp, rfl⟩ := owns_form hG.own
  by_cases hlt : j < n
  ·have j0 : (j : Int) < (n : Int) := by omega
   have hj0 : (0 : Int) <= (j : Int) := by omega
   obtain ⟨b, off, rfl, c0, c1⟩ := (HE.out _ hG.below).cell j hlt
   have hjl : j < l.length := by rw [<- HNL.out]; exact hlt
   have HT := hid (take_snoc hjl z0)
   have HLen := hid (show (l.take j).length <= 100000 by rw [List.length_take]; omega)
   have hsz := HS.out j hlt
   generalize l.getD j z0 = x at c0 c1 HT hsz
   have HC := hid (λW => clone_any x.1 W (by omega))
   have HG := hid hG
   have HB1 := hid (below_one wr (.cells #[.string x.1, .int .i64 x.2] 125))
   have HX := hid (heap_alloc_new wr (.cells #[.string x.1, .int .i64 x.2] 125))
   have hlt1 := lt_of_obj HX.out
   clear hG hsz hjl
   generalize l.take j = C at *
   go_wp2_with fail
   go_region_law (first
    | (refine step_ent rfl _ _ rfl (w.heap.size + 2) _ C (by rfl) HO3.out w1.heap.size x (by rfl) HN3.out (Nat.le_trans HLen.out (by decide)) HZ.out ?_; intro ao4 cap4 w4 hown4 hgrow4; have HG4 := hid (gat_more HG3.out HO3.out hgrow4 (by simpa [Own] using hown4)); clear hown4 hgrow4)
    | (go_simp; (with_reducible refine (HC.out _).mono ?_); rintro e w1 ⟨rfl, hw1d⟩; have hw1 := below_drew hw1d; have ci1 := (hw1.cell (p := ⟨wr.heap.size, 1, none⟩) hlt1).trans (cell_obj HX.out 1); have HG3 := hid (gat_kept HG.out (HB1.out.trans (hw1.mono HB1.out.size))); have HO3 := hid (owned_below HG3.out.own (below_one w1 (.cells #[.string x.1, .int .i64 x.2] 125))); have HN3 := hid (heap_alloc_new w1 (.cells #[.string x.1, .int .i64 x.2] 125)); have HZ := hid (Nat.le_trans HG3.out.big (below_one w1 (.cells #[.string x.1, .int .i64 x.2] 125)).size); clear hw1d))
   all_goals
    go_wp2_with fail
    go_roundw
    case rel => exact ⟨j + 1, by omega, by go_num, by rw [HT.out]; exact HG4.out⟩
    case measure => simp [intOf]; omega
  ·obtain rfl : j = n := by omega
   rw [show l.take j = l by rw [HNL.out, List.take_length]] at hG |-
   have HG := hid hG
   have hlen := HNL.out
   clear hG hlt
   have x2 : wr.cell? ⟨w.heap.size, 2, none⟩ = some (.string d) := cell_obj HG.out.box 2
   have x3 : wr.cell? ⟨w.heap.size, 3, none⟩ = some (.string t) := cell_obj HG.out.box 3
   have hbl := lt_of_obj HG.out.box
   go_wp2_with fail
   go_region_law (first
    | (go_simp; (with_reducible refine (HCd.out _).mono ?_); rintro e w1 ⟨rfl, hw1d⟩; have hw1 := below_drew hw1d; have y3 := (hw1.cell (p := ⟨w.heap.size, 3, none⟩) hbl).trans x3; have HG3 := hid (gat_kept HG.out hw1); clear hw1d)
    | (go_simp; (with_reducible refine (HCt.out _).mono ?_); rintro e w2 ⟨rfl, hw2⟩; have HG4 := hid (gat_kept HG3.out hw2); clear hw2; have hx := HG4.out.box; have z2 := cell_obj hx 2; have z3 := cell_obj hx 3; have z4 := cell_obj hx 4; have f2 := free_obj hx 2; have f3 := free_obj hx 3; have f4 := free_obj hx 4; clear hx))
   all_goals
    have HG5 := hid (gat_set3 (d' := d) (t' := t) (e := .slice ao l.length cp) HG4.out)
    clear z2 z3 z4 f2 f3 f4
    generalize (((w2.setCell ⟨w.heap.size, 2, none⟩ (.string d)).setCell ⟨w.heap.size, 3, none⟩ (.string t)).setCell ⟨w.heap.size, 4, none⟩ (.slice ao l.length cp)) = W5 at HG5 |-
    have hr := HG5.out.res
    have hx := HG5.out.box
    have r0 := bxc5 hr
    have q0 := bxf5 hr
    have x0 : W5.cell? ⟨w.heap.size, 0, none⟩ = some (.int .i64 k) := cell_obj hx 0
    have x1 : W5.cell? ⟨w.heap.size, 1, none⟩ = some (.int .i64 m) := cell_obj hx 1
    have x2 : W5.cell? ⟨w.heap.size, 2, none⟩ = some (.string d) := cell_obj hx 2
    have x3 : W5.cell? ⟨w.heap.size, 3, none⟩ = some (.string t) := cell_obj hx 3
    have x4 : W5.cell? ⟨w.heap.size, 4, none⟩ = some (.slice ao l.length cp) := cell_obj hx 4
    clear hr hx
    go_wp2_with fail
    refine bodyPost_ret_by (results_one rfl _ _ (w.heap.size + 1) _ _ _ _ _ rfl (set5 _ _ _ _ _ HG5.out.res)) rfl ⟨ao, cp, rfl, own_mono (own_set5 HG5.out.own (by omega) _ _ _ _ _) (by omega), below5 HG5.out.below (Nat.le_succ _) _ _ _ _ _⟩
end Go.Proofs.YtgcgnolmdkkocaaGreatDoor
namespace Go.Two
open Go.RowKit
variable {P : Program}
theorem run_copy2 (w : World) (dT sT ty elem : TypeId) (g o dLen dCap : Nat) (a : Addr) (sLen sCap k : Nat) (cur : Array Value) (t : TypeId) (cs : List Value)
  (hu : P.underlying dT = some (.slice elem)) (hs : (P.info? elem).map (·.size) = some 2)
  (hg : w.heap[g]? = some (.cells cur t (0, 0))) (hk : k = Nat.min sLen dLen) (hn : cs.length = k * 2)
  (hsrc : ∀ j v, cs[j]? = some v -> w.cell? (a.add j) = some v) (hfit : o + cs.length <= cur.size) (h1 : ∀ v ∈ cs, v.oneCell' = true) :
  (Builtin.copy_ #[dT, sT] ty #[.slice (some ⟨g, o, none⟩) dLen dCap, .slice (some a) sLen sCap]).run P w =
   .ok (goInt k) (w.setRow g (cur.toList.take o ++ cs ++ cur.toList.drop (o + cs.length)).toArray) := by
 have hl := run_firstCells_some (P := P) w 2 k a sLen sCap cs hn hsrc
 have hst := run_storeCells_at P g o t cs 0 cur w hg (by simpa using hfit) h1
 cases hq : P.info? elem with
 | none => simp [hq] at hs
 | some i =>
  have hi : i.size = 2 := by simpa [hq] using hs
  simp [Builtin.copy_, run_underlying hu, Builtin.lenOf, sizeOf, typeInfo, hq, hi, <- hk, hl, hst]
theorem grown_setRow (w : World) (g : Nat) (cs : Array Value) : w.grownBy (w.setRow g cs) (some g) :=
 ⟨rfl, rfl, rfl, by simp [World.setRow], λk _ hne => setRow_other w g k cs (λe => hne (by rw [e]))⟩
theorem wpList_copy2 {w : World} {ops : Array Oper} {rest : List Oper} {o : Oper} {a : Act} {Q : Exit -> Act -> World -> Prop} (hgd : o.guard = none) (d s : Operand) (dT sT : TypeId)
  (ho : o.op = .call { callee := .builtin .copy, args := #[d, s], argTypes := #[dT, sT] }) (elem : TypeId) (hu : P.underlying dT = some (.slice elem)) (hsz : (P.info? elem).map (·.size) = some 2)
  (g off dLen dCap : Nat) (ad : Addr) (sLen sCap k : Nat) (hd : a.eval d = .slice (some ⟨g, off, none⟩) dLen dCap) (hs : a.eval s = .slice (some ad) sLen sCap)
  (cur : List Value) (t : TypeId) (hg : w.heap[g]? = some (.cells cur.toArray t (0, 0))) (cs : List Value) (hk : k = Nat.min sLen dLen) (hn : cs.length = k * 2)
  (hsrc : ∀ j v, cs[j]? = some v -> w.cell? (ad.add j) = some v) (hfit : off + cs.length <= cur.length) (h1 : ∀ v ∈ cs, v.oneCell' = true)
  (h : ∀ w', Hid (w'.heap[g]? = some (.cells (splice cur off cs).toArray t (0, 0))) -> w.grownBy w' (some g) -> wpList P ops Q rest (a.put o.dst (goInt k)) w') : wpList P ops Q (o :: rest) a w := by
 refine wpList_plain hgd λK hK => ?_
 have hrun := run_copy2 (P := P) w dT sT o.type elem g off dLen dCap ad sLen sCap k cur.toArray t cs hu hsz hg hk hn hsrc (by simpa using hfit) h1
 unfold Oper.wp
 simp [execOp, ho, resolve, invoke, builtin, hd, hs, hrun, Result.andThen]
 refine hK _ _ (h _ ?_ (grown_setRow w g _))
 show _ = _
 simpa [splice] using setRow_heap w g _ _ t _ hg
theorem step_copy2 {w : World} {ops : Array Oper} {o : Oper} {a : Act} {K : Act -> World -> Prop} {Q : Exit -> Act -> World -> Prop} {E : Prop} (hgd : o.guard = none) (d s : Operand) (dT sT : TypeId)
  (ho : o.op = .call { callee := .builtin .copy, args := #[d, s], argTypes := #[dT, sT] }) (elem : TypeId) (hu : P.underlying dT = some (.slice elem)) (hsz : (P.info? elem).map (·.size) = some 2)
  (g off dLen dCap : Nat) (ad : Addr) (sLen sCap k : Nat) (hd : a.eval d = .slice (some ⟨g, off, none⟩) dLen dCap) (hs : a.eval s = .slice (some ad) sLen sCap)
  (cur : List Value) (t : TypeId) (hg : w.heap[g]? = some (.cells cur.toArray t (0, 0))) (cs : List Value) (hk : k = Nat.min sLen dLen) (hn : cs.length = k * 2)
  (hsrc : ∀ j v, cs[j]? = some v -> w.cell? (ad.add j) = some v) (hfit : off + cs.length <= cur.length) (h1 : ∀ v ∈ cs, v.oneCell' = true)
  (h : ∀ w', Hid (w'.heap[g]? = some (.cells (splice cur off cs).toArray t (0, 0))) -> w.grownBy w' (some g) -> K (a.put o.dst (goInt k)) w') :
  if Region.wanted o (yielded ops a.tmps) = true then Oper.wp P o a w K Q else E := by
 have hw : Region.wanted o (yielded ops a.tmps) = true := by simp [Region.wanted, hgd]
 rw [if_pos hw]
 have hrun := run_copy2 (P := P) w dT sT o.type elem g off dLen dCap ad sLen sCap k cur.toArray t cs hu hsz hg hk hn hsrc (by simpa using hfit) h1
 unfold Oper.wp
 simp [execOp, ho, resolve, invoke, builtin, hd, hs, hrun, Result.andThen]
 refine h _ ?_ (grown_setRow w g _)
 show _ = _
 simpa [splice] using setRow_heap w g _ _ t _ hg
theorem step_app2 {w : World} {ops : Array Oper} {o : Oper} {a : Act} {K : Act -> World -> Prop} {Q : Exit -> Act -> World -> Prop} {E : Prop} (hgd : o.guard = none) (s x : Operand) (t : TypeId)
  (ho : o.op = .call { callee := .builtin .append, args := #[s, x], argTypes := #[t, t] }) (e : TypeId) (hu : P.underlying t = some (.slice e)) (hsz : (P.info? e).map (·.size) = some 2)
  (g sLen sCap : Nat) (ad : Addr) (m c : Nat) (hs : a.eval s = .slice (some ⟨g, 0, none⟩) sLen sCap) (hx : a.eval x = .slice (some ad) m c)
  (cur : List Value) (hg : w.heap[g]? = some (.cells cur.toArray e (0, 0))) (news : List Value) (hn : news.length = m * 2) (hnews : ∀ j u, news[j]? = some u -> w.cell? (ad.add j) = some u) (h1 : ∀ u ∈ news, u.oneCell' = true)
  (hroom : sLen + m <= sCap) (hfit : sLen * 2 + news.length <= cur.length)
  (h : ∀ w', Hid (w'.heap[g]? = some (.cells (splice cur (sLen * 2) news).toArray e (0, 0))) -> w.grownBy w' (some g) -> K (a.put o.dst (.slice (some ⟨g, 0, none⟩) (sLen + m) sCap)) w') :
  if Region.wanted o (yielded ops a.tmps) = true then Oper.wp P o a w K Q else E := by
 have hw : Region.wanted o (yielded ops a.tmps) = true := by simp [Region.wanted, hgd]
 rw [if_pos hw]
 cases hq : P.info? e with
 | none => simp [hq] at hsz
 | some i =>
  have hi : i.size = 2 := by simpa [hq] using hsz
  have hrun := run_append_room (P := P) w t o.type e i hu hq g sLen sCap cur.toArray hg ad m c news (by rw [hi]; exact hn) hnews h1 hroom (by rw [hi]; simpa using hfit)
  rw [hi] at hrun
  unfold Oper.wp
  simp [execOp, ho, resolve, invoke, builtin, hs, hx, hrun, Result.andThen]
  refine h _ ?_ (grown_setRow w g _)
  show _ = _
  simpa [splice] using setRow_heap w g _ _ e _ hg
theorem run_clear2 (w : World) (t e ty : TypeId) (z : Value) (z0 z1 : Value) (ht : P.underlying t = some (.slice e)) (hv : ∀ w, (zeroValue e).run P w = .ok z w) (hz : z.cells = #[z0, z1]) (h0 : z0.oneCell' = true) (h1 : z1.oneCell' = true) (g o c : Nat) (cur : Array Value) (tt : TypeId)
  (hg : w.heap[g]? = some (.cells cur tt (0, 0))) (hfit : o + 2 <= cur.size) :
  (Builtin.clear_ #[t] ty #[.slice (some ⟨g, o, none⟩) 1 c]).run P w = .ok (.tuple #[]) (w.setRow g (cur.toList.take o ++ [z0, z1] ++ cur.toList.drop (o + 2)).toArray) := by
 have hzc : (Builtin.zeroCells z.cells 1).toList = [z0, z1] := by
  rw [hz]
  simp [Builtin.zeroCells]
  rfl
 have hst := run_storeCells_at P g o tt [z0, z1] 0 cur w hg (by simpa using hfit) (by intro v hv; simp at hv; rcases hv with rfl | rfl <;> assumption)
 simp only [Nat.add_zero] at hst
 simp only [Builtin.clear_]
 simp [run_underlying ht, hv, hzc, hst]
end Go.Two
