/- Layer 11, a part of the proofs: no statement of its own. -/
import Derived.Shelf.Strings.Builder1
import Derived.Shelf.Strings.Builder2
import Derived.Shelf.Strings.BuilderF
import Derived.Shelf.Strings.BuilderK
import Derived.Shelf.Strings.Repeat
import Derived.Test.YthehblmjloohiaaGreatDoorProg
import Derived.Test.YthehblmjloohiaaGreatDoorM02
namespace Go.Proofs.YthehblmjloohiaaGreatDoor.T8
set_option maxRecDepth 100000
open Go.Shelf
def ren : Go.Shelf.Ren := ⟨fun | 99 => 228 | 105 => 205 | 165 => 229 | 166 => 155 | 167 => 7 | 169 => 157 | 170 => 230 | 206 => 217 | 212 => 227 | 240 => 182 | 241 => 243 | 263 => 241 | 264 => 242 | 276 => 206 | 277 => 247 | n => n, fun | 0 => 0 | 3 => 3 | 4 => 4 | 5 => 5 | 9 => 9 | 20 => 20 | 37 => 137 | 46 => 136 | 51 => 193 | 53 => 237 | 70 => 209 | 72 => 211 | 75 => 213 | 76 => 215 | 80 => 60 | 109 => 270 | 127 => 198 | 146 => 274 | 148 => 285 | 164 => 256 | n => n, fun | n => n⟩
theorem lays105 : Go.Proofs.Lays.n105 Tryz.prog ren := {
 mixed := by kernel_rfl
 f99 := Tryz.func228.trans (congrArg some (by kernel_rfl))
 f105 := Tryz.func205.trans (congrArg some (by kernel_rfl))
 f165 := Tryz.func229.trans (congrArg some (by kernel_rfl))
 f166 := Tryz.func155.trans (congrArg some (by kernel_rfl))
 f169 := Tryz.func157.trans (congrArg some (by kernel_rfl))
 f170 := Tryz.func230.trans (congrArg some (by kernel_rfl))
 f206 := Tryz.func217.trans (congrArg some (by kernel_rfl))
 f212 := Tryz.func227.trans (congrArg some (by kernel_rfl))
 f240 := Tryz.func182.trans (congrArg some (by kernel_rfl))
 f241 := Tryz.func243.trans (congrArg some (by kernel_rfl))
 f263 := Tryz.func241.trans (congrArg some (by kernel_rfl))
 f264 := Tryz.func242.trans (congrArg some (by kernel_rfl))
 f276 := Tryz.func206.trans (congrArg some (by kernel_rfl))
 f277 := Tryz.func247.trans (congrArg some (by kernel_rfl))
 t0 := Tryz.underlying0
 a0 := Tryz.isAgg0
 z0 := Tryz.sizeOf0
 v0 := Tryz.zeroValue0
 t3 := Tryz.underlying3
 a3 := Tryz.isAgg3
 z3 := Tryz.sizeOf3
 v3 := Tryz.zeroValue3
 t4 := Tryz.underlying4
 a4 := Tryz.isAgg4
 z4 := Tryz.sizeOf4
 v4 := Tryz.zeroValue4
 t5 := Tryz.underlying5
 a5 := Tryz.isAgg5
 z5 := Tryz.sizeOf5
 v5 := Tryz.zeroValue5
 t9 := Tryz.underlying9
 a9 := Tryz.isAgg9
 z9 := Tryz.sizeOf9
 v9 := Tryz.zeroValue9
 t20 := Tryz.underlying20
 a20 := Tryz.isAgg20
 z20 := Tryz.sizeOf20
 v20 := Tryz.zeroValue20
 t37 := Tryz.underlying137
 a37 := Tryz.isAgg137
 z37 := Tryz.sizeOf137
 v37 := Tryz.zeroValue137
 t46 := Tryz.underlying136
 a46 := Tryz.isAgg136
 z46 := Tryz.sizeOf136
 v46 := Tryz.zeroValue136
 t51 := Tryz.underlying193
 a51 := Tryz.isAgg193
 z51 := Tryz.sizeOf193
 v51 := Tryz.zeroValue193
 t53 := Tryz.underlying237
 a53 := Tryz.isAgg237
 z53 := Tryz.sizeOf237
 v53 := Tryz.zeroValue237
 t70 := Tryz.underlying209
 a70 := Tryz.isAgg209
 z70 := Tryz.sizeOf209
 v70 := Tryz.zeroValue209
 t72 := Tryz.underlying211
 a72 := Tryz.isAgg211
 z72 := Tryz.sizeOf211
 v72 := Tryz.zeroValue211
 t75 := Tryz.underlying213
 a75 := Tryz.isAgg213
 z75 := Tryz.sizeOf213
 v75 := Tryz.zeroValue213
 t76 := Tryz.underlying215
 a76 := Tryz.isAgg215
 z76 := Tryz.sizeOf215
 v76 := Tryz.zeroValue215
 t109 := Tryz.underlying270
 a109 := Tryz.isAgg270
 z109 := Tryz.sizeOf270
 v109 := Tryz.zeroValue270
 t127 := Tryz.underlying198
 a127 := Tryz.isAgg198
 z127 := Tryz.sizeOf198
 v127 := Tryz.zeroValue198
 t146 := Tryz.underlying274
 a146 := Tryz.isAgg274
 z146 := Tryz.sizeOf274
 v146 := Tryz.zeroValue274
 t148 := Tryz.underlying285
 a148 := Tryz.isAgg285
 z148 := Tryz.sizeOf285
 v148 := Tryz.zeroValue285
 t164 := Tryz.underlying256
 a164 := Tryz.isAgg256
 z164 := Tryz.sizeOf256
 v164 := Tryz.zeroValue256 }
theorem lays166 : Go.Proofs.Lays.n166 Tryz.prog ren := {
 mixed := by kernel_rfl
 f166 := Tryz.func155.trans (congrArg some (by kernel_rfl))
 f240 := Tryz.func182.trans (congrArg some (by kernel_rfl))
 f276 := Tryz.func206.trans (congrArg some (by kernel_rfl))
 t0 := Tryz.underlying0
 a0 := Tryz.isAgg0
 z0 := Tryz.sizeOf0
 v0 := Tryz.zeroValue0
 t3 := Tryz.underlying3
 a3 := Tryz.isAgg3
 z3 := Tryz.sizeOf3
 v3 := Tryz.zeroValue3
 t4 := Tryz.underlying4
 a4 := Tryz.isAgg4
 z4 := Tryz.sizeOf4
 v4 := Tryz.zeroValue4
 t9 := Tryz.underlying9
 a9 := Tryz.isAgg9
 z9 := Tryz.sizeOf9
 v9 := Tryz.zeroValue9
 t20 := Tryz.underlying20
 a20 := Tryz.isAgg20
 z20 := Tryz.sizeOf20
 v20 := Tryz.zeroValue20
 t37 := Tryz.underlying137
 a37 := Tryz.isAgg137
 z37 := Tryz.sizeOf137
 v37 := Tryz.zeroValue137
 t70 := Tryz.underlying209
 a70 := Tryz.isAgg209
 z70 := Tryz.sizeOf209
 v70 := Tryz.zeroValue209
 t72 := Tryz.underlying211
 a72 := Tryz.isAgg211
 z72 := Tryz.sizeOf211
 v72 := Tryz.zeroValue211
 t75 := Tryz.underlying213
 a75 := Tryz.isAgg213
 z75 := Tryz.sizeOf213
 v75 := Tryz.zeroValue213
 t164 := Tryz.underlying256
 a164 := Tryz.isAgg256
 z164 := Tryz.sizeOf256
 v164 := Tryz.zeroValue256 }
theorem lays169 : Go.Proofs.Lays.n169 Tryz.prog ren := {
 mixed := by kernel_rfl
 f169 := Tryz.func157.trans (congrArg some (by kernel_rfl))
 t0 := Tryz.underlying0
 a0 := Tryz.isAgg0
 z0 := Tryz.sizeOf0
 v0 := Tryz.zeroValue0
 t3 := Tryz.underlying3
 a3 := Tryz.isAgg3
 z3 := Tryz.sizeOf3
 v3 := Tryz.zeroValue3
 t9 := Tryz.underlying9
 a9 := Tryz.isAgg9
 z9 := Tryz.sizeOf9
 v9 := Tryz.zeroValue9
 t37 := Tryz.underlying137
 a37 := Tryz.isAgg137
 z37 := Tryz.sizeOf137
 v37 := Tryz.zeroValue137
 t70 := Tryz.underlying209
 a70 := Tryz.isAgg209
 z70 := Tryz.sizeOf209
 v70 := Tryz.zeroValue209
 t72 := Tryz.underlying211
 a72 := Tryz.isAgg211
 z72 := Tryz.sizeOf211
 v72 := Tryz.zeroValue211
 t127 := Tryz.underlying198
 a127 := Tryz.isAgg198
 z127 := Tryz.sizeOf198
 v127 := Tryz.zeroValue198 }
open Go.Shelf in
theorem extra : Builder.Extra Tryz.prog ren := {
 sizeBuilder := by kernel_rfl
 liesBuilder := by kernel_rfl
 t5 := Tryz.underlying5
 a5 := Tryz.isAgg5
 z5 := Tryz.sizeOf5
 v5 := Tryz.zeroValue5
 infoByte := by kernel_rfl
 cellsByte := by kernel_rfl
 sizeByte := by kernel_rfl
 neB5 := by decide }
end Go.Proofs.YthehblmjloohiaaGreatDoor.T8

namespace Go.Proofs.YthehblmjloohiaaGreatDoor.T8
set_option maxRecDepth 100000
open Go.RowKit Sha
def KOk (w : World) : Prop := ∀ j, j < 64 → w.cell? ⟨2, j, none⟩ = some (wv (kAt j))
theorem KOk.lt {w : World} (h : KOk w) : 2 < w.heap.size := lt_of_K h
theorem KOk.below {w w' : World} (h : KOk w) (hb : Below w.heap.size w w') : KOk w' := fun j hj => (hb.cell (p := ⟨2, j, none⟩) h.lt).trans (h j hj)
theorem KOk.only {b : Nat} {w w' : World} (h : KOk w) (hb : OnlyB b w w') (hb1 : b ≠ 2) : KOk w' := fun j hj => (hb.cell ⟨2, j, none⟩ h.lt hb1.symm).trans (h j hj)
theorem Fed.lt {b : Nat} {S : List UInt8} {w : World} (h : Fed b S w) : b < w.heap.size := by
 obtain ⟨s, m, k, _, hp⟩ := h; exact lt_of_block hp
theorem Fed.below {b : Nat} {S : List UInt8} {w w' : World} (h : Fed b S w) (hb : Below w.heap.size w w') : Fed b S w' := by
 have hlt := h.lt
 obtain ⟨s, m, k, hh, hp⟩ := h
 exact ⟨s, m, k, hh, (hb.block b hlt).trans hp⟩
theorem wordText_int (n : Int) (w : World) (h0 : 0 ≤ n) (h1 : n < 4294967296) : Calls Tryz.prog 179 #[.int .u32 n] w fun e w' => e = .returned (.string ⟨(wordBytes (BitVec.ofNat 32 n.toNat)).toArray⟩) ∧ Below w.heap.size w w' := by
 have e : u32 (BitVec.ofNat 32 n.toNat) = n := by unfold u32; rw [BitVec.toNat_ofNat]; omega
 have := wordText_any (BitVec.ofNat 32 n.toNat) w
 rw [show wv (BitVec.ofNat 32 n.toNat) = .int .u32 n by unfold wv; rw [e]] at this
 exact this
def zeros (c : Nat) : ByteArray := ⟨(List.replicate c 0).toArray⟩
theorem zeros_size (c : Nat) : (zeros c).size = c := by simp [zeros, ByteArray.size]
theorem zeros_data (c : Nat) : (zeros c).data.toList = List.replicate c 0 := by simp [zeros]
theorem repeatL_zero : ∀ c, Lib.repeatL [0] c = List.replicate c 0 := by
 intro c
 induction c with
 | zero => rfl
 | succ c ih => simp [Lib.repeatL, List.replicate_succ] at ih ⊢; try exact ih
theorem repeat_zeros (c : Nat) (w : World) (hc : c < 64) :
  Calls Tryz.prog 205 #[.string ⟨#[0]⟩, .int .i64 c] w fun e w' => e = .returned (.string (zeros c)) ∧ Below w.heap.size w w' := by
 refine (Any.strings_Repeat lays105 extra ⟨#[0]⟩ c w (by omega) (by simp [ByteArray.size]; omega)).mono ?_
 rintro e w' ⟨rfl, hb⟩
 refine ⟨?_, hb⟩
 rw [repeatL_zero]; rfl
def wordStr (x : BitVec 32) : ByteArray := ⟨(wordBytes x).toArray⟩
theorem wordStr_size (x : BitVec 32) : (wordStr x).size = 4 := rfl
theorem wordStr_data (x : BitVec 32) : (wordStr x).data.toList = wordBytes x := rfl
theorem wordText_n (n : Int) (w : World) (h0 : 0 ≤ n) (h1 : n < 4294967296) : Calls Tryz.prog 179 #[.int .u32 n] w fun e w' => e = .returned (.string (wordStr (BitVec.ofNat 32 n.toNat))) ∧ Below w.heap.size w w' := wordText_int n w h0 h1
theorem wordText_str (x : BitVec 32) (w : World) : Calls Tryz.prog 179 #[wv x] w fun e w' => e = .returned (.string (wordStr x)) ∧ Below w.heap.size w w' := wordText_any x w
theorem builder_below {T e : TypeId} {B b : Nat} {bs : List Value} {w w' : World} (h : Lib.IsBuilder T e B b bs w) (hb : Below w.heap.size w w') : Lib.IsBuilder T e B b bs w' := by
 have hg : w.grownBy w' none := ⟨hb.os, hb.tape, hb.output, hb.size, fun k hk _ => hb.block k hk⟩
 have step : ∀ p, Lib.BuilderAt T e B b p bs w → Lib.BuilderAt T e B b p bs w' := by
  rintro p ⟨hB, v, hv, ho, hne⟩
  refine ⟨hB, v, (hb.block b (lt_of_block hv)).trans hv, ho.kept hg ?_, hne⟩
  cases v.ownBlock <;> simp
 exact h.elim (fun x => .inl (step _ x)) (fun x => .inr (step _ x))
theorem builder_new (w : World) : Lib.IsBuilder 211 5 w.heap.size w.heap.size (Lib.byteCells []) (w.alloc (.cells #[.pointer none, .slice none 0 0] 211)) :=
 .inl ⟨Nat.le_refl _, .slice none 0 0, heap_alloc_new w _, World.ownsRow_nil _ _ _ _, by simp [Value.ownBlock]⟩
theorem strCells_word (x : BitVec 32) : Lib.strCells (wordStr x) = Lib.byteCells (wordBytes x) := rfl
theorem byteCells_append (a b : List UInt8) : Lib.byteCells a ++ Lib.byteCells b = Lib.byteCells (a ++ b) := by simp [Lib.byteCells]
theorem tail_num (S : List UInt8) (X : List UInt8) : (S ++ 128 :: X) ++ (wordBytes (BitVec.ofNat 32 (S.length * 8 / 4294967296)) ++ wordBytes (BitVec.ofNat 32 (S.length * 8 % 4294967296))) = S ++ 128 :: X ++ num (8 * S.length) 8 := by
 rw [num_words, Nat.mul_comm 8 S.length]
 rw [show BitVec.ofNat 32 (S.length * 8 % 4294967296) = BitVec.ofNat 32 (S.length * 8) by apply BitVec.eq_of_toNat_eq; rw [BitVec.toNat_ofNat, BitVec.toNat_ofNat]; omega]
set_option maxRecDepth 100000 in
set_option maxHeartbeats 1000000 in
theorem finish_any (b : Nat) (S : List UInt8) (w : World) (hb1 : b ≠ 2) (hp : Fed b S w) (hsz : S.length ≤ 1000000000000) (hK : KOk w) :
  Calls Tryz.prog 180 #[.pointer (some ⟨b, 0, none⟩)] w fun e w' => e = .returned (.string ⟨(sha S).toArray⟩) ∧ OnlyB b w w' := by
 obtain ⟨s, m, h, hh, hp⟩ := hp
 have ht := (cell_of_row w b 73 _ _ _ hp).trans (pc_total _ _ _ _)
 have hc := (cell_of_row w b 72 _ _ _ hp).trans (pc_held _ _ _ _)
 have hpl := hh.place
 have h64 : (h : Int) < 64 := by omega
 have h0 : (0 : Int) ≤ (h : Int) := by omega
 have hS0 : (0 : Int) ≤ (S.length : Int) := by omega
 have hS1 : (S.length : Int) ≤ 1000000000000 := by omega
 have hn : ((119 : Int) - (h : Int)) % 64 = ((119 - h) % 64 : Nat) := by omega
 have HN := Lib.hid hn
 have HP := Lib.hid hpl
 clear hn hpl
 go_enter Tryz.func180, Tryz.ntmps180
 go_wp2_with fail
 rw [HN.out]
 have hcc : (119 - h) % 64 < 64 := by omega
 have HC := Lib.hid (show (119 - h) % 64 = (119 - S.length % 64) % 64 by rw [HP.out])
 generalize (119 - h) % 64 = c at hcc HC ⊢
 refine (repeat_zeros c _ hcc).mono ?_
 rintro e w1 ⟨rfl, hw1⟩
 have hF1 : Fed b S w1 := Fed.below ⟨s, m, h, hh, hp⟩ hw1
 have hK1 := hK.below hw1
 have hO1 := (OnlyB.refl b w).of_below hw1
 have hz := zeros_size c
 generalize hzz : zeros c = z at hz ⊢
 have HZ := Lib.hid (show z.data.toList = List.replicate c 0 by rw [← hzz, zeros_data])
 have hz1 : (z.size : Int) < 64 := by omega
 have hz0 : (0 : Int) ≤ (z.size : Int) := by omega
 have HZS := Lib.hid hz
 clear hzz hz
 go_wp2_with fail
 refine (feed_any b S _ _ hb1 hF1 (by rw [ByteArray.size_append]; show S.length + (1 + z.size) ≤ _; omega) hK1).mono ?_
 rintro e w2 ⟨rfl, ho2, hF2⟩
 have hK2 := hK1.only ho2 hb1
 have hO2 := hO1.trans ho2
 rw [ByteArray.data_append, Array.toList_append, HZ.out] at hF2
 have hF2' : Fed b (S ++ 128 :: List.replicate c 0) w2 := hF2
 clear hF1 hK1 hO1 ho2 hF2
 go_wp2_with fail
 refine (wordText_n _ _ (by omega) (by omega)).mono ?_
 rintro e w3 ⟨rfl, hw3⟩
 go_wp2_with fail
 refine (wordText_n _ _ (by omega) (by omega)).mono ?_
 rintro e w4 ⟨rfl, hw4⟩
 have hF4 := (hF2'.below hw3).below hw4
 have hK4 := (hK2.below hw3).below hw4
 have hO4 := (hO2.of_below hw3).of_below hw4
 clear hF2' hK2 hO2 hw3 hw4
 have hx1 := wordStr_size (BitVec.ofNat 32 ((S.length : Int) * 8 / 4294967296).toNat)
 have hx2 := wordStr_size (BitVec.ofNat 32 ((S.length : Int) * 8 % 4294967296).toNat)
 go_wp2_with fail
 refine (feed_any b _ _ _ hb1 hF4 (by rw [ByteArray.size_append, wordStr_size, wordStr_size, List.length_append, List.length_cons, List.length_replicate]; omega) hK4).mono ?_
 rintro e w5 ⟨rfl, ho5, hF5⟩
 have hO5 := hO4.trans ho5
 rw [ByteArray.data_append, Array.toList_append, wordStr_data, wordStr_data, HC.out, tail_num] at hF5
 obtain ⟨s5, m5, h5, hh5, hp5⟩ := hF5
 have hw5 := hh5.words
 have HX := Lib.hid (show sha S = s5.out by rw [hw5]; rfl)
 have hb5 : b < w5.heap.size := lt_of_block hp5
 clear hF4 hK4 hO4 ho5 hh5 hw5
 have hcw : ∀ j, j < 8 → w5.cell? ⟨b, j, none⟩ = some (wv (s5.get j)) := fun j hj => (cell_of_row w5 b _ _ _ _ hp5).trans (pc_word _ _ _ _ j hj)
 have c0 := hcw 0 (by omega)
 have c1 := hcw 1 (by omega)
 have c2 := hcw 2 (by omega)
 have c3 := hcw 3 (by omega)
 have c4 := hcw 4 (by omega)
 have c5 := hcw 5 (by omega)
 have c6 := hcw 6 (by omega)
 have c7 := hcw 7 (by omega)
 simp only [St.get] at c0 c1 c2 c3 c4 c5 c6 c7
 clear hcw
 dsimp only
 go_wp2_with fail
 go_loopw [38] (fun i wr => ∃ k : Nat, k ≤ 8 ∧ i = .int .i64 k ∧ Lib.IsBuilder 211 5 w5.heap.size w5.heap.size (Lib.byteCells (s5.outK k)) wr ∧ Below w5.heap.size w5 wr) (fun i _ => 8 - (intOf i).toNat)
 case atStart => exact ⟨0, by omega, rfl, builder_new w5, (Below.refl _ _).alloc (Nat.le_refl _) _⟩
 case round =>
  obtain ⟨k, hk, rfl, hB, hW⟩ := hrel
  by_cases hlt : k < 8
  ·have hix := index_st s5 k hlt
   have hk0 : (k : Int) < 8 := by omega
   have hsz := hW.size
   go_wp2_with fail
   refine (wordText_str _ _).mono ?_
   rintro e w6 ⟨rfl, hw6⟩
   have hB6 := builder_below hB hw6
   have hs6 := hw6.size
   dsimp only
   go_wp2_with fail
   refine (Any.Builder_WriteString lays166 extra w5.heap.size w5.heap.size _ _ _ hB6 (by rw [wordStr_size]; show (List.map _ _).length + 4 ≤ _; rw [List.length_map, outK_length]; omega) (by omega)).mono ?_
   rintro e w7 ⟨rfl, hB7, hw7⟩
   dsimp only
   go_wp2_with fail
   go_roundw
   case rel =>
    refine ⟨k + 1, by omega, by go_num, .inr ?_, (hW.trans (hw6.mono hsz)).trans hw7⟩
    rw [strCells_word, byteCells_append] at hB7
    exact hB7
   case measure => simp [intOf]; omega
  ·obtain rfl : k = 8 := by omega
   rw [outK_eight] at hB
   have hsz := hW.size
   clear hlt hk
   go_wp2_with fail
   refine (Any.Builder_String_any lays169 extra w5.heap.size w5.heap.size _ _ hB hsz).mono ?_
   rintro e w6 ⟨rfl, hw6⟩
   dsimp only
   go_wp2_with fail
   go_ret
   exact ⟨by rw [HX.out]; rfl, hO5.of_below (hW.trans hw6)⟩
end Go.Proofs.YthehblmjloohiaaGreatDoor.T8

namespace Go.Proofs.YthehblmjloohiaaGreatDoor.T8
set_option maxRecDepth 100000
open Go.RowKit Sha
def IOk (w : World) : Prop := ∀ j, j < 8 → w.cell? ⟨0, j, none⟩ = some (wv (init.get j))
def blank : Array Value := pc (fun _ => 0) (fun _ => 0) 0 0
def fresh : Array Value := pc init.get (fun _ => 0) 0 0
theorem zero36 : ∀ w : World, (zeroValue 239).run Tryz.prog w = .ok (.agg blank) w := fun _ => by kernel_rfl
theorem build36 : ∀ w : World, (Instr.build 239 #[(0, .agg #[wv init.a, wv init.b, wv init.c, wv init.d, wv init.e, wv init.f, wv init.g, wv init.h])]).run Tryz.prog w = .ok (.agg fresh) w := fun _ => by kernel_rfl
theorem blank_size : blank.size = 74 := pc_size _ _ _ _
theorem fresh_size : fresh.size = 74 := pc_size _ _ _ _
theorem fresh_one : (fresh.all fun x => x.oneCell') = true := by kernel_rfl
theorem fed_new (w : World) : Fed w.heap.size [] ((w.alloc (.cells blank 239)).setRow w.heap.size fresh) :=
 ⟨init, fun _ => 0, 0, Holds.nil _, setRow_heap _ _ _ _ _ _ (heap_alloc_new w _)⟩
theorem below_new (w : World) : Below w.heap.size w ((w.alloc (.cells blank 239)).setRow w.heap.size fresh) :=
 below_setRow ((Below.refl _ _).alloc (Nat.le_refl _) _) (Nat.le_refl _) _
structure Strs (a : Option Addr) (len : Nat) (ss : List ByteArray) (w : World) : Prop where
 count : len = ss.length
 cell : ∀ i, i < len → ∃ b off, a = some ⟨b, off, none⟩ ∧ w.cell? ⟨b, off + i, none⟩ = some (.string (ss.getD i ByteArray.empty))
theorem Strs.below {a : Option Addr} {len : Nat} {ss : List ByteArray} {w w' : World} (h : Strs a len ss w) (hb : Below w.heap.size w w') : Strs a len ss w' :=
 ⟨h.count, fun i hi => by
  obtain ⟨b, off, ha, hc⟩ := h.cell i hi
  exact ⟨b, off, ha, (hb.cell (p := ⟨b, off + i, none⟩) (block_lt_of_cell hc)).trans hc⟩⟩
attribute [local go_sem 9000] run_bytes1
def joined (ss : List ByteArray) : List UInt8 := ss.flatMap fun s => num s.size 4 ++ s.data.toList
theorem joined_take_succ (ss : List ByteArray) (k : Nat) (h : k < ss.length) : joined (ss.take (k + 1)) = joined (ss.take k) ++ (num (ss.getD k ByteArray.empty).size 4 ++ (ss.getD k ByteArray.empty).data.toList) := by
 rw [List.take_succ_eq_append_getElem h]
 unfold joined
 rw [List.flatMap_append]
 simp [List.getD, List.getElem?_eq_getElem h]
theorem joined_le (ss : List ByteArray) (k : Nat) : (joined (ss.take k)).length ≤ (joined ss).length := by
 have : joined ss = joined (ss.take k) ++ joined (ss.drop k) := by rw [joined, joined, joined, ← List.flatMap_append, List.take_append_drop]
 rw [this, List.length_append]; omega
set_option maxRecDepth 100000 in
set_option maxHeartbeats 1000000 in
theorem join_any (t : UInt8) (a : Option Addr) (len cap : Nat) (ss : List ByteArray) (w : World) (hK : KOk w) (hI : IOk w) (hS : Strs a len ss w) (hsz : 1 + (joined ss).length ≤ 4294967295) (hlen : len ≤ 1000000000000) :
  Calls Tryz.prog 152 #[bv t, .slice a len cap] w fun e w' => e = .returned (.string ⟨(sha (t :: joined ss)).toArray⟩) ∧ Below w.heap.size w w' := by
 have c0 := hI 0 (by omega)
 have c1 := hI 1 (by omega)
 have c2 := hI 2 (by omega)
 have c3 := hI 3 (by omega)
 have c4 := hI 4 (by omega)
 have c5 := hI 5 (by omega)
 have c6 := hI 6 (by omega)
 have c7 := hI 7 (by omega)
 simp only [St.get] at c0 c1 c2 c3 c4 c5 c6 c7
 have hz := zero36
 have hb := build36
 go_enter Tryz.func152, Tryz.ntmps152
 go_wp2_with (first
  | (refine wpList_store_row rfl 239 _ _ rfl w.heap.size fresh rfl rfl 239 blank (heap_alloc_new w _) (by rw [fresh_size]; kernel_rfl) (by rw [blank_size, fresh_size]) fresh_one ?_
     change wpList _ _ _ _ _ ((w.alloc (.cells blank 239)).setRow w.heap.size fresh)
     have hF := fed_new w
     have hW := below_new w
     generalize World.setRow _ _ _ = w2 at hF hW ⊢)
  |fail)
 refine (feed_any w.heap.size [] ⟨#[t]⟩ _ (by have := hK.lt; omega) (hF.below ((Below.refl _ _).alloc (Nat.le_refl _) _)) (by show 0 + 1 ≤ _; omega) ((hK.below hW).below ((Below.refl _ _).alloc (Nat.le_refl _) _))).mono ?_
 rintro e w3 ⟨rfl, ho, hF3⟩
 have hB1 : w.heap.size ≠ 2 := by have := hK.lt; omega
 have hW3 : Below w.heap.size w w3 := (hW.alloc hW.size _).trans (ho.below (Nat.le_refl _) (Nat.le_trans hW.size (by simp)))
 dsimp only
 clear hz hb c0 c1 c2 c3 c4 c5 c6 c7 hI hF hW ho
 go_wp2_with fail
 go_loopw [16] (fun i wr => ∃ k : Nat, k ≤ len ∧ i = .int .i64 k ∧ Fed w.heap.size (t :: joined (ss.take k)) wr ∧ Below w.heap.size w wr) (fun i _ => len - (intOf i).toNat)
 case atStart => exact ⟨0, by omega, rfl, hF3, hW3⟩
 case round =>
  clear hF3 hW3
  obtain ⟨k, hk, rfl, hF, hW⟩ := hrel
  by_cases hlt : k < len
  ·obtain ⟨b, off, rfl, hcell⟩ := hS.cell k hlt
   have hc : wr.cell? ⟨b, off + k, none⟩ = some (.string (ss.getD k ByteArray.empty)) := (hW.cell (p := ⟨b, off + k, none⟩) (block_lt_of_cell hcell)).trans hcell
   have hks : k < ss.length := by rw [← hS.count]; exact hlt
   have hle := joined_le ss (k + 1)
   rw [joined_take_succ ss k hks, List.length_append, List.length_append, num_length] at hle
   have HC := Lib.hid (joined_take_succ ss k hks)
   generalize ss.getD k ByteArray.empty = x at hc hle HC
   have hk0 : (k : Int) < (len : Int) := by omega
   have hxl : x.data.toList.length = x.size := Array.length_toList
   have hx : 1 + (joined (ss.take k)).length + 4 + x.size ≤ 4294967295 := by omega
   have hx1 : (x.size : Int) < 4294967296 := by omega
   have hx0 : (0 : Int) ≤ (x.size : Int) := by omega
   clear hcell hks hle hxl
   go_wp2_with fail
   refine (wordText_n _ _ (by omega) (by omega)).mono ?_
   rintro e w3 ⟨rfl, hw3⟩
   dsimp only
   go_wp2_with fail
   refine (feed_any w.heap.size _ _ w3 hB1 (hF.below hw3) (by rw [wordStr_size, List.length_cons]; omega) ((hK.below hW).below hw3)).mono ?_
   rintro e w4 ⟨rfl, ho4, hF4⟩
   dsimp only
   go_wp2_with fail
   refine (feed_any w.heap.size _ x w4 hB1 hF4 (by rw [wordStr_data, List.length_append, List.length_cons]; show _ + 1 + 4 + _ ≤ _; omega) (((hK.below hW).below hw3).only ho4 hB1)).mono ?_
   rintro e w5 ⟨rfl, ho5, hF5⟩
   dsimp only
   go_wp2_with fail
   go_roundw
   case rel =>
    have hsz3 := Nat.le_trans hW.size hw3.size
    refine ⟨k + 1, by omega, by go_num, ?_, ((hW.trans (hw3.mono hW.size)).trans (ho4.below (Nat.le_refl _) hsz3)).trans (ho5.below (Nat.le_refl _) (Nat.le_trans hsz3 ho4.size))⟩
    rw [HC.out, num4]
    have e : (t :: joined (ss.take k) ++ (wordStr (BitVec.ofNat 32 ((x.size : Int)).toNat)).data.toList) ++ x.data.toList = t :: (joined (ss.take k) ++ (wordBytes (BitVec.ofNat 32 x.size) ++ x.data.toList)) := by
     rw [wordStr_data]; simp
    rw [← e]; exact hF5
   case measure => simp [intOf]; omega
  ·obtain rfl : k = len := by omega
   rw [hS.count, List.take_length] at hF
   go_wp2_with fail
   refine (finish_any w.heap.size _ wr hB1 hF (by rw [List.length_cons]; omega) (hK.below hW)).mono ?_
   rintro e w3 ⟨rfl, ho⟩
   dsimp only
   go_wp2_with fail
   go_ret
   exact ⟨rfl, hW.trans (ho.below (Nat.le_refl _) hW.size)⟩
end Go.Proofs.YthehblmjloohiaaGreatDoor.T8

namespace Go.Proofs.YthehblmjloohiaaGreatDoor.T8
set_option maxRecDepth 100000
open Go.RowKit Go.Less Sha
theorem IOk.lt {w : World} (h : IOk w) : 0 < w.heap.size := by
 have := h 0 (by omega)
 rcases Nat.lt_or_ge 0 w.heap.size with h1 | h1
 ·exact h1
 ·simp [World.cell?, Array.getElem?_eq_none h1] at this
theorem IOk.below {w w' : World} (h : IOk w) (hb : Below w.heap.size w w') : IOk w' := fun j hj => (hb.cell (p := ⟨0, j, none⟩) h.lt).trans (h j hj)
structure Dg (w : World) : Prop where
 k : KOk w
 i : IOk w
theorem Dg.below {w w' : World} (h : Dg w) (hb : Below w.heap.size w w') : Dg w' := ⟨h.k.below hb, h.i.below hb⟩
theorem cell_alloc (w : World) (cs : Array Value) (t : TypeId) (j : Nat) : (w.alloc (.cells cs t)).cell? ⟨w.heap.size, j, none⟩ = cs[j]? := World.cell?_alloc_new w cs t j
theorem size_data (d : ByteArray) : d.data.toList.length = d.size := Array.length_toList
theorem join_four (k v a b : ByteArray) (w : World) (g : Nat) (hg : g = w.heap.size) (hD : Dg w) (hk : k.size ≤ 100) (hv : v.size ≤ 10000) (ha : a.size ≤ 32) (hb : b.size ≤ 32) :
  Calls Tryz.prog 152 #[bv 1, .slice (some ⟨g, 0, none⟩) 4 4] (w.alloc (.cells #[.string k, .string v, .string a, .string b] 9)) fun e w' => e = .returned (.string (jn k v a b)) ∧ Below w.heap.size w w' := by
 subst hg
 have hB := below_one w (.cells #[.string k, .string v, .string a, .string b] 9)
 have hS : Strs (some ⟨w.heap.size, 0, none⟩) 4 [k, v, a, b] (w.alloc (.cells #[.string k, .string v, .string a, .string b] 9)) :=
  ⟨rfl, fun i hi => ⟨w.heap.size, 0, rfl, by
   rw [Nat.zero_add, cell_alloc]
   match i, hi with
   | 0, _ => rfl
   | 1, _ => rfl
   | 2, _ => rfl
   | 3, _ => rfl⟩⟩
 refine (join_any 1 (some ⟨w.heap.size, 0, none⟩) 4 4 [k, v, a, b] _ (hD.k.below hB) (hD.i.below hB) hS ?_ (by omega)).mono ?_
 ·simp only [joined, List.flatMap_cons, List.flatMap_nil, List.length_append, num_length, size_data, List.length_nil]; omega
 ·rintro e w' ⟨rfl, h⟩
  exact ⟨rfl, hB.trans (h.mono hB.size)⟩
def vl : Tt → ByteArray
 | .leaf => ⟨#[]⟩
 | .node _ _ v _ => v
theorem ld_eq (t : Tt) : ld t = .agg #[.string (vl t), .string (nm t), .int .i64 ((Tr.T.len t : Nat) : Int)] := by cases t <;> rfl
set_option maxHeartbeats 1000000 in
theorem above_any (v n0 : ByteArray) (c0 : Int) (k : ByteArray) (l r : Tt) (w : World) (hD : Dg w) (hk : k.size ≤ 100) (hv : v.size ≤ 10000) (hl : l.len ≤ 1000000) (hr : r.len ≤ 1000000) :
  Calls Tryz.prog 263 #[.agg #[.string v, .string n0, .int .i64 c0], .string k, ld l, ld r] w fun e w' => e = .returned (ld (.node l k v r)) ∧ Below w.heap.size w w' := by
 rw [ld_eq l, ld_eq r, ld_eq (.node l k v r), nm_node]
 rw [show vl (.node l k v r) = v from rfl]
 have HN := Lib.hid (show (((Tr.T.node l k v r).len : Nat) : Int) = (l.len : Int) + 1 + (r.len : Int) by simp only [Tr.T.len]; omega)
 have HJ := Lib.hid (fun W g hg (hD : Dg W) => join_four k v (nm l) (nm r) W g hg hD hk hv (nm_size l) (nm_size r))
 rw [HN.out]
 generalize l.len = cl at *
 generalize r.len = cr at *
 generalize nm l = nl at *
 generalize nm r = nr at *
 generalize vl l = a1 at *
 generalize vl r = a2 at *
 have hz := zero51
 have HD := Lib.hid hD
 clear hD HN
 generalize jn k v nl nr = nn at *
 go_enter Tryz.func263, Tryz.ntmps263
 go_wp2_with fail
 have hB := (((below_one w (.cells #[.string v, .string n0, .int .i64 c0] 122)).alloc (by simp) (.cells #[.string a1, .string nl, .int .i64 (cl : Int)] 122)).alloc (by simp; omega) (.cells #[.string a2, .string nr, .int .i64 (cr : Int)] 122)).alloc (by simp; omega) (.cells #[.string ⟨#[]⟩, .string ⟨#[]⟩, .int .i64 0] 122)
 refine (HJ.out _ _ (by simp) (HD.out.below hB)).mono ?_
 rintro e w1 ⟨rfl, hw1⟩
 have q := fun b o h => hw1.cell (p := ⟨b, o, none⟩) h
 have f := fun b o h => hw1.frozen (p := ⟨b, o, none⟩) h
 have c00 := (q w.heap.size 0 (by simp; omega)).trans (c := some (.string v)) (by go_simp)
 have c01 := (q w.heap.size 1 (by simp; omega)).trans (c := some (.string n0)) (by go_simp)
 have c02 := (q w.heap.size 2 (by simp; omega)).trans (c := some (.int .i64 c0)) (by go_simp)
 have c12 := (q (w.heap.size + 1) 2 (by simp)).trans (c := some (.int .i64 (cl : Int))) (by go_simp)
 have c22 := (q (w.heap.size + 1 + 1) 2 (by simp)).trans (c := some (.int .i64 (cr : Int))) (by go_simp)
 have c30 := (q (w.heap.size + 1 + 1 + 1) 0 (by simp)).trans (c := some (.string ⟨#[]⟩)) (by go_simp)
 have c31 := (q (w.heap.size + 1 + 1 + 1) 1 (by simp)).trans (c := some (.string ⟨#[]⟩)) (by go_simp)
 have c32 := (q (w.heap.size + 1 + 1 + 1) 2 (by simp)).trans (c := some (.int .i64 0)) (by go_simp)
 have f0 := fun o => (f w.heap.size o (by simp; omega)).trans (c := false) (by go_simp)
 have f3 := fun o => (f (w.heap.size + 1 + 1 + 1) o (by simp)).trans (c := false) (by go_simp)
 clear q f
 dsimp only
 have HB := Lib.hid (hB.trans (hw1.mono hB.size))
 go_wp2_with fail
 refine bodyPost_ret (v := .agg #[.string v, .string nn, .int .i64 ((cl : Int) + 1 + (cr : Int))]) (by simp [results, Tryz.results263, go_sem, c30, c31, c32]) rfl ⟨rfl, ?_⟩
 exact ((((HB.out.setCell (Nat.le_refl _) _).setCell (Nat.le_refl _) _).setCell (by simp; omega) _).setCell (by simp; omega) _).setCell (by simp; omega) _
end Go.Proofs.YthehblmjloohiaaGreatDoor.T8
