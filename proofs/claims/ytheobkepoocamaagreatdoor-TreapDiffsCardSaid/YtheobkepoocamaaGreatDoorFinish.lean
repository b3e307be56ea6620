/- The digest of what was fed. -/
import Derived.Test.YtheobkepoocamaaGreatDoorFeed
import Derived.Test.YtheobkepoocamaaGreatDoorShelf
namespace Go.Proofs.YtheobkepoocamaaGreatDoor
set_option maxRecDepth 100000
open Go.RowKit Sha

/-- The words of the rounds lie where the program has them. -/
def KOk (w : World) : Prop := ∀ j, j < 64 → w.cell? ⟨2, j, none⟩ = some (wv (kAt j))
theorem KOk.lt {w : World} (h : KOk w) : 2 < w.heap.size := lt_of_K h
theorem KOk.below {w w' : World} (h : KOk w) (hb : Below w.heap.size w w') : KOk w' := fun j hj => (hb.cell (p := ⟨2, j, none⟩) h.lt).trans (h j hj)
theorem KOk.only {b : Nat} {w w' : World} (h : KOk w) (hb : OnlyB b w w') (hb1 : b ≠ 2) : KOk w' := fun j hj => (hb.cell ⟨2, j, none⟩ h.lt hb1.symm).trans (h j hj)
theorem Fed.lt {b : Nat} {S : List UInt8} {w : World} (h : Fed b S w) : b < w.heap.size := by
  obtain ⟨s, m, k, _, hp⟩ := h; exact lt_of_block hp
theorem Fed.below {b : Nat} {S : List UInt8} {w w' : World} (h : Fed b S w) (hb : Below w.heap.size w w') : Fed b S w' := by
  have hlt := h.lt
  obtain ⟨s, m, k, hh, hp⟩ := h
  exact ⟨s, m, k, hh, (hb.block b hlt).trans hp⟩

theorem wordText_int (n : Int) (w : World) (h0 : 0 ≤ n) (h1 : n < 4294967296) : Calls Tryz.prog 82 #[.int .u32 n] w fun e w' => e = .returned (.string ⟨(wordBytes (BitVec.ofNat 32 n.toNat)).toArray⟩) ∧ Below w.heap.size w w' := by
  have e : u32 (BitVec.ofNat 32 n.toNat) = n := by unfold u32; rw [BitVec.toNat_ofNat]; omega
  have := wordText_any (BitVec.ofNat 32 n.toNat) w
  rw [show wv (BitVec.ofNat 32 n.toNat) = .int .u32 n by unfold wv; rw [e]] at this
  exact this
def zeros (c : Nat) : ByteArray := ⟨(List.replicate c 0).toArray⟩
theorem zeros_size (c : Nat) : (zeros c).size = c := by simp [zeros, ByteArray.size]
theorem zeros_data (c : Nat) : (zeros c).data.toList = List.replicate c 0 := by simp [zeros]
theorem repeatL_zero : ∀ c, Lib.repeatL [0] c = List.replicate c 0 := by
  intro c
  induction c with
  | zero => rfl
  | succ c ih => simp [Lib.repeatL, List.replicate_succ] at ih ⊢; try exact ih
theorem repeat_zeros (c : Nat) (w : World) (hc : c < 64) :
    Calls Tryz.prog 89 #[.string ⟨#[0]⟩, .int .i64 c] w fun e w' => e = .returned (.string (zeros c)) ∧ Below w.heap.size w w' := by
  refine (Any.strings_Repeat lays105 extra ⟨#[0]⟩ c w (by omega) (by simp [ByteArray.size]; omega)).mono ?_
  rintro e w' ⟨rfl, hb⟩
  refine ⟨?_, hb⟩
  rw [repeatL_zero]; rfl
def wordStr (x : BitVec 32) : ByteArray := ⟨(wordBytes x).toArray⟩
theorem wordStr_size (x : BitVec 32) : (wordStr x).size = 4 := rfl
theorem wordStr_data (x : BitVec 32) : (wordStr x).data.toList = wordBytes x := rfl
theorem wordText_n (n : Int) (w : World) (h0 : 0 ≤ n) (h1 : n < 4294967296) : Calls Tryz.prog 82 #[.int .u32 n] w fun e w' => e = .returned (.string (wordStr (BitVec.ofNat 32 n.toNat))) ∧ Below w.heap.size w w' := wordText_int n w h0 h1
theorem wordText_str (x : BitVec 32) (w : World) : Calls Tryz.prog 82 #[wv x] w fun e w' => e = .returned (.string (wordStr x)) ∧ Below w.heap.size w w' := wordText_any x w
theorem builder_below {T e : TypeId} {B b : Nat} {bs : List Value} {w w' : World} (h : Lib.IsBuilder T e B b bs w) (hb : Below w.heap.size w w') : Lib.IsBuilder T e B b bs w' := by
  have hg : w.grownBy w' none := ⟨hb.os, hb.tape, hb.output, hb.size, fun k hk _ => hb.block k hk⟩
  have step : ∀ p, Lib.BuilderAt T e B b p bs w → Lib.BuilderAt T e B b p bs w' := by
    rintro p ⟨hB, v, hv, ho, hne⟩
    refine ⟨hB, v, (hb.block b (lt_of_block hv)).trans hv, ho.kept hg ?_, hne⟩
    cases v.ownBlock <;> simp
  exact h.elim (fun x => .inl (step _ x)) (fun x => .inr (step _ x))

theorem builder_new (w : World) : Lib.IsBuilder 135 5 w.heap.size w.heap.size (Lib.byteCells []) (w.alloc (.cells #[.pointer none, .slice none 0 0] 135)) :=
  .inl ⟨Nat.le_refl _, .slice none 0 0, heap_alloc_new w _, World.ownsRow_nil _ _ _ _, by simp [Value.ownBlock]⟩
theorem strCells_word (x : BitVec 32) : Lib.strCells (wordStr x) = Lib.byteCells (wordBytes x) := rfl
theorem byteCells_append (a b : List UInt8) : Lib.byteCells a ++ Lib.byteCells b = Lib.byteCells (a ++ b) := by simp [Lib.byteCells]
theorem tail_num (S : List UInt8) (X : List UInt8) : (S ++ 128 :: X) ++ (wordBytes (BitVec.ofNat 32 (S.length * 8 / 4294967296)) ++ wordBytes (BitVec.ofNat 32 (S.length * 8 % 4294967296))) = S ++ 128 :: X ++ num (8 * S.length) 8 := by
  rw [num_words, Nat.mul_comm 8 S.length]
  rw [show BitVec.ofNat 32 (S.length * 8 % 4294967296) = BitVec.ofNat 32 (S.length * 8) by apply BitVec.eq_of_toNat_eq; rw [BitVec.toNat_ofNat, BitVec.toNat_ofNat]; omega]
set_option maxRecDepth 100000 in
set_option maxHeartbeats 1000000 in
theorem finish_any (b : Nat) (S : List UInt8) (w : World) (hb1 : b ≠ 2) (hp : Fed b S w) (hsz : S.length ≤ 1000000000000) (hK : KOk w) :
    Calls Tryz.prog 83 #[.pointer (some ⟨b, 0, none⟩)] w fun e w' => e = .returned (.string ⟨(sha S).toArray⟩) ∧ OnlyB b w w' := by
  obtain ⟨s, m, h, hh, hp⟩ := hp
  have ht := (cell_of_row w b 73 _ _ _ hp).trans (pc_total _ _ _ _)
  have hc := (cell_of_row w b 72 _ _ _ hp).trans (pc_held _ _ _ _)
  have hpl := hh.place
  have h64 : (h : Int) < 64 := by omega
  have h0 : (0 : Int) ≤ (h : Int) := by omega
  have hS0 : (0 : Int) ≤ (S.length : Int) := by omega
  have hS1 : (S.length : Int) ≤ 1000000000000 := by omega
  have hn : ((119 : Int) - (h : Int)) % 64 = ((119 - h) % 64 : Nat) := by omega
  have HN := Lib.hid hn
  have HP := Lib.hid hpl
  clear hn hpl
  go_enter Tryz.func83, Tryz.ntmps83
  go_wp2_with fail
  rw [HN.out]
  have hcc : (119 - h) % 64 < 64 := by omega
  have HC := Lib.hid (show (119 - h) % 64 = (119 - S.length % 64) % 64 by rw [HP.out])
  generalize (119 - h) % 64 = c at hcc HC ⊢
  refine (repeat_zeros c _ hcc).mono ?_
  rintro e w1 ⟨rfl, hw1⟩
  have hF1 : Fed b S w1 := Fed.below ⟨s, m, h, hh, hp⟩ hw1
  have hK1 := hK.below hw1
  have hO1 := (OnlyB.refl b w).of_below hw1
  have hz := zeros_size c
  generalize hzz : zeros c = z at hz ⊢
  have HZ := Lib.hid (show z.data.toList = List.replicate c 0 by rw [← hzz, zeros_data])
  have hz1 : (z.size : Int) < 64 := by omega
  have hz0 : (0 : Int) ≤ (z.size : Int) := by omega
  have HZS := Lib.hid hz
  clear hzz hz
  go_wp2_with fail
  refine (feed_any b S _ _ hb1 hF1 (by rw [ByteArray.size_append]; show S.length + (1 + z.size) ≤ _; omega) hK1).mono ?_
  rintro e w2 ⟨rfl, ho2, hF2⟩
  have hK2 := hK1.only ho2 hb1
  have hO2 := hO1.trans ho2
  rw [ByteArray.data_append, Array.toList_append, HZ.out] at hF2
  have hF2' : Fed b (S ++ 128 :: List.replicate c 0) w2 := hF2
  clear hF1 hK1 hO1 ho2 hF2
  go_wp2_with fail
  refine (wordText_n _ _ (by omega) (by omega)).mono ?_
  rintro e w3 ⟨rfl, hw3⟩
  go_wp2_with fail
  refine (wordText_n _ _ (by omega) (by omega)).mono ?_
  rintro e w4 ⟨rfl, hw4⟩
  have hF4 := (hF2'.below hw3).below hw4
  have hK4 := (hK2.below hw3).below hw4
  have hO4 := (hO2.of_below hw3).of_below hw4
  clear hF2' hK2 hO2 hw3 hw4
  have hx1 := wordStr_size (BitVec.ofNat 32 ((S.length : Int) * 8 / 4294967296).toNat)
  have hx2 := wordStr_size (BitVec.ofNat 32 ((S.length : Int) * 8 % 4294967296).toNat)
  go_wp2_with fail
  refine (feed_any b _ _ _ hb1 hF4 (by rw [ByteArray.size_append, wordStr_size, wordStr_size, List.length_append, List.length_cons, List.length_replicate]; omega) hK4).mono ?_
  rintro e w5 ⟨rfl, ho5, hF5⟩
  have hO5 := hO4.trans ho5
  rw [ByteArray.data_append, Array.toList_append, wordStr_data, wordStr_data, HC.out, tail_num] at hF5
  obtain ⟨s5, m5, h5, hh5, hp5⟩ := hF5
  have hw5 := hh5.words
  have HX := Lib.hid (show sha S = s5.out by rw [hw5]; rfl)
  have hb5 : b < w5.heap.size := lt_of_block hp5
  clear hF4 hK4 hO4 ho5 hh5 hw5
  have hcw : ∀ j, j < 8 → w5.cell? ⟨b, j, none⟩ = some (wv (s5.get j)) := fun j hj => (cell_of_row w5 b _ _ _ _ hp5).trans (pc_word _ _ _ _ j hj)
  have c0 := hcw 0 (by omega)
  have c1 := hcw 1 (by omega)
  have c2 := hcw 2 (by omega)
  have c3 := hcw 3 (by omega)
  have c4 := hcw 4 (by omega)
  have c5 := hcw 5 (by omega)
  have c6 := hcw 6 (by omega)
  have c7 := hcw 7 (by omega)
  simp only [St.get] at c0 c1 c2 c3 c4 c5 c6 c7
  clear hcw
  dsimp only
  go_wp2_with fail
  go_loopw [38] (fun i wr => ∃ k : Nat, k ≤ 8 ∧ i = .int .i64 k ∧ Lib.IsBuilder 135 5 w5.heap.size w5.heap.size (Lib.byteCells (s5.outK k)) wr ∧ Below w5.heap.size w5 wr) (fun i _ => 8 - (intOf i).toNat)
  case atStart => exact ⟨0, by omega, rfl, builder_new w5, (Below.refl _ _).alloc (Nat.le_refl _) _⟩
  case round =>
    obtain ⟨k, hk, rfl, hB, hW⟩ := hrel
    by_cases hlt : k < 8
    · have hix := index_st s5 k hlt
      have hk0 : (k : Int) < 8 := by omega
      have hsz := hW.size
      go_wp2_with fail
      refine (wordText_str _ _).mono ?_
      rintro e w6 ⟨rfl, hw6⟩
      have hB6 := builder_below hB hw6
      have hs6 := hw6.size
      dsimp only
      go_wp2_with fail
      refine (Any.Builder_WriteString lays166 extra w5.heap.size w5.heap.size _ _ _ hB6 (by rw [wordStr_size]; show (List.map _ _).length + 4 ≤ _; rw [List.length_map, outK_length]; omega) (by omega)).mono ?_
      rintro e w7 ⟨rfl, hB7, hw7⟩
      dsimp only
      go_wp2_with fail
      go_roundw
      case rel =>
        refine ⟨k + 1, by omega, by go_num, .inr ?_, (hW.trans (hw6.mono hsz)).trans hw7⟩
        rw [strCells_word, byteCells_append] at hB7
        exact hB7
      case measure => simp [intOf]; omega
    · obtain rfl : k = 8 := by omega
      rw [outK_eight] at hB
      have hsz := hW.size
      clear hlt hk
      go_wp2_with fail
      refine (Any.Builder_String_any lays169 extra w5.heap.size w5.heap.size _ _ hB hsz).mono ?_
      rintro e w6 ⟨rfl, hw6⟩
      dsimp only
      go_wp2_with fail
      go_ret
      exact ⟨by rw [HX.out]; rfl, hO5.of_below (hW.trans hw6)⟩
end Go.Proofs.YtheobkepoocamaaGreatDoor
