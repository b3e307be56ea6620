/- digest.Sum and digest.Join. -/
import Derived.Test.YtheobkepoocamaaGreatDoorFinish
namespace Go.Proofs.YtheobkepoocamaaGreatDoor
set_option maxRecDepth 100000
open Go.RowKit Sha

/-- The words that a press begins with lie where the program has them. -/
def IOk (w : World) : Prop := ∀ j, j < 8 → w.cell? ⟨1, j, none⟩ = some (wv (init.get j))

def blank : Array Value := pc (fun _ => 0) (fun _ => 0) 0 0
def fresh : Array Value := pc init.get (fun _ => 0) 0 0
theorem zero36 : ∀ w : World, (zeroValue 123).run Tryz.prog w = .ok (.agg blank) w := fun _ => by kernel_rfl
theorem build36 : ∀ w : World, (Instr.build 123 #[(0, .agg #[wv init.a, wv init.b, wv init.c, wv init.d, wv init.e, wv init.f, wv init.g, wv init.h])]).run Tryz.prog w = .ok (.agg fresh) w := fun _ => by kernel_rfl
theorem blank_size : blank.size = 74 := pc_size _ _ _ _
theorem fresh_size : fresh.size = 74 := pc_size _ _ _ _
theorem fresh_one : (fresh.all fun x => x.oneCell') = true := by kernel_rfl
theorem fed_new (w : World) : Fed w.heap.size [] ((w.alloc (.cells blank 123)).setRow w.heap.size fresh) :=
  ⟨init, fun _ => 0, 0, Holds.nil _, setRow_heap _ _ _ _ _ _ (heap_alloc_new w _)⟩
theorem below_new (w : World) : Below w.heap.size w ((w.alloc (.cells blank 123)).setRow w.heap.size fresh) :=
  below_setRow ((Below.refl _ _).alloc (Nat.le_refl _) _) (Nat.le_refl _) _

/-- A slice of texts. -/
structure Strs (a : Option Addr) (len : Nat) (ss : List ByteArray) (w : World) : Prop where
  count : len = ss.length
  cell : ∀ i, i < len → ∃ b off, a = some ⟨b, off, none⟩ ∧ w.cell? ⟨b, off + i, none⟩ = some (.string (ss.getD i ByteArray.empty))
theorem Strs.below {a : Option Addr} {len : Nat} {ss : List ByteArray} {w w' : World} (h : Strs a len ss w) (hb : Below w.heap.size w w') : Strs a len ss w' :=
  ⟨h.count, fun i hi => by
    obtain ⟨b, off, ha, hc⟩ := h.cell i hi
    exact ⟨b, off, ha, (hb.cell (p := ⟨b, off + i, none⟩) (block_lt_of_cell hc)).trans hc⟩⟩
def cat (ss : List ByteArray) : List UInt8 := ss.flatMap fun s => s.data.toList
theorem cat_take_succ (ss : List ByteArray) (k : Nat) (h : k < ss.length) : cat (ss.take (k + 1)) = cat (ss.take k) ++ (ss.getD k ByteArray.empty).data.toList := by
  rw [List.take_succ_eq_append_getElem h]
  unfold cat
  rw [List.flatMap_append]
  simp [List.getD, List.getElem?_eq_getElem h]
theorem cat_le (ss : List ByteArray) (k : Nat) : (cat (ss.take k)).length ≤ (cat ss).length := by
  have : cat ss = cat (ss.take k) ++ cat (ss.drop k) := by rw [cat, cat, cat, ← List.flatMap_append, List.take_append_drop]
  rw [this, List.length_append]; omega

attribute [local go_sem 9000] run_bytes1
def joined (ss : List ByteArray) : List UInt8 := ss.flatMap fun s => num s.size 4 ++ s.data.toList
theorem joined_take_succ (ss : List ByteArray) (k : Nat) (h : k < ss.length) : joined (ss.take (k + 1)) = joined (ss.take k) ++ (num (ss.getD k ByteArray.empty).size 4 ++ (ss.getD k ByteArray.empty).data.toList) := by
  rw [List.take_succ_eq_append_getElem h]
  unfold joined
  rw [List.flatMap_append]
  simp [List.getD, List.getElem?_eq_getElem h]
theorem joined_le (ss : List ByteArray) (k : Nat) : (joined (ss.take k)).length ≤ (joined ss).length := by
  have : joined ss = joined (ss.take k) ++ joined (ss.drop k) := by rw [joined, joined, joined, ← List.flatMap_append, List.take_append_drop]
  rw [this, List.length_append]; omega

set_option maxRecDepth 100000 in
set_option maxHeartbeats 1000000 in
theorem join_any (t : UInt8) (a : Option Addr) (len cap : Nat) (ss : List ByteArray) (w : World) (hK : KOk w) (hI : IOk w) (hS : Strs a len ss w) (hsz : 1 + (joined ss).length ≤ 4294967295) (hlen : len ≤ 1000000000000) :
    Calls Tryz.prog 63 #[bv t, .slice a len cap] w fun e w' => e = .returned (.string ⟨(sha (t :: joined ss)).toArray⟩) ∧ Below w.heap.size w w' := by
  have c0 := hI 0 (by omega)
  have c1 := hI 1 (by omega)
  have c2 := hI 2 (by omega)
  have c3 := hI 3 (by omega)
  have c4 := hI 4 (by omega)
  have c5 := hI 5 (by omega)
  have c6 := hI 6 (by omega)
  have c7 := hI 7 (by omega)
  simp only [St.get] at c0 c1 c2 c3 c4 c5 c6 c7
  have hz := zero36
  have hb := build36
  go_enter Tryz.func63, Tryz.ntmps63
  go_wp2_with (first
    | (refine wpList_store_row rfl 123 _ _ rfl w.heap.size fresh rfl rfl 123 blank (heap_alloc_new w _) (by rw [fresh_size]; kernel_rfl) (by rw [blank_size, fresh_size]) fresh_one ?_
       change wpList _ _ _ _ _ ((w.alloc (.cells blank 123)).setRow w.heap.size fresh)
       have hF := fed_new w
       have hW := below_new w
       generalize World.setRow _ _ _ = w2 at hF hW ⊢)
    | fail)
  refine (feed_any w.heap.size [] ⟨#[t]⟩ _ (by have := hK.lt; omega) (hF.below ((Below.refl _ _).alloc (Nat.le_refl _) _)) (by show 0 + 1 ≤ _; omega) ((hK.below hW).below ((Below.refl _ _).alloc (Nat.le_refl _) _))).mono ?_
  rintro e w3 ⟨rfl, ho, hF3⟩
  have hB1 : w.heap.size ≠ 2 := by have := hK.lt; omega
  have hW3 : Below w.heap.size w w3 := (hW.alloc hW.size _).trans (ho.below (Nat.le_refl _) (Nat.le_trans hW.size (by simp)))
  dsimp only
  clear hz hb c0 c1 c2 c3 c4 c5 c6 c7 hI hF hW ho
  go_wp2_with fail
  go_loopw [16] (fun i wr => ∃ k : Nat, k ≤ len ∧ i = .int .i64 k ∧ Fed w.heap.size (t :: joined (ss.take k)) wr ∧ Below w.heap.size w wr) (fun i _ => len - (intOf i).toNat)
  case atStart => exact ⟨0, by omega, rfl, hF3, hW3⟩
  case round =>
    clear hF3 hW3
    obtain ⟨k, hk, rfl, hF, hW⟩ := hrel
    by_cases hlt : k < len
    · obtain ⟨b, off, rfl, hcell⟩ := hS.cell k hlt
      have hc : wr.cell? ⟨b, off + k, none⟩ = some (.string (ss.getD k ByteArray.empty)) := (hW.cell (p := ⟨b, off + k, none⟩) (block_lt_of_cell hcell)).trans hcell
      have hks : k < ss.length := by rw [← hS.count]; exact hlt
      have hle := joined_le ss (k + 1)
      rw [joined_take_succ ss k hks, List.length_append, List.length_append, num_length] at hle
      have HC := Lib.hid (joined_take_succ ss k hks)
      generalize ss.getD k ByteArray.empty = x at hc hle HC
      have hk0 : (k : Int) < (len : Int) := by omega
      have hxl : x.data.toList.length = x.size := Array.length_toList
      have hx : 1 + (joined (ss.take k)).length + 4 + x.size ≤ 4294967295 := by omega
      have hx1 : (x.size : Int) < 4294967296 := by omega
      have hx0 : (0 : Int) ≤ (x.size : Int) := by omega
      clear hcell hks hle hxl
      go_wp2_with fail
      refine (wordText_n _ _ (by omega) (by omega)).mono ?_
      rintro e w3 ⟨rfl, hw3⟩
      dsimp only
      go_wp2_with fail
      refine (feed_any w.heap.size _ _ w3 hB1 (hF.below hw3) (by rw [wordStr_size, List.length_cons]; omega) ((hK.below hW).below hw3)).mono ?_
      rintro e w4 ⟨rfl, ho4, hF4⟩
      dsimp only
      go_wp2_with fail
      refine (feed_any w.heap.size _ x w4 hB1 hF4 (by rw [wordStr_data, List.length_append, List.length_cons]; show _ + 1 + 4 + _ ≤ _; omega) (((hK.below hW).below hw3).only ho4 hB1)).mono ?_
      rintro e w5 ⟨rfl, ho5, hF5⟩
      dsimp only
      go_wp2_with fail
      go_roundw
      case rel =>
        have hsz3 := Nat.le_trans hW.size hw3.size
        refine ⟨k + 1, by omega, by go_num, ?_, ((hW.trans (hw3.mono hW.size)).trans (ho4.below (Nat.le_refl _) hsz3)).trans (ho5.below (Nat.le_refl _) (Nat.le_trans hsz3 ho4.size))⟩
        rw [HC.out, num4]
        have e : (t :: joined (ss.take k) ++ (wordStr (BitVec.ofNat 32 ((x.size : Int)).toNat)).data.toList) ++ x.data.toList = t :: (joined (ss.take k) ++ (wordBytes (BitVec.ofNat 32 x.size) ++ x.data.toList)) := by
          rw [wordStr_data]; simp
        rw [← e]; exact hF5
      case measure => simp [intOf]; omega
    · obtain rfl : k = len := by omega
      rw [hS.count, List.take_length] at hF
      go_wp2_with fail
      refine (finish_any w.heap.size _ wr hB1 hF (by rw [List.length_cons]; omega) (hK.below hW)).mono ?_
      rintro e w3 ⟨rfl, ho⟩
      dsimp only
      go_wp2_with fail
      go_ret
      exact ⟨rfl, hW.trans (ho.below (Nat.le_refl _) hW.size)⟩
end Go.Proofs.YtheobkepoocamaaGreatDoor
