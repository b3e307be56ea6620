/- digest.Sum and digest.Join. -/
import Derived.Test.YtnapjloapgfcfaaDoorFinish
namespace Go.Proofs.YtnapjloapgfcfaaDoor
set_option maxRecDepth 100000
open Go.RowKit Sha

/-- The words that a press begins with lie where the program has them. -/
def IOk (w : World) : Prop := ∀ j, j < 8 → w.cell? ⟨0, j, none⟩ = some (wv (init.get j))

def blank : Array Value := pc (fun _ => 0) (fun _ => 0) 0 0
def fresh : Array Value := pc init.get (fun _ => 0) 0 0
theorem zero36 : ∀ w : World, (zeroValue 75).run Tryd.prog w = .ok (.agg blank) w := fun _ => by kernel_rfl
theorem build36 : ∀ w : World, (Instr.build 75 #[(0, .agg #[wv init.a, wv init.b, wv init.c, wv init.d, wv init.e, wv init.f, wv init.g, wv init.h])]).run Tryd.prog w = .ok (.agg fresh) w := fun _ => by kernel_rfl
theorem blank_size : blank.size = 74 := pc_size _ _ _ _
theorem fresh_size : fresh.size = 74 := pc_size _ _ _ _
theorem fresh_one : (fresh.all fun x => x.oneCell') = true := by kernel_rfl
theorem fed_new (w : World) : Fed w.heap.size [] ((w.alloc (.cells blank 75)).setRow w.heap.size fresh) :=
  ⟨init, fun _ => 0, 0, Holds.nil _, setRow_heap _ _ _ _ _ _ (heap_alloc_new w _)⟩
theorem below_new (w : World) : Below w.heap.size w ((w.alloc (.cells blank 75)).setRow w.heap.size fresh) :=
  below_setRow ((Below.refl _ _).alloc (Nat.le_refl _) _) (Nat.le_refl _) _

/-- A slice of texts. -/
structure Strs (a : Option Addr) (len : Nat) (ss : List ByteArray) (w : World) : Prop where
  count : len = ss.length
  cell : ∀ i, i < len → ∃ b off, a = some ⟨b, off, none⟩ ∧ w.cell? ⟨b, off + i, none⟩ = some (.string (ss.getD i ByteArray.empty))
theorem Strs.below {a : Option Addr} {len : Nat} {ss : List ByteArray} {w w' : World} (h : Strs a len ss w) (hb : Below w.heap.size w w') : Strs a len ss w' :=
  ⟨h.count, fun i hi => by
    obtain ⟨b, off, ha, hc⟩ := h.cell i hi
    exact ⟨b, off, ha, (hb.cell (p := ⟨b, off + i, none⟩) (block_lt_of_cell hc)).trans hc⟩⟩
def cat (ss : List ByteArray) : List UInt8 := ss.flatMap fun s => s.data.toList
theorem cat_take_succ (ss : List ByteArray) (k : Nat) (h : k < ss.length) : cat (ss.take (k + 1)) = cat (ss.take k) ++ (ss.getD k ByteArray.empty).data.toList := by
  rw [List.take_succ_eq_append_getElem h]
  unfold cat
  rw [List.flatMap_append]
  simp [List.getD, List.getElem?_eq_getElem h]
theorem cat_le (ss : List ByteArray) (k : Nat) : (cat (ss.take k)).length ≤ (cat ss).length := by
  have : cat ss = cat (ss.take k) ++ cat (ss.drop k) := by rw [cat, cat, cat, ← List.flatMap_append, List.take_append_drop]
  rw [this, List.length_append]; omega

set_option maxRecDepth 100000 in
set_option maxHeartbeats 1000000 in
theorem sum_any (a : Option Addr) (len cap : Nat) (ss : List ByteArray) (w : World) (hK : KOk w) (hI : IOk w) (hS : Strs a len ss w) (hsz : (cat ss).length ≤ 1000000000000) (hlen : len ≤ 1000000000000) :
    Calls Tryd.prog 36 #[.slice a len cap] w fun e w' => e = .returned (.string ⟨(sha (cat ss)).toArray⟩) ∧ Below w.heap.size w w' := by
  have c0 := hI 0 (by omega)
  have c1 := hI 1 (by omega)
  have c2 := hI 2 (by omega)
  have c3 := hI 3 (by omega)
  have c4 := hI 4 (by omega)
  have c5 := hI 5 (by omega)
  have c6 := hI 6 (by omega)
  have c7 := hI 7 (by omega)
  simp only [St.get] at c0 c1 c2 c3 c4 c5 c6 c7
  have hz := zero36
  have hb := build36
  go_enter Tryd.func36, Tryd.ntmps36
  go_wp2_with (first
    | (refine wpList_store_row rfl 75 _ _ rfl w.heap.size fresh rfl rfl 75 blank (heap_alloc_new w _) (by rw [fresh_size]; kernel_rfl) (by rw [blank_size, fresh_size]) fresh_one ?_
       change wpList _ _ _ _ _ ((w.alloc (.cells blank 75)).setRow w.heap.size fresh)
       have hF := fed_new w
       have hW := below_new w
       generalize World.setRow _ _ _ = w2 at hF hW ⊢)
    | fail)
  clear hz hb c0 c1 c2 c3 c4 c5 c6 c7 hI
  have hB1 : w.heap.size ≠ 1 := by have := hK.lt; omega
  go_loopw [10] (fun i wr => ∃ k : Nat, k ≤ len ∧ i = .int .i64 k ∧ Fed w.heap.size (cat (ss.take k)) wr ∧ Below w.heap.size w wr) (fun i _ => len - (intOf i).toNat)
  case atStart => exact ⟨0, by omega, rfl, hF, hW⟩
  case round =>
    clear hF hW
    obtain ⟨k, hk, rfl, hF, hW⟩ := hrel
    by_cases hlt : k < len
    · obtain ⟨b, off, rfl, hcell⟩ := hS.cell k hlt
      have hc : wr.cell? ⟨b, off + k, none⟩ = some (.string (ss.getD k ByteArray.empty)) := (hW.cell (p := ⟨b, off + k, none⟩) (block_lt_of_cell hcell)).trans hcell
      have hks : k < ss.length := by rw [← hS.count]; exact hlt
      have hle := cat_le ss (k + 1)
      rw [cat_take_succ ss k hks, List.length_append] at hle
      have HC := Lib.hid (cat_take_succ ss k hks)
      generalize ss.getD k ByteArray.empty = x at hc hle HC
      have hk0 : (k : Int) < (len : Int) := by omega
      have hx : (cat (ss.take k)).length + x.size ≤ 1099511627776 := by
        have : x.data.toList.length = x.size := Array.length_toList
        omega
      clear hcell hks hle
      go_wp2_with fail
      refine (feed_any w.heap.size _ x wr hB1 hF hx (hK.below hW)).mono ?_
      rintro e w3 ⟨rfl, ho, hF3⟩
      dsimp only
      go_wp2_with fail
      go_roundw
      case rel => exact ⟨k + 1, by omega, by go_num, by rw [HC.out]; exact hF3, hW.trans (ho.below (Nat.le_refl _) hW.size)⟩
      case measure => simp [intOf]; omega
    · obtain rfl : k = len := by omega
      rw [hS.count, List.take_length] at hF
      go_wp2_with fail
      refine (finish_any w.heap.size _ wr hB1 hF hsz (hK.below hW)).mono ?_
      rintro e w3 ⟨rfl, ho⟩
      dsimp only
      go_wp2_with fail
      go_ret
      exact ⟨rfl, hW.trans (ho.below (Nat.le_refl _) hW.size)⟩

attribute [local go_sem 9000] run_bytes1
def joined (ss : List ByteArray) : List UInt8 := ss.flatMap fun s => num s.size 4 ++ s.data.toList
theorem joined_take_succ (ss : List ByteArray) (k : Nat) (h : k < ss.length) : joined (ss.take (k + 1)) = joined (ss.take k) ++ (num (ss.getD k ByteArray.empty).size 4 ++ (ss.getD k ByteArray.empty).data.toList) := by
  rw [List.take_succ_eq_append_getElem h]
  unfold joined
  rw [List.flatMap_append]
  simp [List.getD, List.getElem?_eq_getElem h]
theorem joined_le (ss : List ByteArray) (k : Nat) : (joined (ss.take k)).length ≤ (joined ss).length := by
  have : joined ss = joined (ss.take k) ++ joined (ss.drop k) := by rw [joined, joined, joined, ← List.flatMap_append, List.take_append_drop]
  rw [this, List.length_append]; omega

end Go.Proofs.YtnapjloapgfcfaaDoor
