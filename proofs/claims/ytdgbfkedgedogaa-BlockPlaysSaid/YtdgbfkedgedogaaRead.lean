/- A sector is read; a disk is made. -/
import Derived.Test.YtdgbfkedgedogaaWrite
import Derived.Laws.IdiomStrings
namespace Go.Proofs.Ytdgbfkedgedogaa
open Go.RowKit Go.Maps
def lstr (l : List UInt8) : ByteArray := ⟨l.toArray⟩
def Raw.seen (s : Raw) (a : Int) : List UInt8 := match s.newest a with | some i => (s.cw.getD i (0, [])).2 | none => (s.lasts a).getD z32
def Raw.readS (s : Raw) (a : Int) : ByteArray := if s.refusal a ≠ 0 then ⟨#[]⟩ else lstr (s.seen a)
theorem zero70 (w : World) : (zeroValue 70).run Try.prog w = .ok (secV z32) w := by kernel_rfl
theorem look_lasts {w : World} {p : Nat} {h : Hd} {s : Raw} (D : Disk w p h s) {a : Int} (ha : (ik a).wf = true) :
    (Instr.lookup 62 (.map (some h.L)) (.int .i64 a) false).run Try.prog w = .ok (.agg (sec ((s.lasts a).getD z32)).toArray) w := by
  rw [D.lasts.look Try.underlying62 (zero70 w) ha]
  cases s.lasts a <;> rfl
theorem look_newest {w : World} {p : Nat} {h : Hd} {s : Raw} (D : Disk w p h s) {a : Int} (ha : (ik a).wf = true) :
    (Instr.lookup 63 (.map (some h.N)) (.int .i64 a) true).run Try.prog w = .ok (.tuple #[.int .i64 ((s.newAt a : Nat) : Int), .bool (s.newest a).isSome]) w := by
  rw [D.newest.look_ok Try.underlying63 (zero3 w) ha]
  unfold Raw.newAt
  cases s.newest a <;> rfl
theorem sec_one (l : List UInt8) : ∀ v ∈ sec l, v.oneCell' = true := fun v hv => wcells_one (0, l) v (List.mem_cons_of_mem _ hv)
theorem store70 (w : World) (c : Array Value) (l : List UInt8) (hc : c.size = 32) (hl : l.length = 32) :
    (storeCells ⟨w.heap.size, 0, none⟩ (sec l)).run Try.prog (w.alloc (.cells c 70)) = .ok () (w.alloc (.cells (sec l).toArray 70)) :=
  run_storeCells_new (P := Try.prog) w 70 c (sec l).toArray (by rw [List.size_toArray, sec_length, hl]; exact size70) (by rw [hc, List.size_toArray, sec_length, hl]) (all_oneCell_toArray (sec_one l))
theorem conv_sec (w : World) (l : List UInt8) (hl : l.length = 32) : (convert 73 9 (.slice (some ⟨w.heap.size, 0, none⟩) 32 32)).run Try.prog (w.alloc (.cells (sec l).toArray 70)) = .ok (.string (lstr l)) (w.alloc (.cells (sec l).toArray 70)) := by
  have := run_convert_bytes_back (P := Try.prog) (w.alloc (.cells (sec l).toArray 70)) 73 9 5 ⟨w.heap.size, 0, none⟩ 32 l Try.underlying73 Try.underlying5 Try.underlying9 (fun j hj => by
    rw [Go.WideShapes.add_plain, Nat.zero_add, cell_block (heap_alloc_new w _), List.getElem?_toArray, sec, List.getElem?_map, List.getElem?_eq_getElem hj]
    simp [hj])
  rw [hl] at this
  exact this

set_option maxRecDepth 100000 in
set_option maxHeartbeats 1000000 in
theorem read_any {w : World} {p : Nat} {h : Hd} {s : Raw} {lim : Nat} (D : Disk w p h s) (G : s.Good lim) (hl : lim < 1099511627775) (hL : ∀ a l, s.lasts a = some l → l.length = 32) (a : Int) (ha : (ik a).wf = true) :
    Calls Try.prog 14 #[ptr p, .int .i64 a] w fun e w' => e = .returned (.tuple #[.string (s.readS a), .int .i64 (s.refusal a)]) ∧ Below w.heap.size w w' := by
  have HR := Lib.hid (show s.readS a = if s.refusal a ≠ 0 then ⟨#[]⟩ else lstr (s.seen a) from rfl)
  have HB := Lib.hid (show ∀ o, Below w.heap.size w (w.alloc o) from fun o => (Below.refl _ _).alloc (Nat.le_refl _) _)
  go_enter Try.func14, Try.ntmps14
  go_wp2_with fail
  refine (refusal_any D a).mono ?_
  rintro e w' ⟨rfl, rfl⟩
  by_cases h0 : s.refusal a = 0
  · rw [h0]
    have HR2 : Hid (s.readS a = lstr (s.seen a)) := by rw [HR.out, if_neg (by simp [h0])]; exact rfl
    obtain ⟨L, N, v⟩ := h
    obtain ⟨ad, cap, hv, hcap, hmax, had⟩ := row_form D.row
    dsimp only at hv
    subst hv
    have c1 := D.c1
    have c2 := D.c2
    have c3 := D.c3
    dsimp only at c1 c2 c3
    have hl0 : ((s.lasts a).getD z32).length = 32 := by
      cases hq : s.lasts a with
      | none => rfl
      | some l => exact hL _ _ hq
    have hlk := look_lasts D ha
    have D1 := D.alloc (.cells (sec ((s.lasts a).getD z32)).toArray 70)
    have hlk2 := look_newest D1 ha
    have hp := D.lt (.inl rfl)
    have hne : p ≠ w.heap.size := by omega
    have hst := fun c hc => store70 w c ((s.lasts a).getD z32) hc hl0
    have hst1 := hst #[.int .u8 0, .int .u8 0, .int .u8 0, .int .u8 0, .int .u8 0, .int .u8 0, .int .u8 0, .int .u8 0, .int .u8 0, .int .u8 0, .int .u8 0, .int .u8 0, .int .u8 0, .int .u8 0, .int .u8 0, .int .u8 0, .int .u8 0, .int .u8 0, .int .u8 0, .int .u8 0, .int .u8 0, .int .u8 0, .int .u8 0, .int .u8 0, .int .u8 0, .int .u8 0, .int .u8 0, .int .u8 0, .int .u8 0, .int .u8 0, .int .u8 0, .int .u8 0] rfl
    clear hst
    have hcv := conv_sec w ((s.lasts a).getD z32) hl0
    dsimp only at hlk hlk2
    cases hn : s.newest a with
    | none =>
      have HS : Hid (s.seen a = (s.lasts a).getD z32) := by unfold Raw.seen; rw [hn]; exact rfl
      rw [hn] at hlk2
      generalize (s.lasts a).getD z32 = l0 at *
      have hsl : (sec l0).length = 32 := by rw [sec_length, hl0]
      go_wp2
      go_ret2
      refine ⟨?_, HB.out _⟩
      rw [HR2.out, HS.out, h0]; rfl
    | some i =>
      have hi := G.new a i hn
      have HS : Hid (s.seen a = (s.cw.getD i (0, [])).2) := by unfold Raw.seen; rw [hn]; exact rfl
      obtain ⟨g, rfl⟩ := had (by omega)
      have hxl : (s.cw.getD i (0, [])).2.length = 32 := (G.each _ (by rw [List.getD, List.getElem?_eq_getElem hi]; exact List.getElem_mem hi)).2
      have hNA : s.newAt a = i := by unfold Raw.newAt; rw [hn]; rfl
      rw [hn, hNA] at hlk2
      have hra1 := Disk.range D1 (fun x hx => (G.each x hx).2) hi
      generalize s.cw.getD i (0, []) = x at *
      have hrb : (w.alloc (.cells (sec ((s.lasts a).getD z32)).toArray 70)).rangeAt g (i * 33 + 1) (sec x.2) := fun j u hj => by
        have := hra1 (j + 1) u hj
        rw [show i * 33 + 1 + j = i * 33 + (j + 1) by omega]; exact this
      have hst2 := store70 w (sec ((s.lasts a).getD z32)).toArray x.2 (by rw [List.size_toArray, sec_length, hl0]) hxl
      have hcv2 := conv_sec w x.2 hxl
      generalize (s.lasts a).getD z32 = l0 at *
      have hsl : (sec l0).length = 32 := by rw [sec_length, hl0]
      generalize hx2 : x.2 = l1 at *
      have hsl1 : (sec l1).length = 32 := by rw [sec_length, hxl]
      have hi' : (i : Int) < (s.cw.length : Int) := by omega
      have hlen : s.cw.length ≤ 1099511627776 := by have := G.count; have := G.room; omega
      clear hcv hra1
      go_wp2_with (first
        | (refine wpList_load_mid rfl 70 (.tmp 38) (by rfl) g (i * 33 + 1) (by rfl) (sec l1) _ hrb Try.underlying70 (by rfl) (by rw [hsl1]; exact size70) ?_)
        | fail)
      go_ret2
      refine ⟨?_, HB.out _⟩
      rw [HR2.out, HS.out, h0]; rfl
  · have h0' := h0
    have HR2 : Hid (s.readS a = ⟨#[]⟩) := by rw [HR.out, if_pos h0]; exact rfl
    generalize hr : s.refusal a = r at *
    go_wp2
    go_ret2
    exact ⟨by rw [HR2.out, hr]; rfl, Below.refl _ _⟩
def raw0 (n : Int) : Raw := ⟨n, fun _ => none, [], fun _ => none, 0, 0, 0, false, 0, 0⟩
set_option maxRecDepth 100000 in
set_option maxHeartbeats 1000000 in
theorem new_any (n : Int) (w : World) (h1 : 1 ≤ n) (h2 : n ≤ 8192) :
    Calls Try.prog 10 #[.int .i64 n] w fun e w' => ∃ p h, e = .returned (.tuple #[ptr p, .int .i64 0]) ∧ Disk w' p h (raw0 n) ∧ (∀ k, owned p h k → w.heap.size ≤ k) ∧ Below w.heap.size w w' := by
  have hmm := @run_makeMap Try.prog
  go_enter Try.func10, Try.ntmps10
  go_wp2
  go_ret2
  have e1 : (w.alloc (.map #[] 0)).heap.size = w.heap.size + 1 := by simp
  have e2 : ((w.alloc (.map #[] 0)).alloc (.map #[] 0)).heap.size = w.heap.size + 1 + 1 := by simp
  have b1 : Below w.heap.size w (w.alloc (.map #[] 0)) := (Below.refl _ _).alloc (Nat.le_refl _) _
  have b2 : Below w.heap.size w ((w.alloc (.map #[] 0)).alloc (.map #[] 0)) := b1.alloc (by omega) _
  refine ⟨w.heap.size + 1 + 1, ⟨w.heap.size, w.heap.size + 1, .slice none 0 0⟩, rfl, ⟨?_, ?_, ?_, World.ownsRow_nil _ _ _ _, ?_⟩, ?_, b2.alloc (by omega) _⟩
  · have := heap_alloc_new ((w.alloc (.map #[] 0)).alloc (.map #[] 0)) (.cells #[.int .i64 n, .map (some w.heap.size), .slice none 0 0, .map (some (w.heap.size + 1)), .int .i64 0, .int .i64 0, .int .u64 0, .bool false] 66)
    rw [e2] at this
    exact this
  · have := Mp.made w
    exact this.kept ((Below.heap_alloc _ _ _ (by omega)).trans (Below.heap_alloc _ _ _ (by omega)))
  · have := Mp.made (w.alloc (.map #[] 0))
    rw [e1] at this
    exact this.kept (Below.heap_alloc _ _ _ (by omega))
  · show w.heap.size ≠ w.heap.size + 1; omega
  · rintro k (rfl | rfl | rfl | hk)
    · omega
    · exact Nat.le_refl _
    · exact Nat.le_succ _
    · cases hk
theorem new_not (n : Int) (w : World) (h1 : n < 1 ∨ 8192 < n) :
    Calls Try.prog 10 #[.int .i64 n] w fun e w' => e = .returned (.tuple #[.pointer none, .int .i64 1]) ∧ w = w' := by
  go_enter Try.func10, Try.ntmps10
  rcases h1 with h1 | h1
  · go_wp2
    go_ret2
    exact ⟨rfl, rfl⟩
  · have h2 : ¬ n < 1 := by omega
    go_wp2
    go_ret2
    exact ⟨rfl, rfl⟩
end Go.Proofs.Ytdgbfkedgedogaa
