/- The document's failure. -/
import Derived.Test.YtdgbfkedgedogaaRef
namespace Go.Proofs.Ytdgbfkedgedogaa
open Go.RowKit Go.Maps
attribute [local go_sem 9000] sem_shr64 sem_rem64 sem_eq01
abbrev rcells (lv wv : Value) (r : RSt) : Array Value := #[lv, wv, .int .i64 r.cut, .int .u64 (u64 r.keep), .int .i64 r.count, .bool r.off]
abbrev rzero : Array Value := #[.slice none 0 0, .slice none 0 0, .int .i64 0, .int .u64 0, .int .i64 0, .bool false]
/-- A copy that is being written: the call's own blocks b (the disk), b + 1 (the result), g' (the texts). -/
structure Lay (w0 : World) (b g' n cap' : Nat) (b0 b1 : Array Value) (wv : Value) (wt : List (Int × ByteArray)) (L : List ByteArray) (wr : World) : Prop where
  ge : w0.heap.size ≤ b
  far : b + 2 ≤ g'
  box : wr.heap[b]? = some (.cells b0 35 (0, 0))
  res : wr.heap[b + 1]? = some (.cells b1 35 (0, 0))
  row : wr.ownsRow 0 9 1 (.slice (some ⟨g', 0, none⟩) n cap') n (strs L)
  wait : wr.ownsRow 0 76 2 wv wt.length (wrow wt)
  wfar : wv.ownBlock ≠ some g'
  below : Below w0.heap.size w0 wr
variable {w0 wr w1 : World} {b g' n cap' : Nat} {b0 b1 : Array Value} {wv : Value} {wt : List (Int × ByteArray)} {L : List ByteArray}
theorem Lay.set (h : Lay w0 b g' n cap' b0 b1 wv wt L wr) {i : Nat} (hi : i < L.length) (x : ByteArray) :
    Lay w0 b g' n cap' b0 b1 wv wt (L.set i x) (wr.setCell ⟨g', i, none⟩ (.string x)) where
  ge := h.ge
  far := h.far
  box := (Below.heap_setCell _ _ _ _ (by show b ≠ g'; have := h.far; omega)).trans h.box
  res := (Below.heap_setCell _ _ _ _ (by show b + 1 ≠ g'; have := h.far; omega)).trans h.res
  row := (owns_set h.row hi x).1
  wait := owns_kept h.wait fun k hk => Below.heap_setCell _ _ _ _ (fun e => h.wfar (by rw [hk, show k = g' from e]))
  wfar := h.wfar
  below := h.below.setCell (by show w0.heap.size ≤ g'; have := h.far; have := h.ge; omega) _
theorem Lay.drew (h : Lay w0 b g' n cap' b0 b1 wv wt L wr) : Lay w0 b g' n cap' b0 b1 wv wt L wr.drew where
  ge := h.ge
  far := h.far
  box := h.box
  res := h.res
  row := h.row
  wait := h.wait
  wfar := h.wfar
  below := h.below.drew
theorem Lay.start {w3 : World} {B : Nat} (ge : w0.heap.size ≤ b) (box : w3.heap[b]? = some (.cells b0 35 (0, 0))) (res : w3.heap[b + 1]? = some (.cells b1 35 (0, 0)))
    (wait : w3.ownsRow 0 76 2 wv wt.length (wrow wt)) (hw : ∀ k, wv.ownBlock = some k → k < B) (below : Below w0.heap.size w0 w3) (hB : B < w3.heap.size) (hbB : b + 2 ≤ B)
    (row : w1.ownsRow 0 9 1 (.slice (some ⟨g', 0, none⟩) n cap') n (strs L)) (hg : w3.grownBy w1 (some B)) (hat : some B = some g' ∨ g' = w3.heap.size) : Lay w0 b g' n cap' b0 b1 wv wt L w1 := by
  have hgB : B ≤ g' := by rcases hat with e | e; · (injection e with e; omega)
                          · omega
  exact ⟨ge, by omega, (hg.block b (by omega) (by intro e; injection e with e; omega)).trans box, (hg.block (b + 1) (by omega) (by intro e; injection e with e; omega)).trans res, row,
    owns_kept wait fun k hk => hg.block k (by have := hw k hk; omega) (by intro e; injection e with e; have := hw k hk; omega),
    fun e => by have := hw g' e; omega, below.grown hg (by have := below.size; omega) (by intro k hk; injection hk with hk; omega)⟩
theorem store35 {ops : Array Oper} {rest : List Oper} {o : Oper} {a : Act} {w : World} {Q : Exit → Act → World → Prop} (hgd : o.guard = none) (x y : Operand) (ho : o.op = .store 35 x y)
    (g : Nat) (old cells : Array Value) (hx : a.eval x = .pointer (some ⟨g, 0, none⟩)) (hy : a.eval y = .agg cells) (hg : w.heap[g]? = some (.cells old 35 (0, 0))) (hs : cells.size = 6) (ho6 : old.size = 6) (h1 : cells.all (·.oneCell') = true)
    (h : ∀ w', w'.heap[g]? = some (.cells cells 35 (0, 0)) → (∀ k, k ≠ g → w'.heap[k]? = w.heap[k]?) → w'.heap.size = w.heap.size → (∀ B w0, B ≤ g → Below B w0 w → Below B w0 w') → wpList Try.prog ops Q rest (a.put o.dst undef) w') : wpList Try.prog ops Q (o :: rest) a w :=
  wpList_store_row hgd 35 x y ho g cells hx hy 35 old hg (by rw [hs]; exact size35) (by rw [hs, ho6]) h1
    (h _ (setRow_heap _ _ _ _ _ _ hg) (fun k hk => setRow_other _ _ _ _ hk) (setRow_size _ _ _) (fun B w0 hB hb => ⟨hb.os, hb.tape, hb.output, by rw [setRow_size]; exact hb.size, fun k hk => (setRow_other _ _ _ _ (by omega)).trans (hb.block k hk)⟩))
theorem one6 (a b c d e f : Value) (ha : a.oneCell' = true) (hb : b.oneCell' = true) (hc : c.oneCell' = true) (hd : d.oneCell' = true) (he : e.oneCell' = true) (hf : f.oneCell' = true) : (#[a, b, c, d, e, f] : Array Value).all (·.oneCell') = true := by
  simp [ha, hb, hc, hd, he, hf]
theorem strs_get {l : List ByteArray} {v : Value} (h : v ∈ strs l) : v.oneCell' = true := by
  unfold strs at h; obtain ⟨x, _, rfl⟩ := List.mem_map.1 h; rfl
theorem strs_length (l : List ByteArray) : (strs l).length = l.length := by unfold strs; simp
set_option maxRecDepth 100000 in
set_option maxHeartbeats 2000000 in
theorem rfail_any (g ln lc : Nat) (wa : Option Addr) (wn wc : Nat) (r : RSt) (k : BitVec 64) (w : World) (R : RD w (.slice (some ⟨g, 0, none⟩) ln lc) (.slice wa wn wc) r) (ok : r.Ok) (hln : ln = r.lasts.length) (hwn : wn = r.wait.length) :
    Calls Try.prog 34 #[rvs (some ⟨g, 0, none⟩) ln lc wa wn wc r, kv k] w fun e w' => ∃ g' cap', e = .returned (rvs (some ⟨g', 0, none⟩) ln cap' none 0 0 (r.dropped k)) ∧ RD w' (.slice (some ⟨g', 0, none⟩) ln cap') (.slice none 0 0) (r.dropped k) ∧ w.heap.size ≤ g' ∧ Below w.heap.size w w' := by
  subst hln hwn
  have hlp := ok.some_
  have hlm := ok.few
  have hwm := ok.waits
  have hats := ok.ats
  obtain ⟨i0, hi0, hz0, hz1, hz2⟩ := info_parts info9
  have hwa : 0 < r.wait.length → ∃ g2, wa = some ⟨g2, 0, none⟩ := fun h => by
    obtain ⟨a, cap, e, _, _, h2⟩ := slice_form R.wait
    injection e with e1 e2 e3
    obtain ⟨g2, rfl⟩ := h2 h
    exact ⟨g2, e1⟩
  have hb3 : Below w.heap.size w (((w.alloc (.cells (rcells (.slice (some ⟨g, 0, none⟩) r.lasts.length lc) (.slice wa r.wait.length wc) r) 35)).alloc (.cells rzero 35)).alloc (.cells #[] 9)) := below3 _ _ _ _
  have R3 := R.below hb3
  have hbox : (((w.alloc (.cells (rcells (.slice (some ⟨g, 0, none⟩) r.lasts.length lc) (.slice wa r.wait.length wc) r) 35)).alloc (.cells rzero 35)).alloc (.cells #[] 9)).heap[w.heap.size]? = some (.cells (rcells (.slice (some ⟨g, 0, none⟩) r.lasts.length lc) (.slice wa r.wait.length wc) r) 35 (0, 0)) :=
    (Below.heap_alloc _ _ _ (by simp; omega)).trans ((Below.heap_alloc _ _ _ (by simp)).trans (heap_alloc_new _ _))
  have hres : (((w.alloc (.cells (rcells (.slice (some ⟨g, 0, none⟩) r.lasts.length lc) (.slice wa r.wait.length wc) r) 35)).alloc (.cells rzero 35)).alloc (.cells #[] 9)).heap[w.heap.size + 1]? = some (.cells rzero 35 (0, 0)) := by
    refine (Below.heap_alloc _ _ _ (by simp)).trans ?_
    have := heap_alloc_new (w.alloc (.cells (rcells (.slice (some ⟨g, 0, none⟩) r.lasts.length lc) (.slice wa r.wait.length wc) r) 35)) (.cells rzero 35)
    rwa [show (w.alloc (.cells (rcells (.slice (some ⟨g, 0, none⟩) r.lasts.length lc) (.slice wa r.wait.length wc) r) 35)).heap.size = w.heap.size + 1 by simp] at this
  have ho : (((w.alloc (.cells (rcells (.slice (some ⟨g, 0, none⟩) r.lasts.length lc) (.slice wa r.wait.length wc) r) 35)).alloc (.cells rzero 35)).alloc (.cells #[] 9)).ownsRow 0 9 1 (.slice (some ⟨w.heap.size + 1 + 1, 0, none⟩) 0 0) 0 [] := by
    refine ⟨rfl, .inr ⟨w.heap.size + 1 + 1, 0, #[], rfl, Nat.zero_le _, ?_, Nat.le_refl _, by decide, rfl, rfl⟩⟩
    have := heap_alloc_new ((w.alloc (.cells (rcells (.slice (some ⟨g, 0, none⟩) r.lasts.length lc) (.slice wa r.wait.length wc) r) 35)).alloc (.cells rzero 35)) (.cells #[] 9)
    rwa [show ((w.alloc (.cells (rcells (.slice (some ⟨g, 0, none⟩) r.lasts.length lc) (.slice wa r.wait.length wc) r) 35)).alloc (.cells rzero 35)).heap.size = w.heap.size + 1 + 1 by simp] at this
  have hsz : (((w.alloc (.cells (rcells (.slice (some ⟨g, 0, none⟩) r.lasts.length lc) (.slice wa r.wait.length wc) r) 35)).alloc (.cells rzero 35)).alloc (.cells #[] 9)).heap.size = w.heap.size + 1 + 1 + 1 := by simp
  have hwlt : ∀ k, (Value.slice wa r.wait.length wc).ownBlock = some k → k < w.heap.size + 1 + 1 := fun k hk => by have := (R.wait.lt k hk).2; omega
  have hgl : g < w.heap.size := (R.lasts.lt g rfl).2
  unfold rvs rv
  go_enter Try.func34, Try.ntmps34
  unfold rcells rzero at *
  generalize hw3 : (((w.alloc (.cells #[.slice (some ⟨g, 0, none⟩) r.lasts.length lc, .slice wa r.wait.length wc, .int .i64 r.cut, .int .u64 (u64 r.keep), .int .i64 r.count, .bool r.off] 35)).alloc (.cells #[.slice none 0 0, .slice none 0 0, .int .i64 0, .int .u64 0, .int .i64 0, .bool false] 35)).alloc (.cells #[] 9)) = w3 at hb3 R3 hbox hres ho hsz
  have HW3 := Lib.hid hw3
  clear hw3
  go_wp2_with (first
    | (at_builtin; rw [HW3.out]; refine wpList_append_lies _ rfl _ _ _ rfl 0 9 i0 _ 1 16 Try.underlying29 hi0 hz0 hz1 hz2 rfl (by omega) (.slice (some ⟨w.heap.size + 1 + 1, 0, none⟩) 0 0) 0 [] (by rfl) ho
        ⟨g, 0, none⟩ r.lasts.length lc (strs r.lasts) (by rfl) (by rw [strs_length, Nat.mul_one]) (R3.lasts.cells (g := g) rfl) (fun u hu => strs_get hu) hlp (by unfold maxLen; omega) (by omega) (Nat.zero_le _) _ rfl ?_; intro g' cap' w1 hown1 hgrow hat hlt1)
    | fail)
  have La0 : Lay w w.heap.size g' r.lasts.length cap' #[.slice (some ⟨g, 0, none⟩) r.lasts.length lc, .slice wa r.wait.length wc, .int .i64 r.cut, .int .u64 (u64 r.keep), .int .i64 r.count, .bool r.off]
      #[.slice none 0 0, .slice none 0 0, .int .i64 0, .int .u64 0, .int .i64 0, .bool false] (.slice wa r.wait.length wc) r.wait r.lasts w1 :=
    Lay.start (Nat.le_refl _) hbox hres R3.wait hwlt hb3 (by omega) (by omega) (by simpa using hown1) hgrow hat
  clear hown1 hgrow hat hlt1 ho hres hbox hb3 R3 hsz HW3
  clear w3
  have HC := Lib.hid (show r.dropped k = ⟨rlay r.lasts r.wait (fun i => k.getLsbD i) (min r.wait.length 64), [], 0, 0, r.count, true⟩ from rfl)
  go_loopw [6] (fun x wr => ∃ j : Nat, j ≤ min r.wait.length 64 ∧ x = .int .i64 j ∧ Lay w w.heap.size g' r.lasts.length cap' #[.slice (some ⟨g, 0, none⟩) r.lasts.length lc, .slice wa r.wait.length wc, .int .i64 r.cut, .int .u64 (u64 r.keep), .int .i64 r.count, .bool r.off]
      #[.slice none 0 0, .slice none 0 0, .int .i64 0, .int .u64 0, .int .i64 0, .bool false] (.slice wa r.wait.length wc) r.wait (rlay r.lasts r.wait (fun i => k.getLsbD i) j) wr) (fun x _ => 64 - (intOf x).toNat)
  case atStart => exact ⟨0, by omega, rfl, La0⟩
  case round =>
    obtain ⟨j, hj, rfl, La⟩ := hrel
    have cb1 : wr.cell? ⟨w.heap.size, 1, none⟩ = some (.slice wa r.wait.length wc) := cell_block La.box 1
    have cb4 : wr.cell? ⟨w.heap.size, 4, none⟩ = some (.int .i64 r.count) := cell_block La.box 4
    have hlen : (rlay r.lasts r.wait (fun i => k.getLsbD i) j).length = r.lasts.length := rlay_length _ _ _ j
    have hj0 : (0 : Int) ≤ (j : Int) := by omega
    by_cases hlt : j < r.wait.length
    · have hlt' : (j : Int) < (r.wait.length : Int) := by omega
      by_cases h64 : j < 64
      · have h64' : (j : Int) < 64 := by omega
        obtain ⟨g2, rfl⟩ := hwa (by omega)
        obtain ⟨c0, c1⟩ := wait_at La.wait hlt
        obtain ⟨h0, h1⟩ := hats (r.wait.getD j (0, ⟨#[]⟩)) (by rw [List.getD, List.getElem?_eq_getElem hlt]; exact List.getElem_mem hlt)
        have HST := Lib.hid (show rlay r.lasts r.wait (fun i => k.getLsbD i) (j + 1) = if k.getLsbD j then (rlay r.lasts r.wait (fun i => k.getLsbD i) j).set (r.wait.getD j (0, ⟨#[]⟩)).1.toNat (r.wait.getD j (0, ⟨#[]⟩)).2 else rlay r.lasts r.wait (fun i => k.getLsbD i) j from rfl)
        have HLA := Lib.hid La
        have hp := par_shr k j
        clear La
        generalize r.wait.getD j (0, ⟨#[]⟩) = x at c0 c1 h0 h1 HST
        generalize rlay r.lasts r.wait (fun i => k.getLsbD i) j = Lj at HST HLA hlen
        obtain ⟨at_, dat⟩ := x
        dsimp only at c0 c1 h0 h1 HST
        obtain ⟨n, rfl⟩ : ∃ n : Nat, at_ = n := ⟨at_.toNat, by omega⟩
        have hn : n < r.lasts.length := by omega
        have HST' : Hid (rlay r.lasts r.wait (fun i => k.getLsbD i) (j + 1) = if k.getLsbD j then Lj.set n dat else Lj) := by have := HST.out; rw [Int.toNat_natCast] at this; exact this
        clear HST
        cases hK : k.getLsbD j
        · rw [hK] at hp
          go_wp2_with fail
          go_roundw
          case rel => exact ⟨j + 1, by omega, by go_num, by rw [HST'.out, hK]; exact HLA.out⟩
          case measure => simp [intOf]; omega
        · rw [hK] at hp
          have ct : ∃ u, wr.cell? ⟨g', n, none⟩ = some u := by
            have := HLA.out.row.cells (g := g') rfl n (.string (Lj.getD n ⟨#[]⟩)) (by unfold strs; rw [List.getElem?_map, List.getD, List.getElem?_eq_getElem (by omega)]; rfl)
            rw [Go.WideShapes.add_plain, Nat.zero_add] at this
            exact ⟨_, this⟩
          obtain ⟨u, ct⟩ := ct
          have hfr := (owns_set HLA.out.row (i := n) (by omega) dat).2
          have hset : ∀ a : Addr, a.block ≠ g' → (wr.setCell ⟨g', n, none⟩ (.string dat)).drew.cell? a = wr.cell? a := fun a ha => World.cell?_of_block (Below.heap_setCell _ _ _ _ ha)
          have hbg : w.heap.size ≠ g' := by have := HLA.out.far; omega
          have hg2 : g2 ≠ g' := fun e => HLA.out.wfar (by rw [e]; rfl)
          go_wp2_with fail
          go_region_held3 (fun w' => w'.cell? ⟨w.heap.size, 1, none⟩ = some (.slice (some ⟨g2, 0, none⟩) r.wait.length wc) ∧ w'.cell? ⟨g2, j * 2, none⟩ = some (.int .i64 (n : Int)) ∧ w'.cell? ⟨g2, j * 2 + 1, none⟩ = some (.string dat)) (first | exact ⟨cb1, c0, c1⟩ | exact ⟨(hset _ hbg).trans cb1, (hset _ hg2).trans c0, (hset _ hg2).trans c1⟩) (fail)
          go_wp2_with fail
          go_roundw
          case rel => exact ⟨j + 1, by omega, by go_num, by rw [HST'.out, hK]; exact (HLA.out.set (by omega) dat).drew⟩
          case measure => simp [intOf]; omega
      · obtain rfl : j = 64 := by omega
        rw [show ((64 : Nat) : Int) = 64 from rfl]
        rw [show min r.wait.length 64 = 64 by omega] at HC
        have hres := La.res
        go_wp2_with (first
          | (refine store35 rfl (.tmp 4) (.tmp 45) rfl (w.heap.size + 1) _ #[.slice (some ⟨g', 0, none⟩) r.lasts.length cap', .slice none 0 0, .int .i64 0, .int .u64 0, .int .i64 r.count, .bool true] (by rfl) (by rfl) hres rfl rfl (one6 _ _ _ _ _ _ rfl rfl rfl rfl rfl rfl) ?_; intro w2 hw2 hk2 hs2 hbl2)
          | fail)
        refine bodyPost_ret_by (results_cell_row rfl _ _ (w.heap.size + 1) 35 _ (0, 0) _ rfl hw2 Try.underlying35 rfl size35) rfl ?_
        rw [HC.out]
        exact ⟨g', cap', rfl, ⟨by rw [rlay_length]; exact owns_kept La.row (fun q hq => hk2 q (by have := La.far; rw [show q = g' from (Option.some.inj hq).symm]; omega)), World.ownsRow_nil _ _ _ _⟩, by have := La.far; omega, hbl2 _ _ (by omega) La.below⟩
    · obtain rfl : j = r.wait.length := by omega
      have hnl : ¬ ((r.wait.length : Int) < (r.wait.length : Int)) := by omega
      rw [show min r.wait.length 64 = r.wait.length by omega] at HC
      have hres := La.res
      go_wp2_with (first
        | (refine store35 rfl (.tmp 4) (.tmp 45) rfl (w.heap.size + 1) _ #[.slice (some ⟨g', 0, none⟩) r.lasts.length cap', .slice none 0 0, .int .i64 0, .int .u64 0, .int .i64 r.count, .bool true] (by rfl) (by rfl) hres rfl rfl (one6 _ _ _ _ _ _ rfl rfl rfl rfl rfl rfl) ?_; intro w2 hw2 hk2 hs2 hbl2)
        | fail)
      refine bodyPost_ret_by (results_cell_row rfl _ _ (w.heap.size + 1) 35 _ (0, 0) _ rfl hw2 Try.underlying35 rfl size35) rfl ?_
      rw [HC.out]
      exact ⟨g', cap', rfl, ⟨by rw [rlay_length]; exact owns_kept La.row (fun q hq => hk2 q (by have := La.far; rw [show q = g' from (Option.some.inj hq).symm]; omega)), World.ownsRow_nil _ _ _ _⟩, by have := La.far; omega, hbl2 _ _ (by omega) La.below⟩
end Go.Proofs.Ytdgbfkedgedogaa
