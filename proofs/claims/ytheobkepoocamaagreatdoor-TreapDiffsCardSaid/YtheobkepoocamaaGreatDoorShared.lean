/- A set of names in memory; the two functions that Shared tells trees to. Shared. -/
import Derived.Test.YtheobkepoocamaaGreatDoorMaps
import Derived.Test.YtheobkepoocamaaGreatDoorWalk
import Derived.Test.YtheobkepoocamaaGreatDoorKeys
import Derived.Maps.OwnSet
import Derived.StringKeys
import Derived.Test.YtheobkepoocamaaGreatDoorDiff
namespace Go.Proofs.YtheobkepoocamaaGreatDoor
set_option maxRecDepth 100000
open Go.RowKit Go.Less Go.Maps Go.WideMaps
theorem law9 : Keyed Tryz.prog 9 := string_keyed Tryz.underlying9
abbrev sk (a : ByteArray) : Lit := .string a.data.toList
theorem sk_inj {a b : ByteArray} (h : sk a = sk b) : a = b := Go.WideShapes.bytes_inj (by injection h)
def heldv (v : Value) : Option (DataW Value × List MemPlace) := some (.held v, [])
/-- Is a name among some? Closed to the walk's simp. -/
def amid (x : ByteArray) (l : List ByteArray) : Bool := l.any (alike x)
theorem amid_iff {x : ByteArray} {l : List ByteArray} : amid x l = true ↔ x ∈ l := by
  unfold amid
  rw [List.any_eq_true]
  exact ⟨fun ⟨y, hy, e⟩ => by rw [alike_eq.1 e]; exact hy, fun h => ⟨x, h, alike_eq.2 rfl⟩⟩
theorem amid_snoc (x a : ByteArray) (l : List ByteArray) : amid x (l ++ [a]) = (amid x l || alike x a) := by unfold amid; rw [List.any_append]; simp
/-- Block b is a map of at most n entries: true for just those names. -/
def Mp (w : World) (b n : Nat) (l : List ByteArray) : Prop :=
  ∃ D : DataW Value, w.ownsMap Tryz.prog 9 heldv b n D ∧ ∀ a : ByteArray, ∀ z, D.atKey (sk a) (.held z) = .held (if amid a l then .bool true else z)
theorem Mp.kept {w w' : World} {b n : Nat} {l : List ByteArray} (h : Mp w b n l) (hb : w'.heap[b]? = w.heap[b]?) : Mp w' b n l := by
  obtain ⟨D, ⟨es, c, h1, h2⟩, h3⟩ := h; exact ⟨D, ⟨es, c, hb.trans h1, h2⟩, h3⟩
theorem Mp.lt {w : World} {b n : Nat} {l : List ByteArray} (h : Mp w b n l) : b < w.heap.size := by
  obtain ⟨D, ho, _⟩ := h; exact ho.lt
theorem Mp.isMap {w : World} {b n : Nat} {l : List ByteArray} (h : Mp w b n l) : ∃ es c, w.heap[b]? = some (.map es c) := by
  obtain ⟨D, ⟨es, c, hb, _⟩, _⟩ := h; exact ⟨es, c, hb⟩
theorem Mp.made (w : World) : Mp (w.alloc (.map #[] 0)) w.heap.size 0 [] :=
  ⟨.map [], World.ownsMap_made w _ _ _, fun a z => by simp [amid, DataW.atKey]⟩
theorem zero4 (w : World) : (zeroValue 4).run Tryz.prog w = .ok (.bool false) w := by kernel_rfl
theorem Mp.look {w : World} {b n : Nat} {l : List ByteArray} (h : Mp w b n l) {a : ByteArray} (ha : a.size ≤ maxLen) :
    (Instr.lookup 62 (.map (some b)) (.string a) false).run Tryz.prog w = .ok (.bool (amid a l)) w := by
  obtain ⟨D, ho, h2⟩ := h
  obtain ⟨v, ps, hr, hv⟩ := ho.lookup law9 Tryz.underlying62 (zero4 w) (zd := .held (.bool false)) (zp := []) rfl (keyOf_string_mk Tryz.underlying9 ha)
  rw [h2 a (.bool false)] at hv
  rw [hr]
  unfold heldv at hv
  injection hv with hv
  injection hv with hv _
  injection hv with hv
  rw [hv]
  cases amid a l <;> rfl
theorem sk_key (a : ByteArray) : WideAt.IsKeyLit (sk a) := trivial
theorem Mp.store {w : World} {b n : Nat} {l : List ByteArray} (h : Mp w b n l) (hn : n < maxLen) {a : ByteArray} (ha : a.size ≤ maxLen) :
    ∃ w', (Instr.mapUpdate 62 (.map (some b)) (.string a) (.bool true)).run Tryz.prog w = .ok () w' ∧ Mp w' b (n + 1) (l ++ [a]) ∧ w.mapTurned w' b := by
  obtain ⟨D, ho, h2⟩ := h
  have hm := ho.isMap
  obtain ⟨w', hr, h3, h4⟩ := ho.store law9 Tryz.underlying62 hn (keyOf_string_mk Tryz.underlying9 ha) (val := .bool true) (d := .held (.bool true)) (ps := []) rfl
  refine ⟨w', hr, ⟨_, h3, fun x z => ?_⟩, h4⟩
  by_cases hxa : x = a
  · subst hxa
    rw [show amid x (l ++ [x]) = true from by rw [amid_snoc, alike_eq.2 rfl, Bool.or_true], if_pos rfl]
    exact atKey_put_same hm (sk_key _) _ _
  · have hne : sk x ≠ sk a := fun e => hxa (sk_inj e)
    rw [show amid x (l ++ [a]) = amid x l from by rw [amid_snoc, show alike x a = false from by unfold alike; simp [hxa], Bool.or_false]]
    exact (atKey_put_other hne _ _).trans (h2 x z)
theorem turned_other {w w' : World} {b k : Nat} (h : w.mapTurned w' b) (hk : k ≠ b) : w'.heap[k]? = w.heap[k]? := by
  rcases Nat.lt_or_ge k w.heap.size with hl | hl
  · exact h.grown.block k hl (fun e => hk (by injection e))
  · obtain ⟨es, c, es', c', hb, rfl⟩ := h
    exact ChangeMaps.heap_setBlock_other hb _ hk
/-- Names that are being gathered: a box, and the map. -/
structure Ns (w : World) (gm bm : Nat) (l : List ByteArray) (W : World) : Prop where
  box : W.heap[gm]? = some (.cells #[.map (some bm)] 62 (0, 0))
  mp : Mp W bm l.length l
  lo : w.heap.size ≤ bm
  below : Below w.heap.size w W
theorem Ns.ne {w W : World} {gm bm : Nat} {l : List ByteArray} (h : Ns w gm bm l W) : gm ≠ bm := fun e => by
  obtain ⟨es, c, h1⟩ := h.mp.isMap
  have h2 := h.box
  rw [e, h1] at h2; cases h2
theorem Ns.heap {w W W' : World} {gm bm : Nat} {l : List ByteArray} (h : Ns w gm bm l W) (h1 : W'.heap[gm]? = W.heap[gm]?) (h2 : W'.heap[bm]? = W.heap[bm]?) (hb : Below w.heap.size w W') : Ns w gm bm l W' :=
  ⟨h1.trans h.box, h.mp.kept h2, h.lo, hb⟩
theorem Ns.kept {w W W' : World} {gm bm : Nat} {l : List ByteArray} (h : Ns w gm bm l W) (hb : Below W.heap.size W W') : Ns w gm bm l W' :=
  h.heap (hb.block _ (lt_of_obj h.box)) (hb.block _ h.mp.lt) (h.below.trans (hb.mono h.below.size))
theorem Ns.more {w W W' : World} {gm bm : Nat} {l : List ByteArray} {a : ByteArray} (h : Ns w gm bm l W) (hm : Mp W' bm (l.length + 1) (l ++ [a])) (ht : W.mapTurned W' bm) : Ns w gm bm (l ++ [a]) W' :=
  ⟨(turned_other ht h.ne).trans h.box, by rw [List.length_append]; exact hm, h.lo, by
    have lo := h.lo
    exact h.below.grown ht.grown h.below.size (fun j hj => by injection hj with hj; omega)⟩
set_option maxHeartbeats 2000000 in
theorem names1_any (w : World) (gm bm : Nat) (m : Nat) (hm : m ≤ 100000) :
    Tells 27 #[.pointer (some ⟨gm, 0, none⟩)] m w (fun pre W => Ns w gm bm (pre.map nm) W) := by
  intro pre b l k v r pl pr W hp hK hN
  have hK : Ns w gm bm (pre.map nm) W := hK
  show Calls Tryz.prog 27 #[.pointer (some ⟨b, 0, none⟩), .pointer (some ⟨gm, 0, none⟩)] W fun e W' => e = .returned (.tuple #[]) ∧ Ns w gm bm ((pre ++ [Tr.T.node l k v r]).map nm) W'
  rw [List.map_append, show [Tr.T.node l k v r].map nm = [nm (.node l k v r)] from rfl]
  have hlen : (pre.map nm).length < maxLen := by rw [List.length_map]; unfold maxLen; omega
  generalize pre.map nm = ns at *
  have hs := nm_size (.node l k v r)
  have hNW := hN.below hK.below
  have c3 := hNW.c3
  generalize nm (.node l k v r) = x at *
  have cm : W.cell? ⟨gm, 0, none⟩ = some (.map (some bm)) := cell_obj hK.box 0
  have hKd := hK.kept (Below.refl W.heap.size W).drew
  obtain ⟨w5, hr5, hm5, ht5⟩ := hKd.mp.store hlen (a := x) (by unfold maxLen; omega)
  have hK5 := hKd.more hm5 ht5
  have c5 : w5.cell? ⟨gm, 0, none⟩ = some (.map (some bm)) := cell_obj hK5.box 0
  have hb5 : b ≠ bm := fun e => by have := hN.lt; have := hK.lo; omega
  have d5 : w5.cell? ⟨b, 3, none⟩ = some (.string x) := (World.cell?_of_block (turned_other ht5 hb5)).trans c3
  have HK5 := Lib.hid hK5
  clear hp hK hN hlen hs hNW hKd hm5 ht5 hK5 hb5
  go_enter Tryz.func27, Tryz.ntmps27
  go_wp2_with fail
  go_region_held3 (fun W1 => W1.cell? ⟨gm, 0, none⟩ = some (.map (some bm)) ∧ W1.cell? ⟨b, 3, none⟩ = some (.string x))
    (first | exact ⟨cm, c3⟩ | exact ⟨c5, d5⟩)
    (fail)
  go_wp2_with fail
  go_end0
  exact ⟨rfl, HK5.out⟩
/-- How many of some names are among others. -/
def cnt (xs ns : List ByteArray) : Nat := (xs.filter (amid · ns)).length
theorem cnt_le (xs ns : List ByteArray) : cnt xs ns ≤ xs.length := List.length_filter_le _ _
theorem cnt_in {xs ns : List ByteArray} {x : ByteArray} (h : amid x ns = true) : cnt (xs ++ [x]) ns = cnt xs ns + 1 := by simp [cnt, List.filter_append, h]
theorem cnt_out {xs ns : List ByteArray} {x : ByteArray} (h : amid x ns = false) : cnt (xs ++ [x]) ns = cnt xs ns := by simp [cnt, List.filter_append, h]
/-- Names that are being counted. -/
structure Cs (w : World) (gm bm gc : Nat) (ns : List ByteArray) (n : Nat) (W : World) : Prop where
  ns : Ns w gm bm ns W
  box : W.heap[gc]? = some (.cells #[.int .i64 (n : Int)] 3 (0, 0))
  lo : w.heap.size ≤ gc
theorem Cs.kept {w W W' : World} {gm bm gc : Nat} {ns : List ByteArray} {n : Nat} (h : Cs w gm bm gc ns n W) (hb : Below W.heap.size W W') : Cs w gm bm gc ns n W' := ⟨h.ns.kept hb, (hb.block _ (lt_of_obj h.box)).trans h.box, h.lo⟩
theorem Cs.set {w W : World} {gm bm gc : Nat} {ns : List ByteArray} {n m : Nat} (h : Cs w gm bm gc ns n W) : Cs w gm bm gc ns m (W.setCell ⟨gc, 0, none⟩ (.int .i64 (m : Int))) := by
  have h1 : gm ≠ gc := fun e => by have := h.ns.box; rw [e, h.box] at this; cases this
  have h2 : bm ≠ gc := fun e => by obtain ⟨es, c, this⟩ := h.ns.mp.isMap; rw [e, h.box] at this; cases this
  exact ⟨h.ns.heap (heap_setCell_other W ⟨gc, 0, none⟩ gm _ h1) (heap_setCell_other W ⟨gc, 0, none⟩ bm _ h2) (h.ns.below.setCell h.lo _), set_obj h.box, h.lo⟩
set_option maxHeartbeats 2000000 in
theorem names2_any (w : World) (gm bm gc : Nat) (ns : List ByteArray) (m : Nat) (hm : m ≤ 100000) :
    Tells 28 #[.pointer (some ⟨gm, 0, none⟩), .pointer (some ⟨gc, 0, none⟩)] m w (fun pre W => Cs w gm bm gc ns (cnt (pre.map nm) ns) W) := by
  intro pre b l k v r pl pr W hp hK hN
  have hK : Cs w gm bm gc ns (cnt (pre.map nm) ns) W := hK
  show Calls Tryz.prog 28 #[.pointer (some ⟨b, 0, none⟩), .pointer (some ⟨gm, 0, none⟩), .pointer (some ⟨gc, 0, none⟩)] W fun e W' => e = .returned (.tuple #[]) ∧ Cs w gm bm gc ns (cnt ((pre ++ [Tr.T.node l k v r]).map nm) ns) W'
  rw [List.map_append, show [Tr.T.node l k v r].map nm = [nm (.node l k v r)] from rfl]
  have hcn : cnt (pre.map nm) ns ≤ 100000 := by have := cnt_le (pre.map nm) ns; rw [List.length_map] at this; omega
  generalize pre.map nm = xs at *
  have hs := nm_size (.node l k v r)
  have hNW := hN.below hK.ns.below
  have c3 := hNW.c3
  generalize nm (.node l k v r) = x at *
  have cm : W.cell? ⟨gm, 0, none⟩ = some (.map (some bm)) := cell_obj hK.ns.box 0
  have cc : W.cell? ⟨gc, 0, none⟩ = some (.int .i64 ((cnt xs ns : Nat) : Int)) := cell_obj hK.box 0
  have fc : W.frozen? ⟨gc, 0, none⟩ = false := free_obj hK.box 0
  have hl : ∀ n, (Instr.lookup 62 (.map (some bm)) (.string x) false).run Tryz.prog (W.drewN n) = .ok (.bool (amid x ns)) (W.drewN n) := fun n => (hK.kept (bdn (Below.refl _ _) n)).ns.mp.look (by unfold maxLen; omega)
  have HK := Lib.hid (fun n => hK.kept (bdn (Below.refl _ _) n))
  cases hx : amid x ns
  · have HE := Lib.hid (cnt_out (xs := xs) hx)
    rw [hx] at hl
    generalize cnt xs ns = c at *
    clear hp hK hN hs hNW hx
    go_enter Tryz.func28, Tryz.ntmps28
    go_wp2_with fail
    go_quiet (fail)
    go_wp2_with fail
    go_end0
    exact ⟨rfl, by rw [HE.out]; exact HK.out _⟩
  · have HE := Lib.hid (cnt_in (xs := xs) hx)
    rw [hx] at hl
    generalize cnt xs ns = c at *
    clear hp hK hN hs hNW hx
    go_enter Tryz.func28, Tryz.ntmps28
    go_wp2_with fail
    go_quiet (fail)
    go_wp2_with fail
    go_end0
    exact ⟨rfl, by rw [HE.out]; exact (HK.out _).set (m := c + 1)⟩
end Go.Proofs.YtheobkepoocamaaGreatDoor
namespace Go.Proofs.YtheobkepoocamaaGreatDoor
set_option maxRecDepth 100000
open Go.RowKit Go.Less
def snames (l : List Pr) : List ByteArray := (cn l).subs.map nm
theorem ns_start {w w1 : World} (h : Below w.heap.size w w1) : Ns w (w1.heap.size + 1) w1.heap.size [] ((w1.alloc (.map #[] 0)).alloc (.cells #[.map (some w1.heap.size)] 62)) := by
  have s1 : (w1.alloc (.map #[] 0)).heap.size = w1.heap.size + 1 := by simp
  have h1 := heap_alloc_new (w1.alloc (.map #[] 0)) (.cells #[.map (some w1.heap.size)] 62)
  rw [s1] at h1
  exact ⟨h1, (Mp.made w1).kept ((below_one _ _).block _ (by rw [s1]; omega)), h.size, balloc _ (balloc _ h)⟩
theorem cs_start {w W : World} {gm bm : Nat} {ns : List ByteArray} (h : Ns w gm bm ns W) : Cs w gm bm W.heap.size ns 0 (W.alloc (.cells #[.int .i64 0] 3)) :=
  ⟨h.kept (below_one W _), heap_alloc_new W _, h.below.size⟩
theorem makeMap62 (n : Int) (w : World) : (Instr.makeMap 62 (some (.int .i64 n))).run Tryz.prog w = .ok (.map (some w.heap.size)) (w.alloc (.map #[] 0)) := by kernel_rfl
set_option maxHeartbeats 4000000 in
theorem shared_any {w : World} {ma mb : Option Nat} {la lb : List Pr} (hA : Rp w ma la) (hB : Rp w mb lb) (hla : la.length ≤ 5000) (hlb : lb.length ≤ 5000) :
    Calls Tryz.prog 10 #[pv ma, pv mb] w fun e W' => e = .returned (.int .i64 ((cnt (snames la) (snames lb) : Nat) : Int)) ∧ Below w.heap.size w W' := by
  have HA := Lib.hid hA
  have HB := Lib.hid hB
  have hca : (cn la).len ≤ 5000 := by rw [cn_len]; exact hla
  have hcb : (cn lb).len ≤ 5000 := by rw [cn_len]; exact hlb
  have HCA := Lib.hid hca
  have HCB := Lib.hid hcb
  have hl0 : (0 : Int) ≤ (lb.length : Int) := by omega
  have hl1 : (lb.length : Int) ≤ 5000 := by omega
  have hmm := makeMap62
  have HL := Lib.hid (mlen_any hB)
  clear hA hB hla hlb hca hcb
  go_enter Tryz.func10, Tryz.ntmps10
  go_wp2_with fail
  refine HL.out.mono ?_
  rintro e w1 ⟨rfl, hw1⟩
  dsimp only
  go_wp2_with fail
  have hN0 := ns_start hw1
  generalize ((w1.alloc (.map #[] 0)).alloc (.cells #[.map (some w1.heap.size)] 62)) = W0 at hN0 ⊢
  have HN0 := Lib.hid hN0
  clear hN0
  refine (treeOf_at HB.out.map HN0.out.below).mono ?_
  rintro e w' ⟨q, rfl, hq, rfl⟩
  have HQ := Lib.hid hq
  clear hq
  dsimp only
  go_wp2_with fail
  refine (walk_any 27 _ (enters_of Tryz.func27 (by kernel_rfl) rfl) w 5000 (fun pre W => Ns w (w1.heap.size + 1) w1.heap.size (pre.map nm) W) (names1_any w _ _ 5000 (by decide)) (fun _ _ h => h.below) (cn lb) q [] W0 HQ.out HN0.out (by rw [List.length_nil, Nat.zero_add]; exact HCB.out)).mono ?_
  rintro e W1 ⟨rfl, h1⟩
  rw [List.nil_append] at h1
  have HC0 := Lib.hid (cs_start h1)
  clear h1
  dsimp only
  go_wp2_with fail
  refine (treeOf_at HA.out.map HC0.out.ns.below).mono ?_
  rintro e w' ⟨p, rfl, hp, rfl⟩
  have HP := Lib.hid hp
  clear hp
  dsimp only
  go_wp2_with fail
  refine (walk_any 28 _ (enters_of Tryz.func28 (by kernel_rfl) rfl) w 5000 (fun pre W => Cs w (w1.heap.size + 1) w1.heap.size W1.heap.size (snames lb) (cnt (pre.map nm) (snames lb)) W) (names2_any w _ _ _ (snames lb) 5000 (by decide)) (fun _ _ h => h.ns.below) (cn la) p [] _ HP.out HC0.out (by rw [List.length_nil, Nat.zero_add]; exact HCA.out)).mono ?_
  rintro e W2 ⟨rfl, h2⟩
  rw [List.nil_append] at h2
  have c2 : W2.cell? ⟨W1.heap.size, 0, none⟩ = some (.int .i64 ((cnt (snames la) (snames lb) : Nat) : Int)) := cell_obj h2.box 0
  have HB2 := Lib.hid h2.ns.below
  clear h2
  dsimp only
  go_wp2_with fail
  go_ret
  exact ⟨rfl, HB2.out⟩
end Go.Proofs.YtheobkepoocamaaGreatDoor
