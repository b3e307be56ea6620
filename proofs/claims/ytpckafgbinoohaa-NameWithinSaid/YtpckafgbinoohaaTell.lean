/- Split's closure: one name more in its box. -/
import Derived.Test.YtpckafgbinoohaaRefSplit
import Derived.Test.YtpckafgbinoohaaSLays
import Derived.Deep.RegionLaw
namespace Go.Proofs.Ytpckafgbinoohaa
set_option maxRecDepth 100000
open Go.RowKit
theorem stringslite_Clone (s : ByteArray) (w : World) (hlim : s.size ≤ 281474976710656) : Calls Try.prog 28 #[.string s] w fun e w' => e = .returned (.string s) ∧ Below w.heap.size w w' := Any.stringslite_Clone laysM316 s w hlim
theorem clone_any (s : ByteArray) (w : World) (hlim : s.size ≤ 281474976710656) : Calls Try.prog 20 #[.string s] w fun e w' => e = .returned (.string s) ∧ Below w.heap.size w w' := by
  go_enter Try.func20, Try.ntmps20
  go_wp2_with fail
  refine (stringslite_Clone s _ hlim).mono ?_
  rintro e w1 ⟨rfl, hw1⟩
  dsimp only
  go_wp2_with fail
  go_ret
  exact ⟨rfl, hw1⟩
theorem lt_of_obj {w : World} {b : Nat} {o : Obj} (h : w.heap[b]? = some o) : b < w.heap.size := (Array.getElem?_eq_some_iff.1 h).1
theorem below_one (w : World) (o : Obj) : Below w.heap.size w (w.alloc o) := (Below.refl _ _).alloc (Nat.le_refl _) o
theorem below_drew {w w' : World} (h : Below w.drew.heap.size w.drew w') : Below w.heap.size w w' := ((Below.refl w.heap.size w).drew).trans h
theorem cell_obj {w : World} {b : Nat} {cs : Array Value} {t : TypeId} {fr : Nat × Nat} (h : w.heap[b]? = some (.cells cs t fr)) (k : Nat) : w.cell? ⟨b, k, none⟩ = cs[k]? := by
  simp [World.cell?, h]
theorem free_obj {w : World} {b : Nat} {cs : Array Value} {t : TypeId} (h : w.heap[b]? = some (.cells cs t (0, 0))) (k : Nat) : w.frozen? ⟨b, k, none⟩ = false := by
  simp [World.frozen?, h]
theorem grown_obj {w w' : World} {row : Option Nat} {b : Nat} {o : Obj} (hg : w.grownBy w' row) (h : w.heap[b]? = some o) (hne : some b ≠ row) : w'.heap[b]? = some o := (hg.block b (lt_of_obj h) hne).trans h
theorem set_obj {w : World} {b : Nat} {x y : Value} {t : TypeId} (h : w.heap[b]? = some (.cells #[x] t (0, 0))) : (w.setCell ⟨b, 0, none⟩ y).heap[b]? = some (.cells #[y] t (0, 0)) := by
  have := heap_setCell_same w b 0 #[x] t y h
  simpa using this
/-- Names that are being gathered, in a box. -/
structure Box (w : World) (g : Nat) (l : List (List UInt8)) (W : World) : Prop where
  row : ∃ ao cap, W.heap[g]? = some (.cells #[.slice ao l.length cap] 22 (0, 0)) ∧ Trow (g + 1) (.slice ao l.length cap) l W
  lo : w.heap.size ≤ g
  below : Below w.heap.size w W
theorem Box.kept {w W W' : World} {g : Nat} {l : List (List UInt8)} (h : Box w g l W) (hb : Below W.heap.size W W') : Box w g l W' := by
  obtain ⟨ao, cap, h1, h2⟩ := h.row
  exact ⟨⟨ao, cap, (hb.block _ (lt_of_obj h1)).trans h1, trow_below h2 hb⟩, h.lo, h.below.trans (hb.mono h.below.size)⟩
/-- One name more: the row has grown, and lies in its box again. -/
theorem box_more {w W w1 w4 : World} {g : Nat} {l : List (List UInt8)} {k : List UInt8} {ao ao4 : Option Addr} {cap cap4 : Nat} (h : Box w g l W) (hw : Below W.heap.size W w1)
    (hO : Trow (g + 1) (.slice ao l.length cap) l (w1.alloc (.cells #[.string (lstr k)] 9)))
    (hO4 : Trow (g + 1) (.slice ao4 (l.length + 1) cap4) (l ++ [k]) w4)
    (hg : (w1.alloc (.cells #[.string (lstr k)] 9)).grownBy w4 (Value.slice ao l.length cap).ownBlock) :
    Box w g (l ++ [k]) (w4.setCell ⟨g, 0, none⟩ (.slice ao4 (l.length + 1) cap4)) := by
  have h3 := (h.kept hw).kept (below_one w1 (.cells #[.string (lstr k)] 9))
  have hne : ∀ x, x ≤ g → some x ≠ (Value.slice ao l.length cap).ownBlock := fun x hx e => by have := trow_lt hO x e.symm; omega
  have hlt4 : ∀ j, (Value.slice ao4 (l.length + 1) cap4).ownBlock = some j → j ≠ g := fun j hj e => by have := trow_lt hO4 j hj; omega
  obtain ⟨a0, c0, hk, _⟩ := h3.row
  have hk4 := grown_obj hg hk (hne g (Nat.le_refl _))
  have lo := h.lo
  have hl : (l ++ [k]).length = l.length + 1 := by simp
  refine ⟨⟨ao4, cap4, ?_, ?_⟩, lo, ?_⟩
  · rw [hl]; exact set_obj hk4
  · rw [hl]
    refine World.ownsRow.kept hO4 (?_ : w4.grownBy _ (some g)) (.inr fun e => ?_)
    · exact ⟨rfl, rfl, rfl, by simp [World.setCell], fun j hj hne => heap_setCell_other w4 ⟨g, 0, none⟩ j _ (fun e => hne (by rw [e]))⟩
    · exact hlt4 g e rfl
  · refine Below.setCell ?_ lo _
    exact h3.below.grown hg h3.below.size (fun j hj => by have := trow_lt hO j hj; omega)
theorem box_mid {w W w1 w4 : World} {g : Nat} {l : List (List UInt8)} {k : List UInt8} {ao : Option Addr} {cap : Nat} (h : Box w g l W) (hw : Below W.heap.size W w1)
    (hO : Trow (g + 1) (.slice ao l.length cap) l (w1.alloc (.cells #[.string (lstr k)] 9))) (hg : (w1.alloc (.cells #[.string (lstr k)] 9)).grownBy w4 (Value.slice ao l.length cap).ownBlock) :
    (∃ v, w4.heap[g]? = some (.cells #[v] 22 (0, 0))) ∧ Below w.heap.size w w4 := by
  have h3 := (h.kept hw).kept (below_one w1 (.cells #[.string (lstr k)] 9))
  obtain ⟨a0, c0, hk, _⟩ := h3.row
  have lo := h.lo
  exact ⟨⟨_, grown_obj hg hk fun e => by have := trow_lt hO g e.symm; omega⟩, h3.below.grown hg h3.below.size (fun j hj => by have := trow_lt hO j hj; omega)⟩
/-- One text appended, in a region that draws its order. -/
theorem step_appt {ops : Array Oper} {o : Oper} {a : Act} {w : World} {K : Act → World → Prop} {E : Prop} {Q : Exit → Act → World → Prop} (hgd : o.guard = none) (s x : Operand)
    (ho : o.op = .call { callee := .builtin .append, args := #[s, x], argTypes := #[22, 22] })
    (base : Nat) (v : Value) (ls : List (List UInt8)) (hs : a.eval s = v) (hown : Trow base v ls w)
    (b : Nat) (c : List UInt8) (hx : a.eval x = .slice (some ⟨b, 0, none⟩) 1 1) (hc : w.cell? ⟨b, 0, none⟩ = some (.string (lstr c))) (hn : ls.length ≤ 1000000) (hbase : base ≤ w.heap.size)
    (h : ∀ ao' cap' w', Trow base (.slice ao' (ls.length + 1) cap') (ls ++ [c]) w' → w.grownBy w' v.ownBlock → K (a.put o.dst (.slice ao' (ls.length + 1) cap')) w') :
    if Region.wanted o (yielded ops a.tmps) = true then Oper.wp Try.prog o a w K Q else E := by
  have hw : Region.wanted o (yielded ops a.tmps) = true := by simp [Region.wanted, hgd]
  rw [if_pos hw]
  obtain ⟨i0, hi, hz0, hz1, hz2⟩ := info_parts info9c
  refine wp_append_own w s x 22 ho base 9 i0 (.string ⟨#[]⟩) 1 16 Try.underlying22 hi hz0 hz1 hz2 rfl (by decide) v ls.length (ls.map fun l => .string (lstr l)) hs hown ⟨b, 0, none⟩ 1 1 [.string (lstr c)] hx rfl ?_ ?_ (by unfold maxLen; omega) (by omega) hbase ?_
  · intro j y hj
    match j with
    | 0 => simp at hj; subst hj; simpa [Addr.add] using hc
    | j + 1 => simp at hj
  · intro y hy; simp at hy; subst hy; rfl
  · intro v' w' hown' hg _
    have hB' : Trow base v' (ls ++ [c]) w' := by
      unfold Trow
      rw [List.length_append, List.map_append]
      exact hown'
    obtain ⟨ao', cap', rfl⟩ := trow_form hB'
    rw [List.length_append] at hB' ⊢
    exact h ao' cap' w' hB' hg
def Tells (w : World) (g : Nat) (l : List (List UInt8)) (e : Ending) (W : World) : Prop := e = .returned (.tuple #[]) ∧ Box w g l W
set_option maxHeartbeats 4000000 in
theorem tell_any (w W : World) (g : Nat) (XL : List (List UInt8)) (k : List UInt8) (hk : k.length ≤ 100000) (hX : XL.length ≤ 100) (HB : Box w g XL W) :
    Calls Try.prog 19 #[.string (lstr k), .pointer (some ⟨g, 0, none⟩)] W (Tells w g (XL ++ [k])) := by
  have HC := Lib.hid (fun W1 => clone_any (lstr k) W1 (by rw [lstr_size]; omega))
  have HLen := Lib.hid hX
  have HK5 := Lib.hid HB
  obtain ⟨ao, cap, hk1, hk2⟩ := HB.row
  have ck5 : W.cell? ⟨g, 0, none⟩ = some (.slice ao XL.length cap) := cell_obj hk1 0
  have hgk := lt_of_obj hk1
  have HO5 := Lib.hid hk2
  clear hk1 hk2 HB hk hX
  go_enter Try.func19, Try.ntmps19
  go_wp2_with fail
  go_region_law (first
      | (refine step_appt rfl _ _ rfl (g + 1) _ XL (by rfl) HO3.out w1.heap.size k (by rfl) (by simp) (Nat.le_trans HLen.out (by decide)) HZ.out ?_; intro ao4 cap4 w4 hown4 hgrow4; have HK4 := Lib.hid (box_more HK5.out hw1 HO3.out hown4 hgrow4); have hmid := box_mid HK5.out hw1 HO3.out hgrow4; have HB4 := Lib.hid hmid.2; obtain ⟨v4, hk4⟩ := hmid.1; have ck4 := cell_obj hk4 0; have fk4 := free_obj hk4 0; clear hown4 hgrow4 hk4 hmid)
      | (go_simp; (with_reducible refine (HC.out _).mono ?_); rintro e w1 ⟨rfl, hw1d⟩; have hw1 := below_drew hw1d; have ck1 := (hw1.cell (p := ⟨g, 0, none⟩) hgk).trans ck5; have hgk1 := Nat.lt_of_lt_of_le hgk hw1.size; have HB3 := Lib.hid (hw1.trans ((below_one w1 (.cells #[.string (lstr k)] 9)).mono hw1.size)); have HO3 := Lib.hid (trow_below (trow_below HO5.out hw1) (below_one w1 (.cells #[.string (lstr k)] 9))); have HZ := Lib.hid (Nat.le_trans (Nat.succ_le_of_lt hgk) HB3.out.size)))
  all_goals
    go_wp2_with fail
    go_end0
    exact ⟨rfl, HK4.out⟩
end Go.Proofs.Ytpckafgbinoohaa
