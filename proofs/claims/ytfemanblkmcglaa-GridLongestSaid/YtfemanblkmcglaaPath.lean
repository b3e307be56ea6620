/- The best path. -/
import Derived.Test.YtfemanblkmcglaaBest
import Derived.Test.YtfemanblkmcglaaOwn
import Derived.ScopeJumps
namespace Go.Proofs.Ytfemanblkmcglaa
open Go.RowKit Grid

theorem scope_jumps2 {P : Program} {a : Act} {w : World} {Q : Exit → Act → World → Prop} {c rest : Code} (l : Nat) (J : Act → World → Prop) (μ : Act → World → Nat) (hf : findLabel c l = some (Code.skip.seq rest))
    (pass : ∀ a w, J a w → rest.wp P (Exit.jump l (fun a' w' => J a' w' ∧ μ a' w' < μ a w) Q) a w)
    (first : (∀ a w, J a w → rest.wp P (Exit.jump l J Q) a w) → c.wp P (Exit.jump l J Q) a w) : (Code.scope c).wp P Q a w :=
  wp_scope_jumps l J μ hf (first fun a w hj => Code.wp_mono (fun e a w h => by cases e <;> first | exact h | exact ⟨h.1, h.2.1⟩) (pass a w hj))
    (fun a w hj => wp_seq (wp_skip (pass a w hj)))

/-- The slots that nothing is asked of. -/
structure Us where
  u10 : Value
  u11 : Value
  u12 : Value
  u13 : Value
  u14 : Value
  u15 : Value
  u16 : Value
  u17 : Value
  u18 : Value
  u19 : Value
  u20 : Value
  u21 : Value
  u22 : Value
  u23 : Value
  u24 : Value
  u25 : Value
  u26 : Value
  u27 : Value
  u28 : Value
  u29 : Value
  u30 : Value
  u31 : Value
  u32 : Value
  u33 : Value
  u34 : Value
  u35 : Value
  u36 : Value
  u37 : Value
  u38 : Value
  u39 : Value
  u40 : Value
  u41 : Value
  u42 : Value
  u43 : Value
  u44 : Value
  u45 : Value
  u46 : Value
  u47 : Value
  u48 : Value
  u49 : Value
  u50 : Value

/-- The way so far, in memory; the table lies at the first block. -/
structure Way (w : World) (sa sb : List ByteArray) (ao : Option Addr) (cap : Nat) (pre : List Nat) (wr : World) : Prop where
  own : wr.ownsRow (w.heap.size + 1) 34 1 (.slice ao pre.length cap) pre.length (pre.map sv)
  tab : Tab w.heap.size (at_ sa sb) wr
  below : Below w.heap.size w wr
  base : w.heap.size < wr.heap.size
theorem Way.drewN {w wr : World} {sa sb : List ByteArray} {ao : Option Addr} {cap : Nat} {pre : List Nat} (h : Way w sa sb ao cap pre wr) (n : Nat) : Way w sa sb ao cap pre (wr.drewN n) :=
  ⟨h.own, h.tab.drewN n, below_drewN h.below n, h.base⟩
theorem Way.alloc {w wr : World} {sa sb : List ByteArray} {ao : Option Addr} {cap : Nat} {pre : List Nat} (h : Way w sa sb ao cap pre wr) (o : Obj) : Way w sa sb ao cap pre (wr.alloc o) := by
  have hb := (Below.refl wr.heap.size wr).alloc (Nat.le_refl _) o
  exact ⟨owns_below h.own hb, h.tab.below h.base hb, h.below.alloc h.below.size o, Nat.lt_of_lt_of_le h.base hb.size⟩
theorem Way.next {w wr w' : World} {sa sb : List ByteArray} {ao ao' : Option Addr} {cap cap' k : Nat} {pre : List Nat} (h : Way w sa sb ao cap pre wr)
    (hown : w'.ownsRow (w.heap.size + 1) 34 1 (.slice ao' (pre.length + 1) cap') (pre.length + 1) (pre.map sv ++ [sv k])) (hg : wr.grownBy w' (Value.slice ao pre.length cap).ownBlock) : Way w sa sb ao' cap' (pre ++ [k]) w' := by
  have hlt := owns_lt h.own
  refine ⟨?_, ?_, h.below.grown hg h.below.size (fun j hj => Nat.le_trans (Nat.le_succ _) (hlt j hj).1), Nat.lt_of_lt_of_le h.base hg.size⟩
  · rw [List.length_append, List.map_append]; exact hown
  · have hk : w'.heap[w.heap.size]? = wr.heap[w.heap.size]? := hg.block _ h.base (fun e => by have := (hlt _ e.symm).1; omega)
    exact ⟨fun x y hx hy => (World.cell?_of_block hk).trans (h.tab.cell x y hx hy), fun x y hx hy => (World.frozen?_of_block hk).trans (h.tab.free x y hx hy)⟩
def lenOf : Value → Nat
  | .slice _ n _ => n
  | _ => 0
theorem path_le (sa sb : List ByteArray) : (path sa sb).length ≤ sa.length + sb.length := by have := good_length (path_good sa sb); omega

theorem pv_zero : pv 0 0 = .complex .f64 0 0 := by show Value.complex .f64 (fb 0) (fb 0) = _; rw [fb_zero]
/-- At the label. -/
def Jpath (a b : Option Addr) (la ca lb cb : Nat) (sa sb : List ByteArray) (w : World) (a' : Act) (wr : World) : Prop :=
  ∃ (x y : Nat) (ao : Option Addr) (cap : Nat) (pre : List Nat) (u : Us), x ≤ la ∧ y ≤ lb ∧ path sa sb = pre ++ path_at sa sb x y ∧ Way w sa sb ao cap pre wr ∧ a' = { tmps := #[.slice a la ca, .slice b lb cb, undef, undef, .slice none 0 0, .int .i64 0, .pointer (some ⟨w.heap.size, 0, none⟩), pv la lb, .slice ao pre.length cap, pv x y, u.u10, u.u11, u.u12, u.u13, u.u14, u.u15, u.u16, u.u17, u.u18, u.u19, u.u20, u.u21, u.u22, u.u23, u.u24, u.u25, u.u26, u.u27, u.u28, u.u29, u.u30, u.u31, u.u32, u.u33, u.u34, u.u35, u.u36, u.u37, u.u38, u.u39, u.u40, u.u41, u.u42, u.u43, u.u44, u.u45, u.u46, u.u47, u.u48, u.u49, u.u50], defers := [] }
/-- The path, as it is handed back. -/
def Found (sa sb : List ByteArray) (w : World) (e : Ending) (w' : World) : Prop :=
  ∃ ao cap, e = .returned (.tuple #[.slice ao (path sa sb).length cap, .int .i64 0]) ∧ Steps ao (path sa sb).length (path sa sb) w' ∧ Below w.heap.size w w'

set_option maxRecDepth 100000 in
set_option maxHeartbeats 2000000 in
theorem path_any (a b : Option Addr) (la ca lb cb : Nat) (sa sb : List ByteArray) (w : World) (hA : Strs a la sa w) (hB : Strs b lb sb w) (hla : la ≤ 256) (hlb : lb ≤ 256) :
    Calls Try.prog 10 #[.slice a la ca, .slice b lb cb] w (Found sa sb w) := by
  have hl1 : (la : Int) ≤ 256 := by omega
  have hl2 : (lb : Int) ≤ 256 := by omega
  have i1 := fun w => int_float w la
  have i2 := fun w => int_float w lb
  obtain ⟨i0, hi, hz0, hz1, hz2⟩ := info_parts info34
  have hcA := hA.count
  have hcB := hB.count
  have HA := Lib.hid hA
  have HB := Lib.hid hB
  have HCA := Lib.hid hcA
  have HCB := Lib.hid hcB
  clear hcA hcB
  go_enter Try.func10, Try.ntmps10
  go_wp2_with fail
  refine scope_jumps2 0 (Jpath a b la ca lb cb sa sb w) (fun a' _ => la + lb - lenOf (a'.tmps.getD 8 undef)) rfl ?_ ?_
  · rintro a' wr ⟨x, y, ao, cap, pre, u, hx, hy, hpre, hW, rfl⟩
    have n1 := fun w => pt_neq (P := Try.prog) w 34 (x := x) (y := y) (u := la) (v := lb) (by omega) (by omega) (by omega) (by omega)
    have hlen := path_le sa sb
    rw [hpre, List.length_append, ← HCA.out, ← HCB.out] at hlen
    by_cases hend : x = la ∧ y = lb
    · obtain ⟨rfl, rfl⟩ := hend
      have HP := Lib.hid (show path sa sb = pre from by rw [hpre, path_end (by rw [HCA.out]; exact Nat.le_refl _) (by rw [HCB.out]; exact Nat.le_refl _), List.append_nil])
      have HW := Lib.hid hW
      clear hW hpre hlen
      go_wp2_with fail
      simp only [Exit.jump]
      go_ret2
      exact ⟨ao, cap, (by rw [HP.out]; rfl), by rw [HP.out]; exact steps_owned HW.out.own, HW.out.below⟩
    · have hd : decide (x = la ∧ y = lb) = false := decide_eq_false hend
      obtain ⟨hp1, hp2, hp3, hp4⟩ := nxt_path (sa := sa) (sb := sb) (x := x) (y := y) (by rw [← HCA.out]; exact hx) (by rw [← HCB.out]; exact hy) (by rw [← HCA.out, ← HCB.out]; exact hend)
      have hadd := fun w => pt_add (P := Try.prog) w 34 (x := x) (y := y) (nxt sa sb x y) (by omega) (by omega)
      have HBest := Lib.hid (best_any a b la ca lb cb w.heap.size x y sa sb wr (HA.out.below hW.below) (HB.out.below hW.below) hW.tab hla hlb hx hy hend)
      have hm : pre.length + 1 ≤ la + lb := by rw [hp1, List.length_cons] at hlen; omega
      have HPre := Lib.hid (show path sa sb = (pre ++ [nxt sa sb x y]) ++ path_at sa sb (x + gx (nxt sa sb x y)) (y + gy (nxt sa sb x y)) from by rw [hpre, hp1, List.append_assoc]; rfl)
      have HX := Lib.hid (show x + gx (nxt sa sb x y) ≤ la from by rw [HCA.out]; exact hp2)
      have HY := Lib.hid (show y + gy (nxt sa sb x y) ≤ lb from by rw [HCB.out]; exact hp3)
      have HW := Lib.hid hW
      clear hW hpre hlen hp1 hp2 hp3 hp4
      generalize nxt sa sb x y = k at hadd HBest HPre HX HY
      clear hend
      go_wp2_with fail
      refine HBest.out.mono ?_
      rintro e w2 ⟨rfl, n, hw2⟩
      have W2 : Way w sa sb ao cap pre w2 := hw2 ▸ HW.out.drewN n
      clear hw2 HW HBest
      dsimp only
      have W3 := Lib.hid (W2.alloc (.cells #[sv k] 34))
      clear W2
      go_wp2_with (at_builtin; refine at_app1 rfl _ _ 25 34 Try.underlying25 rfl (.complex .f64 0 0) info34 rfl (w.heap.size + 1) _ pre.length (pre.map sv) (by rfl) W3.out.own w2.heap.size (sv k) (by rfl) (by simp) rfl (by omega) W3.out.base ?_; intro ao4 cap4 w4 hown4 hgrow4; have W4 := Lib.hid (W3.out.next hown4 hgrow4); clear hown4 hgrow4)
      go_step3
      refine ⟨rfl, ⟨_, _, ao4, cap4, pre ++ [k], ⟨_, _, _, _, _, _, _, _, _, _, _, _, _, _, _, _, _, _, _, _, _, _, _, _, _, _, _, _, _, _, _, _, _, _, _, _, _, _, _, _, _⟩, HX.out, HY.out, HPre.out, W4.out, by rw [List.length_append]; rfl⟩, ?_⟩
      simp [lenOf]
      omega
  · intro hpass
    go_wp2_with fail
    refine (most_any a b la ca lb cb sa sb _ HA.out HB.out hla hlb).mono ?_
    rintro e w1 ⟨rfl, hT, hB1⟩
    dsimp only
    have HT := Lib.hid hT
    have HB1 := Lib.hid hB1
    have HG := Lib.hid (show w.heap.size < w1.heap.size from block_lt_of_cell (hT.cell 0 0 (by omega) (by omega)))
    clear hT hB1
    go_wp2_with (refine wpList_make_own _ rfl _ _ _ rfl (w.heap.size + 1) 34 i0 (.complex .f64 0 0) 1 Try.underlying25 hi hz0 hz1 .i64 .i64 _ (la + lb) rfl rfl (by omega) (by rw [hz2]; omega) (by unfold maxLen; omega) (by have := HG.out; omega) ?_; intro w2 hown2 hgrow2)
    go_step3
    rename_i Kf hKf
    have hb2 : Below w1.heap.size w1 w2 := (Below.refl _ _).grown hgrow2 (Nat.le_refl _) (fun j hj => by cases hj)
    rw [← pv_zero]
    exact hKf _ _ (hpass _ _ ⟨0, 0, _, la + lb, [], ⟨_, _, _, _, _, _, _, _, _, _, _, _, _, _, _, _, _, _, _, _, _, _, _, _, _, _, _, _, _, _, _, _, _, _, _, _, _, _, _, _, _⟩, Nat.zero_le _, Nat.zero_le _, by rw [path_zero]; rfl, ⟨hown2, HT.out.below HG.out hb2, HB1.out.trans (hb2.mono HB1.out.size), Nat.lt_of_lt_of_le HG.out hb2.size⟩, rfl⟩)
end Go.Proofs.Ytfemanblkmcglaa
