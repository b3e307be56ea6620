/- A path, done. -/
import Derived.Test.YtfemanblkmcglaaComes
namespace Go.Proofs.Ytfemanblkmcglaa
open Go.RowKit Grid

/-- A slice's rest behind its first. -/
def tl (a : Option Addr) (cap : Nat) : Option Addr := if cap = 1 then a else a.map (·.add 1)
theorem run_tl (a : Option Addr) (n cap : Nat) (w : World) : (Instr.slice 22 (.slice a (n + 1) cap) (some (.int .i64 1)) none none).run Try.prog w = .ok (.slice (tl a cap) n (cap - 1)) w := by
  have he : Try.prog.elem 22 = 9 := by kernel_rfl
  have h := run_slice_l (P := Try.prog) (w := w) 22 a (n + 1) cap (by rw [he]; exact Try.underlying22) .i64 1 (by omega) (by omega)
  rw [he, Try.sizeOf9 w, Result.andThen_ok] at h
  rw [h]
  unfold sliced tl
  rw [show (1 : Int).toNat = 1 from rfl, Nat.add_sub_cancel, Nat.mul_one]
theorem Strs.tail {a : Option Addr} {n cap : Nat} {s : ByteArray} {ss : List ByteArray} {w : World} (h : Strs a (n + 1) (s :: ss) w) (hc : n + 1 ≤ cap) : Strs (tl a cap) n ss w := by
  refine ⟨by have := h.count; simpa using this, fun i hi => ?_⟩
  obtain ⟨b, off, rfl, h1⟩ := h.cell (i + 1) (by omega)
  refine ⟨b, off + 1, ?_, ?_⟩
  · unfold tl
    rw [if_neg (by omega)]; rfl
  · rw [show off + 1 + i = off + (i + 1) from by omega, h1]; rfl
theorem Strs.head {a : Option Addr} {n : Nat} {s : ByteArray} {ss : List ByteArray} {w : World} (h : Strs a (n + 1) (s :: ss) w) : ∃ b off, a = some ⟨b, off, none⟩ ∧ w.cell? ⟨b, off, none⟩ = some (.string s) := by
  obtain ⟨b, off, h1, h2⟩ := h.cell 0 (by omega)
  exact ⟨b, off, h1, h2⟩

/-- What is left of the two rows, and what is made so far. -/
def Left (p : List Nat) (sa sc : List ByteArray) (k : Nat) (ra rc out : List ByteArray) : Prop := apply p sa sc = (apply (p.drop k) ra rc).map (out ++ ·)
theorem left_zero (p : List Nat) (sa sc : List ByteArray) : Left p sa sc 0 sa sc [] := by
  unfold Left
  rw [List.drop_zero]
  cases apply p sa sc <;> rfl
theorem left_stay {p : List Nat} {sa sc ra rc out : List ByteArray} {k : Nat} {s : ByteArray} (h : Left p sa sc k (s :: ra) rc out) (hk : k < p.length) (h0 : p[k] = 0) : Left p sa sc (k + 1) ra rc (out ++ [s]) := by
  unfold Left at h ⊢
  rw [h, List.drop_eq_getElem_cons hk, h0, apply_zero, map_append]
theorem left_goes {p : List Nat} {sa sc ra rc out : List ByteArray} {k : Nat} {s : ByteArray} (h : Left p sa sc k (s :: ra) rc out) (hk : k < p.length) (h0 : p[k] = 1) : Left p sa sc (k + 1) ra rc out := by
  unfold Left at h ⊢
  rw [h, List.drop_eq_getElem_cons hk, h0, apply_one]
theorem left_comes {p : List Nat} {sa sc ra rc out : List ByteArray} {k : Nat} {s : ByteArray} (h : Left p sa sc k ra (s :: rc) out) (hk : k < p.length) (h0 : p[k] = 2) : Left p sa sc (k + 1) ra rc (out ++ [s]) := by
  unfold Left at h ⊢
  rw [h, List.drop_eq_getElem_cons hk, h0, apply_two, map_append]
theorem left_short {p : List Nat} {sa sc rc out : List ByteArray} {k : Nat} (h : Left p sa sc k [] rc out) (hk : k < p.length) (h0 : p[k] < 2) : apply p sa sc = none := by
  unfold Left at h
  rw [h, List.drop_eq_getElem_cons hk, apply_short h0]; rfl
theorem left_none {p : List Nat} {sa sc ra out : List ByteArray} {k : Nat} (h : Left p sa sc k ra [] out) (hk : k < p.length) (h0 : p[k] = 2) : apply p sa sc = none := by
  unfold Left at h
  rw [h, List.drop_eq_getElem_cons hk, h0, apply_none]; rfl
theorem left_rest {p : List Nat} {sa sc ra rc out : List ByteArray} {k : Nat} (h : Left p sa sc k ra rc out) (hk : p.length ≤ k) (h0 : ra ≠ [] ∨ rc ≠ []) : apply p sa sc = none := by
  unfold Left at h
  rw [h, List.drop_eq_nil_of_le hk, apply_rest h0]; rfl
theorem left_end {p : List Nat} {sa sc out : List ByteArray} {k : Nat} (h : Left p sa sc k [] [] out) (hk : p.length ≤ k) : apply p sa sc = some out := by
  unfold Left at h
  rw [h, List.drop_eq_nil_of_le hk, apply_done]
  show some (out ++ []) = _
  rw [List.append_nil]
/-- What is handed back. -/
def Applied (o : Option (List ByteArray)) (w : World) (e : Ending) (w' : World) : Prop :=
  match o with
  | none => e = .returned (.tuple #[.slice none 0 0, .int .i64 2]) ∧ Below w.heap.size w w'
  | some l => ∃ ao cap, e = .returned (.tuple #[.slice ao l.length cap, .int .i64 0]) ∧ Strs ao l.length l w' ∧ Below w.heap.size w w'
/-- What waits of a row, in memory. -/
structure Wait (r : List ByteArray) (a : Option Addr) (m c : Nat) (w : World) : Prop where
  at_ : Strs a m r w
  cap : m ≤ c
  small : ∀ s ∈ r, s.size ≤ 140737488355328
  len : m ≤ 1000000
theorem Wait.below {r : List ByteArray} {a : Option Addr} {m c : Nat} {w w' : World} (h : Wait r a m c w) (hb : Below w.heap.size w w') : Wait r a m c w' := ⟨h.at_.below hb, h.cap, h.small, h.len⟩
theorem Wait.tail {s : ByteArray} {r : List ByteArray} {a : Option Addr} {m c : Nat} {w : World} (h : Wait (s :: r) a (m + 1) c w) : Wait r (tl a c) m (c - 1) w :=
  ⟨h.at_.tail h.cap, by have := h.cap; omega, fun x hx => h.small x (List.mem_cons_of_mem _ hx), by have := h.len; omega⟩

attribute [local go_sem 9000] eql_stay eql_goes eql_comes run_tl
set_option maxRecDepth 100000 in
set_option maxHeartbeats 4000000 in
theorem apply_any (a pa b : Option Addr) (la ca len cap lb cb : Nat) (sa sc : List ByteArray) (p : List Nat) (w : World) (hA : Wait sa a la ca w) (hS : Steps pa len p w) (hB : Wait sc b lb cb w) (hlen : len ≤ 10000)
    (h3 : ∀ k ∈ p, k < 3) :
    Calls Try.prog 12 #[.slice a la ca, .slice pa len cap, .slice b lb cb] w (Applied (apply p sa sc) w) := by
  have hl1 : (len : Int) ≤ 10000 := by omega
  have HCS := Lib.hid hS.count
  have H3 := Lib.hid h3
  have HA := Lib.hid hA
  have HB := Lib.hid hB
  have HS := Lib.hid hS
  clear h3 hA hB hS
  go_enter Try.func12, Try.ntmps12
  go_wp2_with fail
  go_loopw [0, 2, 8, 13] (fun va vc x i wr => ∃ (k : Nat) (aa ac ao : Option Addr) (ma mc ka kc c : Nat) (ra rc out : List ByteArray), k ≤ len ∧ i = .int .i64 k ∧ va = .slice aa ma ka ∧ vc = .slice ac mc kc ∧ x = .slice ao out.length c ∧ out.length ≤ k ∧ Wait ra aa ma ka w ∧ Wait rc ac mc kc w ∧ Left p sa sc k ra rc out ∧ wr.ownsRow w.heap.size 9 1 (.slice ao out.length c) out.length (out.map Value.string) ∧ Below w.heap.size w wr) (fun _ _ _ i _ => len - (intOf i).toNat)
  case atStart => exact ⟨0, a, b, none, la, lb, ca, cb, 0, sa, sc, [], Nat.zero_le _, rfl, rfl, rfl, rfl, Nat.zero_le _, HA.out, HB.out, left_zero p sa sc, World.ownsRow_nil _ _ _ _, Below.refl _ _⟩
  case round =>
    clear HA HB
    obtain ⟨k, aa, ac, ao, ma, mc, ka, kc, c, ra, rc, out, hk, rfl, rfl, rfl, rfl, hol, hA, hB, hL, hown, hW⟩ := hrel
    by_cases hlt : k < len
    · have hkp : k < p.length := by rw [← HCS.out]; exact hlt
      obtain ⟨b1, o1, rfl, hc1⟩ := (HS.out.below hW).cell k hlt
      have hk0 : (k : Int) < (len : Int) := by omega
      have h3k := H3.out p[k] (List.getElem_mem hkp)
      rw [getD_at (d := 0) hkp] at hc1
      have HO := Lib.hid hown
      have HW := Lib.hid hW
      clear hown hW
      rcases (show p[k] = 0 ∨ p[k] = 1 ∨ p[k] = 2 by omega) with h0 | h0 | h0
      · rw [h0] at hc1
        cases ra with
        | nil =>
          have HN := Lib.hid (left_short hL hkp (by omega))
          obtain rfl : ma = 0 := hA.at_.count
          clear hA hB hL hkp h3k h0
          go_wp2_with fail
          go_ret2
          show Applied (apply p sa sc) w _ _
          rw [HN.out]
          exact ⟨rfl, HW.out⟩
        | cons s ra =>
          obtain ⟨m, rfl⟩ : ∃ m, ma = m + 1 := ⟨ra.length, hA.at_.count⟩
          obtain ⟨b2, o2, rfl, hc2⟩ := (hA.at_.below HW.out).head
          have HL := Lib.hid (left_stay hL hkp h0)
          have hs := hA.small s (List.mem_cons_self ..)
          have HT := Lib.hid hA.tail
          have HB := Lib.hid hB
          have hm := hA.len
          clear hA hB hL hkp h3k h0
          go_wp2_with fail
          refine (clone_any s _ hs).mono ?_
          rintro e w3 ⟨rfl, hw3⟩
          dsimp only
          have HO3 := Lib.hid (owns_below HO.out hw3)
          have HW3 := Lib.hid (HW.out.trans (hw3.mono HW.out.size))
          have HOA := Lib.hid (owns_below HO3.out ((Below.refl w3.heap.size w3).alloc (Nat.le_refl _) (.cells #[.string s] 9)))
          have HBA := Lib.hid (HW3.out.alloc HW3.out.size (.cells #[.string s] 9))
          clear hw3 HO HW
          go_wp2_with (at_builtin; refine at_app1 rfl _ _ 22 9 Try.underlying22 rfl (.string ⟨#[]⟩) info9 rfl w.heap.size _ out.length (out.map Value.string) (by rfl) HOA.out w3.heap.size (.string s) (by rfl) (by simp) rfl (by omega) HBA.out.size ?_; intro ao4 cap4 w4 hown4 hgrow4; have HB4 := Lib.hid (HBA.out.grown hgrow4 HBA.out.size (fun j hj => (owns_lt HOA.out j hj).1)); have HO4 := Lib.hid hown4; clear hown4 hgrow4)
          go_roundw
          case rel => exact ⟨k + 1, _, _, ao4, _, _, _, _, cap4, ra, rc, out ++ [s], by omega, by go_num, rfl, rfl, by rw [List.length_append]; rfl, by rw [List.length_append]; exact Nat.succ_le_succ hol, HT.out, HB.out, HL.out, by rw [List.length_append, List.map_append]; exact HO4.out, HB4.out⟩
          case measure => simp [intOf]; omega
      · rw [h0] at hc1
        cases ra with
        | nil =>
          have HN := Lib.hid (left_short hL hkp (by omega))
          obtain rfl : ma = 0 := hA.at_.count
          clear hA hB hL hkp h3k h0
          go_wp2_with fail
          go_ret2
          show Applied (apply p sa sc) w _ _
          rw [HN.out]
          exact ⟨rfl, HW.out⟩
        | cons s ra =>
          obtain ⟨m, rfl⟩ : ∃ m, ma = m + 1 := ⟨ra.length, hA.at_.count⟩
          have HL := Lib.hid (left_goes hL hkp h0)
          have HT := Lib.hid hA.tail
          have HB := Lib.hid hB
          have hm := hA.len
          clear hA hB hL hkp h3k h0
          go_wp2_with fail
          go_roundw
          case rel => exact ⟨k + 1, _, _, ao, _, _, _, _, c, ra, rc, out, by omega, by go_num, rfl, rfl, rfl, by omega, HT.out, HB.out, HL.out, HO.out, HW.out⟩
          case measure => simp [intOf]; omega
      · rw [h0] at hc1
        cases rc with
        | nil =>
          have HN := Lib.hid (left_none hL hkp h0)
          obtain rfl : mc = 0 := hB.at_.count
          clear hA hB hL hkp h3k h0
          go_wp2_with fail
          go_ret2
          show Applied (apply p sa sc) w _ _
          rw [HN.out]
          exact ⟨rfl, HW.out⟩
        | cons s rc =>
          obtain ⟨m, rfl⟩ : ∃ m, mc = m + 1 := ⟨rc.length, hB.at_.count⟩
          obtain ⟨b2, o2, rfl, hc2⟩ := (hB.at_.below HW.out).head
          have HL := Lib.hid (left_comes hL hkp h0)
          have hs := hB.small s (List.mem_cons_self ..)
          have HT := Lib.hid hB.tail
          have HA := Lib.hid hA
          have hm := hB.len
          clear hA hB hL hkp h3k h0
          go_wp2_with fail
          refine (clone_any s _ hs).mono ?_
          rintro e w3 ⟨rfl, hw3⟩
          dsimp only
          have HO3 := Lib.hid (owns_below HO.out hw3)
          have HW3 := Lib.hid (HW.out.trans (hw3.mono HW.out.size))
          have HOA := Lib.hid (owns_below HO3.out ((Below.refl w3.heap.size w3).alloc (Nat.le_refl _) (.cells #[.string s] 9)))
          have HBA := Lib.hid (HW3.out.alloc HW3.out.size (.cells #[.string s] 9))
          clear hw3 HO HW
          go_wp2_with (at_builtin; refine at_app1 rfl _ _ 22 9 Try.underlying22 rfl (.string ⟨#[]⟩) info9 rfl w.heap.size _ out.length (out.map Value.string) (by rfl) HOA.out w3.heap.size (.string s) (by rfl) (by simp) rfl (by omega) HBA.out.size ?_; intro ao4 cap4 w4 hown4 hgrow4; have HB4 := Lib.hid (HBA.out.grown hgrow4 HBA.out.size (fun j hj => (owns_lt HOA.out j hj).1)); have HO4 := Lib.hid hown4; clear hown4 hgrow4)
          go_roundw
          case rel => exact ⟨k + 1, _, _, ao4, _, _, _, _, cap4, ra, rc, out ++ [s], by omega, by go_num, rfl, rfl, by rw [List.length_append]; rfl, by rw [List.length_append]; exact Nat.succ_le_succ hol, HA.out, HT.out, HL.out, by rw [List.length_append, List.map_append]; exact HO4.out, HB4.out⟩
          case measure => simp [intOf]; omega
    · obtain rfl : k = len := by omega
      have HO := Lib.hid hown
      have HW := Lib.hid hW
      clear hown hW
      cases ra with
      | cons s ra =>
        have HN := Lib.hid (left_rest hL (by rw [← HCS.out]; exact Nat.le_refl _) (.inl (by simp)))
        obtain ⟨m, rfl⟩ : ∃ m, ma = m + 1 := ⟨ra.length, hA.at_.count⟩
        have hm := hA.len
        clear hA hB hL
        go_wp2_with fail
        go_ret2
        show Applied (apply p sa sc) w _ _
        rw [HN.out]
        exact ⟨rfl, HW.out⟩
      | nil =>
        obtain rfl : ma = 0 := hA.at_.count
        cases rc with
        | cons s rc =>
          have HN := Lib.hid (left_rest hL (by rw [← HCS.out]; exact Nat.le_refl _) (.inr (by simp)))
          obtain ⟨m, rfl⟩ : ∃ m, mc = m + 1 := ⟨rc.length, hB.at_.count⟩
          have hm := hB.len
          clear hA hB hL
          go_wp2_with fail
          go_ret2
          show Applied (apply p sa sc) w _ _
          rw [HN.out]
          exact ⟨rfl, HW.out⟩
        | nil =>
          obtain rfl : mc = 0 := hB.at_.count
          have HN := Lib.hid (left_end hL (by rw [← HCS.out]; exact Nat.le_refl _))
          clear hA hB hL
          go_wp2_with fail
          go_ret2
          show Applied (apply p sa sc) w _ _
          rw [HN.out]
          exact ⟨ao, c, rfl, strs_owned HO.out, HW.out⟩
end Go.Proofs.Ytfemanblkmcglaa
