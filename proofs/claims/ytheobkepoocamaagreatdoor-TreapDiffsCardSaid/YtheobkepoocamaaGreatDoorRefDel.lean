/- The document's Del. -/
import Derived.Test.YtheobkepoocamaaGreatDoorPrs
namespace Go.Proofs.YtheobkepoocamaaGreatDoor
set_option maxRecDepth 100000
open Go.RowKit Go.Less
attribute [local go_sem 9000] sem_eql sem_neq sem_lss sem_leq sem_gtr sem_geq
abbrev del (l : List Pr) (k : ByteArray) : List Pr := Tr.del l k
theorem del_length (l : List Pr) (k : ByteArray) : (del l k).length ≤ l.length := List.length_filter_le _ _
theorem del_succ (l : List Pr) (k : ByteArray) {j : Nat} (h : j < l.length) : del (l.take (j + 1)) k = del (l.take j) k ++ (if alike (l.getD j z0).1 k then [] else [l.getD j z0]) := by
  rw [List.take_succ_eq_append_getElem h]
  show List.filter _ _ = List.filter _ _ ++ _
  rw [List.filter_append]
  congr 1
  simp only [List.getD, List.getElem?_eq_getElem h, Option.getD_some, List.filter_cons, List.filter_nil]
  unfold alike
  by_cases e : l[j].1 = k <;> simp [e]
/-- What a function that gathers pairs answers. -/
def Gave (l : List Pr) (w : World) (e : Ending) (w' : World) : Prop := ∃ ao cap, e = .returned (.slice ao l.length cap) ∧ Own w.heap.size (.slice ao l.length cap) l w' ∧ Below w.heap.size w w'
theorem own_nil (w : World) (base : Nat) : Own base (.slice none 0 0) [] w := ⟨rfl, .inl ⟨rfl, rfl⟩⟩
theorem own_fits {base : Nat} {ao : Option Addr} {n cap : Nat} {l : List Pr} {w : World} (h : Own base (.slice ao n cap) l w) : n = l.length := by
  obtain ⟨_, ⟨e, h0⟩ | ⟨g, cap', cur, e, _⟩⟩ := h
  · injection e with e1 e2 e3; omega
  · injection e
theorem prs_lt {base : Nat} {v : Value} {l : List Pr} {w : World} (h : Own base v l w) : ∀ k, v.ownBlock = some k → base ≤ k := fun k hk => (World.ownsRow.lt h k hk).1
set_option maxHeartbeats 2000000 in
theorem rdel_any (a : Option Addr) (n cap : Nat) (l : List Pr) (k : ByteArray) (w : World) (hP : Prs a n l w) (hn : n ≤ 100000) : Calls Tryz.prog 18 #[.slice a n cap, .string k] w (Gave (del l k) w) := by
  have HC := Lib.hid hP.count
  go_enter Tryz.func18, Tryz.ntmps18
  go_wp2_with fail
  go_loopw [5, 6] (fun v i wr => ∃ j : Nat, j ≤ n ∧ i = .int .i64 j ∧ Own w.heap.size v (del (l.take j) k) wr ∧ Below w.heap.size w wr) (fun _ i _ => n - (intOf i).toNat)
  case atStart => exact ⟨0, by omega, rfl, own_nil _ _, Below.refl _ _⟩
  case round =>
    obtain ⟨j, hj, rfl, hO, hB⟩ := hrel
    obtain ⟨ao, cp, rfl⟩ := owns_form hO
    by_cases hlt : j < n
    · obtain ⟨b, off, rfl, h0, h1⟩ := hP.cell j hlt
      have c0 := (hB.cell (p := ⟨b, off + j * 2, none⟩) (block_lt_of_cell h0)).trans h0
      have c1 := (hB.cell (p := ⟨b, off + j * 2 + 1, none⟩) (block_lt_of_cell h1)).trans h1
      have hjl : j < l.length := by have := HC.out; omega
      have HD := Lib.hid (del_succ l k hjl)
      have hj0 : (j : Int) < (n : Int) := by omega
      have hdl := del_length (l.take j) k
      rw [List.length_take] at hdl
      have HL := Lib.hid (show (del (l.take j) k).length ≤ 100000 by omega)
      clear h0 h1 hdl hjl
      generalize l.getD j z0 = x at c0 c1 HD
      cases hx : alike x.1 k
      · have hA := (Below.refl wr.heap.size wr).alloc (Nat.le_refl _) (.cells #[.string x.1, .string x.2] 61)
        have HO := Lib.hid (owned_below hO hA)
        have HB := Lib.hid (hB.trans (hA.mono hB.size))
        have HN := Lib.hid (heap_alloc_new wr (.cells #[.string x.1, .string x.2] 61))
        rw [hx] at HD
        clear hA hO hB
        go_wp2_with (first | (at_builtin; refine at_pair rfl _ _ rfl w.heap.size _ (del (l.take j) k) (by rfl) HO.out wr.heap.size x (by rfl) HN.out (Nat.le_trans HL.out (by decide)) HB.out.size ?_; intro ao4 cap4 w4 hown4 hgrow4; have HB4 := Lib.hid (HB.out.grown hgrow4 HB.out.size (prs_lt HO.out)); have HO4 := Lib.hid hown4; clear hown4 hgrow4) | fail)
        go_roundw
        case rel => exact ⟨j + 1, by omega, by go_num, by rw [HD.out]; simpa [Own] using HO4.out, HB4.out⟩
        case measure => simp [intOf]; omega
      · rw [hx] at HD
        go_wp2_with fail
        go_roundw
        case rel => exact ⟨j + 1, by omega, by go_num, by rw [HD.out]; simpa using hO, hB⟩
        case measure => simp [intOf]; omega
    · obtain rfl : j = n := by omega
      rw [show l.take j = l by rw [HC.out, List.take_length]] at hO ⊢
      go_wp2_with fail
      go_ret
      exact ⟨ao, cp, rfl, hO, hB⟩
end Go.Proofs.YtheobkepoocamaaGreatDoor
