/- The document's Put. -/
import Derived.Test.YtheobkepoocamaaGreatDoorRefDel
namespace Go.Proofs.YtheobkepoocamaaGreatDoor
set_option maxRecDepth 100000
open Go.RowKit Go.Less
attribute [local go_sem 9000] sem_eql sem_neq sem_lss sem_leq sem_gtr sem_geq
abbrev put (l : List Pr) (k v : ByteArray) : List Pr := Tr.put less l k v
theorem put_length (l : List Pr) (k v : ByteArray) : (put l k v).length ≤ l.length + 1 := by
  induction l with
  | nil => simp [Tr.put]
  | cons x l ih =>
    simp only [put, Tr.put]
    split
    · simp only [List.length_cons]; exact Nat.succ_le_succ ih
    · simp only [List.length_cons]; exact Nat.succ_le_succ (del_length (x :: l) k)
/-- What is still to come. -/
def toCome (d : Bool) (l : List Pr) (k v : ByteArray) : List Pr := if d then del l k else put l k v
theorem del_cons (x : Pr) (l : List Pr) (k : ByteArray) : del (x :: l) k = (if alike x.1 k then [] else [x]) ++ del l k := by
  show List.filter _ _ = _ ++ List.filter _ _
  unfold alike
  by_cases e : x.1 = k <;> simp [e]
theorem come_done (x : Pr) (l : List Pr) (k v : ByteArray) : toCome true (x :: l) k v = (if alike x.1 k then [] else [x]) ++ toCome true l k v := del_cons x l k
theorem come_less {x : Pr} {k : ByteArray} (h : less x.1 k = true) (l : List Pr) (v : ByteArray) : toCome false (x :: l) k v = [x] ++ toCome false l k v := by
  unfold toCome; simp [Tr.put, h]
theorem come_here {x : Pr} {k : ByteArray} (h : less x.1 k = false) (l : List Pr) (v : ByteArray) : toCome false (x :: l) k v = [(k, v)] ++ ((if alike x.1 k then [] else [x]) ++ toCome true l k v) := by
  rw [← come_done]
  unfold toCome; simp [Tr.put, h]
theorem less_not_alike {a b : ByteArray} (h : less a b = true) : alike a b = false := by
  unfold alike
  simp only [decide_eq_false_iff_not]
  intro e; subst e; rw [rising.irr] at h; cases h
theorem build61 (k v : ByteArray) (w : World) : (Instr.build 61 #[(0, .string k), (1, .string v)]).run Tryz.prog w = .ok (.agg #[.string k, .string v]) w := by kernel_rfl
set_option maxHeartbeats 4000000 in
theorem rput_any (a : Option Addr) (n cap : Nat) (l : List Pr) (k v : ByteArray) (w : World) (hP : Prs a n l w) (hn : n ≤ 100000) : Calls Tryz.prog 19 #[.slice a n cap, .string k, .string v] w (Gave (put l k v) w) := by
  have HC := Lib.hid hP.count
  have hbd := build61 k v
  have hpl := put_length l k v
  have HPL := Lib.hid (show (put l k v).length ≤ 100001 by have := HC.out; omega)
  clear hpl
  go_enter Tryz.func19, Tryz.ntmps19
  go_wp2_with fail
  go_loopw [7, 8, 9] (fun o dv i wr => ∃ (j : Nat) (ys : List Pr) (d : Bool), j ≤ n ∧ i = .int .i64 j ∧ dv = .bool d ∧ put l k v = ys ++ toCome d (l.drop j) k v ∧ Own w.heap.size o ys wr ∧ Below w.heap.size w wr) (fun _ _ i _ => n - (intOf i).toNat)
  case atStart => exact ⟨0, [], false, by omega, rfl, rfl, rfl, own_nil _ _, Below.refl _ _⟩
  case round =>
    obtain ⟨j, ys, d, hj, rfl, rfl, hyz, hO, hB⟩ := hrel
    obtain ⟨ao, cp, rfl⟩ := owns_form hO
    have HL := Lib.hid (show ys.length ≤ 100001 by have := HPL.out; rw [hyz, List.length_append] at this; omega)
    by_cases hlt : j < n
    · obtain ⟨b, off, rfl, h0, h1⟩ := hP.cell j hlt
      have c0 := (hB.cell (p := ⟨b, off + j * 2, none⟩) (block_lt_of_cell h0)).trans h0
      have c1 := (hB.cell (p := ⟨b, off + j * 2 + 1, none⟩) (block_lt_of_cell h1)).trans h1
      have hjl : j < l.length := by have := HC.out; omega
      rw [List.drop_eq_getElem_cons hjl] at hyz
      have HG : Hid (l[j] = l.getD j z0) := by simp [Hid, List.getD, List.getElem?_eq_getElem hjl]
      rw [HG.out] at hyz
      have HY := Lib.hid hyz
      have hj0 : (j : Int) < (n : Int) := by omega
      have hbl := block_lt_of_cell c0
      have H0 := Lib.hid h0
      have H1 := Lib.hid h1
      have hbw := block_lt_of_cell h0
      clear h0 h1 hjl hyz HG
      generalize l.getD j z0 = x at c0 c1 HY H0 H1
      have hA := (Below.refl wr.heap.size wr).alloc (Nat.le_refl _) (.cells #[.string x.1, .string x.2] 61)
      have HOx := Lib.hid (owned_below hO hA)
      have HBx := Lib.hid (hB.trans (hA.mono hB.size))
      have HNx := Lib.hid (heap_alloc_new wr (.cells #[.string x.1, .string x.2] 61))
      have hA2 := (Below.refl wr.heap.size wr).alloc (Nat.le_refl _) (.cells #[.string k, .string v] 61)
      have HOk := Lib.hid (owned_below hO hA2)
      have HBk := Lib.hid (hB.trans (hA2.mono hB.size))
      have HNk := Lib.hid (heap_alloc_new wr (.cells #[.string k, .string v] 61))
      have HO := Lib.hid hO
      have HB := Lib.hid hB
      clear hA hA2 hO hB
      cases d
      · cases hl : less x.1 k
        · -- the new one goes here
          have HZ := Lib.hid (HY.out.trans (congrArg (ys ++ ·) (come_here hl _ v)))
          cases hx : alike x.1 k
          · rw [hx] at HZ
            go_wp2_with (first | (at_builtin; refine at_pair rfl _ _ rfl w.heap.size _ ys (by rfl) HOk.out wr.heap.size (k, v) (by rfl) HNk.out (Nat.le_trans HL.out (by decide)) HBk.out.size ?_; intro ao4 cap4 w4 hown4 hgrow4; have HB4 := Lib.hid (HBk.out.grown hgrow4 HBk.out.size (prs_lt HOk.out)); have e0 := (HB4.out.cell (p := ⟨b, off + j * 2, none⟩) hbw).trans H0.out; have e1 := (HB4.out.cell (p := ⟨b, off + j * 2 + 1, none⟩) hbw).trans H1.out; have hA5 := (Below.refl w4.heap.size w4).alloc (Nat.le_refl _) (.cells #[.string x.1, .string x.2] 61); have HO4 : Hid (Own w.heap.size (.slice ao4 (ys.length + 1) cap4) (ys ++ [(k, v)]) w4) := hown4; have HO5 : Hid (Own w.heap.size (.slice ao4 (ys.length + 1) cap4) (ys ++ [(k, v)]) (w4.alloc (.cells #[.string x.1, .string x.2] 61))) := owned_below hown4 hA5; have HB5 := Lib.hid (HB4.out.trans (hA5.mono HB4.out.size)); have HN5 := Lib.hid (heap_alloc_new w4 (.cells #[.string x.1, .string x.2] 61)); clear hown4 hgrow4 hA5) | (at_builtin; refine at_pair rfl _ _ rfl w.heap.size _ (ys ++ [(k, v)]) (by rfl) HO5.out w4.heap.size x (by rfl) HN5.out (by have := HL.out; simp; omega) HB5.out.size ?_; intro ao6 cap6 w6 hown6 hgrow6; have HB6 := Lib.hid (HB5.out.grown hgrow6 HB5.out.size (prs_lt HO5.out)); have HO6 := Lib.hid hown6; clear hown6 hgrow6) | fail)
            go_roundw
            case rel => exact ⟨j + 1, ys ++ [(k, v)] ++ [x], true, by omega, by go_num, rfl, by rw [HZ.out]; simp, by simpa [Own] using HO6.out, HB6.out⟩
            case measure => simp [intOf]; omega
          · rw [hx] at HZ
            go_wp2_with (first | (at_builtin; refine at_pair rfl _ _ rfl w.heap.size _ ys (by rfl) HOk.out wr.heap.size (k, v) (by rfl) HNk.out (Nat.le_trans HL.out (by decide)) HBk.out.size ?_; intro ao4 cap4 w4 hown4 hgrow4; have HB4 := Lib.hid (HBk.out.grown hgrow4 HBk.out.size (prs_lt HOk.out)); have e0 := (HB4.out.cell (p := ⟨b, off + j * 2, none⟩) hbw).trans H0.out; have e1 := (HB4.out.cell (p := ⟨b, off + j * 2 + 1, none⟩) hbw).trans H1.out; have hA5 := (Below.refl w4.heap.size w4).alloc (Nat.le_refl _) (.cells #[.string x.1, .string x.2] 61); have HO4 : Hid (Own w.heap.size (.slice ao4 (ys.length + 1) cap4) (ys ++ [(k, v)]) w4) := hown4; have HO5 : Hid (Own w.heap.size (.slice ao4 (ys.length + 1) cap4) (ys ++ [(k, v)]) (w4.alloc (.cells #[.string x.1, .string x.2] 61))) := owned_below hown4 hA5; have HB5 := Lib.hid (HB4.out.trans (hA5.mono HB4.out.size)); have HN5 := Lib.hid (heap_alloc_new w4 (.cells #[.string x.1, .string x.2] 61)); clear hown4 hgrow4 hA5) | fail)
            go_roundw
            case rel => exact ⟨j + 1, ys ++ [(k, v)], true, by omega, by go_num, rfl, by rw [HZ.out]; simp, by simpa [Own] using HO4.out, HB4.out⟩
            case measure => simp [intOf]; omega
        · have hx := less_not_alike hl
          have HZ := Lib.hid (HY.out.trans (congrArg (ys ++ ·) (come_less hl _ v)))
          go_wp2_with (first | (at_builtin; refine at_pair rfl _ _ rfl w.heap.size _ ys (by rfl) HOx.out wr.heap.size x (by rfl) HNx.out (Nat.le_trans HL.out (by decide)) HBx.out.size ?_; intro ao4 cap4 w4 hown4 hgrow4; have HB4 := Lib.hid (HBx.out.grown hgrow4 HBx.out.size (prs_lt HOx.out)); have HO4 := Lib.hid hown4; clear hown4 hgrow4) | fail)
          go_roundw
          case rel => exact ⟨j + 1, ys ++ [x], false, by omega, by go_num, rfl, by rw [HZ.out]; simp, by simpa [Own] using HO4.out, HB4.out⟩
          case measure => simp [intOf]; omega
      · cases hx : alike x.1 k
        · have HZ := Lib.hid (HY.out.trans (congrArg (ys ++ ·) (come_done x _ k v)))
          rw [hx] at HZ
          go_wp2_with (first | (at_builtin; refine at_pair rfl _ _ rfl w.heap.size _ ys (by rfl) HOx.out wr.heap.size x (by rfl) HNx.out (Nat.le_trans HL.out (by decide)) HBx.out.size ?_; intro ao4 cap4 w4 hown4 hgrow4; have HB4 := Lib.hid (HBx.out.grown hgrow4 HBx.out.size (prs_lt HOx.out)); have HO4 := Lib.hid hown4; clear hown4 hgrow4) | fail)
          go_roundw
          case rel => exact ⟨j + 1, ys ++ [x], true, by omega, by go_num, rfl, by rw [HZ.out]; simp, by simpa [Own] using HO4.out, HB4.out⟩
          case measure => simp [intOf]; omega
        · have HZ := Lib.hid (HY.out.trans (congrArg (ys ++ ·) (come_done x _ k v)))
          rw [hx] at HZ
          go_wp2_with fail
          go_roundw
          case rel => exact ⟨j + 1, ys, true, by omega, by go_num, rfl, by rw [HZ.out]; simp, HO.out, HB.out⟩
          case measure => simp [intOf]; omega
    · obtain rfl : j = n := by omega
      rw [show l.drop j = [] by rw [HC.out, List.drop_length]] at hyz
      have hA2 := (Below.refl wr.heap.size wr).alloc (Nat.le_refl _) (.cells #[.string k, .string v] 61)
      have HOk := Lib.hid (owned_below hO hA2)
      have HBk := Lib.hid (hB.trans (hA2.mono hB.size))
      have HNk := Lib.hid (heap_alloc_new wr (.cells #[.string k, .string v] 61))
      have HO := Lib.hid hO
      have HB := Lib.hid hB
      have HY := Lib.hid hyz
      clear hA2 hO hB hyz
      cases d
      · go_wp2_with (first | (at_builtin; refine at_pair rfl _ _ rfl w.heap.size _ ys (by rfl) HOk.out wr.heap.size (k, v) (by rfl) HNk.out (Nat.le_trans HL.out (by decide)) HBk.out.size ?_; intro ao4 cap4 w4 hown4 hgrow4; have HB4 := Lib.hid (HBk.out.grown hgrow4 HBk.out.size (prs_lt HOk.out)); have HO4 := Lib.hid hown4; clear hown4 hgrow4) | fail)
        go_ret
        have e : put l k v = ys ++ [(k, v)] := HY.out
        rw [e]
        exact ⟨ao4, cap4, by simp, by simpa [Own] using HO4.out, HB4.out⟩
      · go_wp2_with fail
        go_ret
        have e : put l k v = ys := by rw [HY.out]; simp [toCome, Tr.del]
        rw [e]
        exact ⟨ao, cp, rfl, HO.out, HB.out⟩
end Go.Proofs.YtheobkepoocamaaGreatDoor
