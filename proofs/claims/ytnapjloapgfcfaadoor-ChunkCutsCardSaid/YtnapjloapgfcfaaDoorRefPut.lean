/- The document's Put, Trunc, Get, Copy. -/
import Derived.Test.YtnapjloapgfcfaaDoorBytes
import Derived.Lib.Hide
namespace Go.Proofs.YtnapjloapgfcfaaDoor
set_option maxRecDepth 100000
open Go.RowKit Sha

/-- What Put says: the bytes and the error's number. -/
def putR (s : List UInt8) (off : Int) (d : List UInt8) : List UInt8 × Int :=
  if off < 0 then ([], 1) else if 4096 < off + d.length then ([], 3) else (Chk.put s off.toNat d, 0)
def truncR (s : List UInt8) (n : Int) : List UInt8 × Int := if n < 0 then ([], 1) else if 4096 < n then ([], 3) else (Chk.trunc s n.toNat, 0)
def getR (s : List UInt8) (off n : Int) : List UInt8 × Int := if off < 0 ∨ n < 0 then ([], 1) else (Chk.get s off.toNat n.toNat, 0)
def copyR (s : List UInt8) (off : Int) (src : List UInt8) (f n : Int) : List UInt8 × Int :=
  if f < 0 ∨ n < 0 ∨ (src.length : Int) < f + n then ([], 1) else putR s off ((src.drop f.toNat).take n.toNat)
/-- A text and a number handed back. -/
def Both (r : List UInt8 × Int) (w : World) (e : Ending) (w' : World) : Prop := e = .returned (.tuple #[.string (lstr r.1), .int .i64 r.2]) ∧ Below w.heap.size w w'
theorem lstr_nil : lstr [] = ⟨#[]⟩ := rfl
theorem lstr_own (s : ByteArray) : lstr s.data.toList = s := rfl
theorem b_at (s : ByteArray) {i : Nat} (h : i < s.size) : s[i] = Chk.b s.data.toList i := by
  unfold Chk.b
  rw [List.getD, List.getElem?_eq_getElem (by rw [Array.length_toList]; exact h)]; rfl

set_option maxRecDepth 100000 in
set_option maxHeartbeats 2000000 in
theorem refTrunc_any (s : ByteArray) (n : Int) (w : World) (hs : s.size ≤ 140737488355328) :
    Calls Tryd.prog 12 #[.string s, .int .i64 n] w (Both (truncR s.data.toList n) w) := by
  have hsi : (s.size : Int) ≤ 140737488355328 := by omega
  by_cases h1 : n < 0
  · have HR := Lib.hid (show truncR s.data.toList n = ([], 1) from by unfold truncR; rw [if_pos h1])
    go_enter Tryd.func12, Tryd.ntmps12
    go_wp2_with fail
    go_ret2
    show Both (truncR s.data.toList n) w _ _
    rw [HR.out]
    exact ⟨rfl, Below.refl _ _⟩
  · by_cases h2 : 4096 < n
    · have HR := Lib.hid (show truncR s.data.toList n = ([], 3) from by unfold truncR; rw [if_neg h1, if_pos h2])
      go_enter Tryd.func12, Tryd.ntmps12
      go_wp2_with fail
      go_ret2
      show Both (truncR s.data.toList n) w _ _
      rw [HR.out]
      exact ⟨rfl, Below.refl _ _⟩
    · obtain ⟨m, rfl⟩ : ∃ m : Nat, n = (m : Int) := ⟨n.toNat, by omega⟩
      have HR := Lib.hid (show truncR s.data.toList (m : Int) = (Chk.trunc s.data.toList m, 0) from by unfold truncR; rw [if_neg h1, if_neg h2]; rfl)
      have hm := run_make8 m (by omega)
      have hm1 : (m : Int) ≤ 4096 := by omega
      have HB := Lib.hid ((bown_made m w).same (show List.replicate m 0 = Chk.rule m (fun i => if i < 0 then Chk.b s.data.toList i else 0) from (Chk.rule_is (by rw [List.length_replicate]) fun i hi => by simp [Chk.b, List.getD, hi])))
      have HW := Lib.hid ((Below.refl w.heap.size w).alloc (Nat.le_refl _) (.cells (madeCells #[.int .u8 0] m) 5))
      clear h1 h2
      go_enter Tryd.func12, Tryd.ntmps12
      go_wp2_with fail
      go_loopw [7] (fun i wr => ∃ k : Nat, k ≤ m ∧ i = .int .i64 k ∧ Bown w.heap.size w.heap.size m (Chk.rule m (fun i => if i < k then Chk.b s.data.toList i else 0)) wr ∧ Below w.heap.size w wr) (fun i _ => m - (intOf i).toNat)
      case atStart => exact ⟨0, Nat.zero_le _, rfl, HB.out, HW.out⟩
      case round =>
        clear HB HW hm
        obtain ⟨k, hk, rfl, hB, hW⟩ := hrel
        by_cases hlt : k < m ∧ k < s.size
        · obtain ⟨hlt, hks⟩ := hlt
          have k0 : (k : Int) < (m : Int) := by omega
          have k1 : (k : Int) < (s.size : Int) := by omega
          have hat := b_at s hks
          have hset := hB.set (k := k) (by rw [Chk.rule_length]; exact hlt) (s[k])
          have hc := hB.cell k (by rw [Chk.rule_length]; exact hlt)
          have hf := hB.free k hlt
          have HN := Lib.hid (hset.same (m := Chk.rule m (fun i => if i < k + 1 then Chk.b s.data.toList i else 0)) (Chk.rule_is (by rw [List.length_set, Chk.rule_length]) fun i hi => by
            rw [Chk.b_set (by rw [Chk.rule_length]; exact hlt), Chk.rule_b _ hi]
            by_cases he : i = k
            · subst he; rw [if_pos rfl, if_pos (by omega), hat]
            · rw [if_neg he]
              by_cases hl : i < k
              · rw [if_pos hl, if_pos (by omega)]
              · rw [if_neg hl, if_neg (by omega)]))
          have HW := Lib.hid (hW.setCell (p := ⟨w.heap.size, k, none⟩) (Nat.le_refl _) (bv s[k]))
          have hko : k < s.data.size := hks
          clear hset hB hW hat
          go_wp2_with fail
          go_roundw
          case rel => exact ⟨k + 1, by omega, by go_num, HN.out, HW.out⟩
          case measure => simp [intOf]; omega
        · have HE := Lib.hid (hB.same (m := Chk.trunc s.data.toList m) (Chk.rule_is (Chk.rule_length _ _) fun i hi => by
            rw [Chk.rule_b _ hi]
            by_cases hl : i < k
            · rw [if_pos hl]
            · rw [if_neg hl, Chk.b_over (by rw [Array.length_toList]; show s.size ≤ i; omega)]))
          have hconv := bown_text HE.out m (Chk.trunc_length _ _).symm m
          have HW := Lib.hid hW
          clear hB hW
          by_cases hkm : k < m
          · have k0 : (k : Int) < (m : Int) := by omega
            have k1 : ¬ (k : Int) < (s.size : Int) := by omega
            clear hlt
            go_wp2_with fail
            go_ret2
            show Both (truncR s.data.toList (m : Int)) w _ _
            rw [HR.out]
            exact ⟨rfl, HW.out⟩
          · have k0 : ¬ (k : Int) < (m : Int) := by omega
            clear hlt
            go_wp2_with fail
            go_ret2
            show Both (truncR s.data.toList (m : Int)) w _ _
            rw [HR.out]
            exact ⟨rfl, HW.out⟩

theorem below_grown {B : Nat} {a w w' : World} {g : Nat} (h : Below B a w) (hg : w.grownBy w' (some g)) (hB : B ≤ w.heap.size) (hgb : B ≤ g) : Below B a w' := h.grown hg hB (fun j hj => by injection hj with hj; omega)
/-- One byte appended, at the operation. -/
theorem at_app8 {ops : Array Oper} {rest : List Oper} {o : Oper} {a : Act} {Q : Exit → Act → World → Prop} {w : World} (hgd : o.guard = none) (s x : Operand) (ho : o.op = .call { callee := .builtin .append, args := #[s, x], argTypes := #[48, 48] })
    {base g cap : Nat} {l : List UInt8} (hB : Bown base g cap l w) (n : Nat) (hn : n = l.length) (hs : a.eval s = .slice (some ⟨g, 0, none⟩) n cap) (bb : Nat) (v : UInt8) (hx : a.eval x = .slice (some ⟨bb, 0, none⟩) 1 1) (hv : w.cell? ⟨bb, 0, none⟩ = some (bv v)) (hl : l.length ≤ 1000000) (hb : base ≤ w.heap.size)
    (h : ∀ g' cap' w', Bown base g' cap' (l ++ [v]) w' → w.grownBy w' (some g) → wpList Tryd.prog ops Q rest (a.put o.dst (.slice (some ⟨g', 0, none⟩) (l.length + 1) cap')) w') : wpList Tryd.prog ops Q (o :: rest) a w := by
  subst hn
  obtain ⟨g', cap', w', h1, h2, h3⟩ := run_app8 hB o.type bb v hv hl hb
  refine wpList_plain hgd fun K hK => ?_
  unfold Oper.wp execOp
  simp only [ho, resolve, invoke, builtin, Sem.run_bind, Sem.run_pure, Result.andThen_ok, List.map_toArray, List.map_cons, List.map_nil, hs, hx, h1]
  exact hK _ _ (h g' cap' w' h2 h3)

def lenOf : Value → Nat
  | .slice _ n _ => n
  | _ => 0
theorem str_empty {d : ByteArray} (h : d.size = 0) : d = ⟨#[]⟩ := Go.WideShapes.bytes_inj (List.eq_nil_of_length_eq_zero (Array.length_toList.trans h))
set_option maxRecDepth 100000 in
set_option maxHeartbeats 4000000 in
theorem refPut_any (s : ByteArray) (off : Int) (d : ByteArray) (w : World) (hs : s.size ≤ 1000000) (hd : d.size ≤ 140737488355328) (ho : off ≤ 9223372036854775807) :
    Calls Tryd.prog 10 #[.string s, .int .i64 off, .string d] w (Both (putR s.data.toList off d.data.toList) w) := by
  have hsi : (s.size : Int) ≤ 1000000 := by omega
  have hdi : (d.size : Int) ≤ 140737488355328 := by omega
  have hsl : s.data.toList.length = s.size := Array.length_toList
  have hdl : d.data.toList.length = d.size := Array.length_toList
  by_cases h1 : off < 0
  · have HR := Lib.hid (show putR s.data.toList off d.data.toList = ([], 1) from by unfold putR; rw [if_pos h1])
    clear hsl hdl
    go_enter Tryd.func10, Tryd.ntmps10
    go_wp2_with fail
    go_ret2
    show Both (putR s.data.toList off d.data.toList) w _ _
    rw [HR.out]
    exact ⟨rfl, Below.refl _ _⟩
  · obtain ⟨f, rfl⟩ : ∃ f : Nat, off = (f : Int) := ⟨off.toNat, by omega⟩
    by_cases h2 : 4096 < f + d.size
    · have HR := Lib.hid (show putR s.data.toList f d.data.toList = ([], 3) from by unfold putR; rw [if_neg h1, if_pos (by rw [hdl]; omega)])
      clear hsl hdl h1
      by_cases h3 : 4096 < f
      · have h3' : (4096 : Int) < (f : Int) := by omega
        clear h2
        go_enter Tryd.func10, Tryd.ntmps10
        go_wp2_with fail
        go_ret2
        show Both (putR s.data.toList f d.data.toList) w _ _
        rw [HR.out]
        exact ⟨rfl, Below.refl _ _⟩
      · have h3' : (f : Int) ≤ 4096 := by omega
        have h2' : (4096 : Int) < (f : Int) + (d.size : Int) := by omega
        clear h2 h3
        go_enter Tryd.func10, Tryd.ntmps10
        go_wp2_with fail
        go_ret2
        show Both (putR s.data.toList f d.data.toList) w _ _
        rw [HR.out]
        exact ⟨rfl, Below.refl _ _⟩
    · have HR := Lib.hid (show putR s.data.toList f d.data.toList = (Chk.put s.data.toList f d.data.toList, 0) from by unfold putR; rw [if_neg h1, if_neg (by rw [hdl]; omega)]; rfl)
      have h3' : (f : Int) ≤ 4096 := by omega
      have h2' : (f : Int) + (d.size : Int) ≤ 4096 := by omega
      by_cases h4 : d.size = 0
      · have HN := Lib.hid (show putR s.data.toList f d.data.toList = (s.data.toList, 0) from by rw [HR.out, List.eq_nil_of_length_eq_zero (hdl.trans h4), Chk.put_nil])
        have hde := str_empty h4
        subst hde
        clear h1 h2 hsl hdl h4 HR
        go_enter Tryd.func10, Tryd.ntmps10
        go_wp2_with fail
        go_ret2
        show Both (putR s.data.toList f (⟨#[]⟩ : ByteArray).data.toList) w _ _
        rw [HN.out]
        exact ⟨rfl, Below.refl _ _⟩
      · have hne : d.toList.isEmpty = false := by
          rw [ByteArray.toList_eq]
          cases hx : d.data.toList with
          | nil => rw [hx] at hdl; exact absurd hdl.symm h4
          | cons _ _ => rfl
        have hdn : d.data.toList ≠ [] := by intro e; rw [e] at hdl; exact h4 hdl.symm
        have hne2 : d.toList ≠ [] := by rw [ByteArray.toList_eq]; exact hdn
        obtain ⟨cap0, w1, hconv, hB, hW⟩ := bown_of s w
        have HB := Lib.hid hB
        have HW := Lib.hid hW
        have HSL := Lib.hid hsl
        have HDL := Lib.hid hdl
        have HDN := Lib.hid hdn
        clear h1 h2 hsl hdl hB hW hdn
        have hd0 : (0 : Int) < (d.size : Int) := by omega
        go_enter Tryd.func10, Tryd.ntmps10
        go_wp2_with fail
        go_loopw [8] (fun x wr => ∃ (g cap : Nat) (l : List UInt8), x = .slice (some ⟨g, 0, none⟩) l.length cap ∧ Bown w.heap.size g cap l wr ∧ l = Chk.trunc s.data.toList l.length ∧ s.size ≤ l.length ∧ l.length ≤ max s.size (f + d.size) ∧ Below w.heap.size w wr) (fun x _ => f + d.size - lenOf x)
        case atStart => exact ⟨w.heap.size, cap0, s.data.toList, by rw [HSL.out], HB.out, (Chk.trunc_same _).symm, by rw [HSL.out]; exact Nat.le_refl _, by rw [HSL.out]; omega, HW.out⟩
        case round =>
          clear HB HW hconv
          obtain ⟨g, cap, l, rfl, hB, htr, hl1, hl2, hW⟩ := hrel
          by_cases hlt : l.length < f + d.size
          · have k0 : (l.length : Int) < (f : Int) + (d.size : Int) := by omega
            have hll : l.length ≤ 1000000 := by omega
            have HT := Lib.hid (show l ++ [0] = Chk.trunc s.data.toList (l.length + 1) from by rw [Chk.trunc_succ _ (by rw [HSL.out]; exact hl1), ← htr])
            have hal := (Below.refl wr.heap.size wr).alloc (Nat.le_refl _) (.cells #[.int .u8 0] 5)
            have HB1 := Lib.hid (hB.below hal)
            have HW1 := Lib.hid (hW.alloc hW.size (.cells #[.int .u8 0] 5))
            have hg := hB.base
            clear hB hW htr hal
            go_wp2_with (at_builtin; refine at_app8 rfl _ _ rfl HB1.out l.length rfl (by rfl) wr.heap.size 0 (by rfl) (by simp) hll HW1.out.size ?_; intro g4 cap4 w4 hB4 hgrow4; have HB4 := Lib.hid hB4; have HW4 := Lib.hid (below_grown HW1.out hgrow4 HW1.out.size HB1.out.base); clear hB4 hgrow4)
            go_roundw
            case rel => exact ⟨g4, cap4, l ++ [0], by rw [List.length_append]; rfl, HB4.out, by rw [List.length_append]; exact HT.out, by rw [List.length_append]; simp; omega, by rw [List.length_append]; simp; omega, HW4.out⟩
            case measure => simp [lenOf]; omega
          · have hlen : l.length = max s.size (f + d.size) := by omega
            have HL := Lib.hid hlen
            have HP := Lib.hid (show l = Chk.puts s.data.toList f d.data.toList 0 from by rw [Chk.puts_zero, HSL.out, HDL.out, ← hlen]; exact htr)
            have HB := Lib.hid hB
            have HW := Lib.hid hW
            have k0 : ¬ (l.length : Int) < (f : Int) + (d.size : Int) := by omega
            clear hB hW htr hlen hlt
            go_wp2_with fail
            go_loopw [9] (fun i wr => ∃ k : Nat, k ≤ d.size ∧ i = .int .i64 k ∧ Bown w.heap.size g cap (Chk.puts s.data.toList f d.data.toList k) wr ∧ Below w.heap.size w wr) (fun i _ => d.size - (intOf i).toNat)
            case atStart => exact ⟨0, Nat.zero_le _, rfl, HB.out.same HP.out, HW.out⟩
            case round =>
              clear HB HW HP
              obtain ⟨k, hk, rfl, hB, hW⟩ := hrel
              by_cases hlt : k < d.size
              · have k1 : (k : Int) < (d.size : Int) := by omega
                have hat := b_at d hlt
                have hko : k < d.data.size := hlt
                have hpl : f + k < l.length := by have := HL.out; omega
                have hin : f + k < (Chk.puts s.data.toList f d.data.toList k).length := by rw [Chk.puts_length, HSL.out, HDL.out]; omega
                have hc := hB.cell (f + k) hin
                have hf := hB.free (f + k) (Nat.lt_of_lt_of_le hin hB.fit)
                have HN := Lib.hid ((hB.set hin d[k]).same (show _ = Chk.puts s.data.toList f d.data.toList (k + 1) from by rw [Chk.puts_step _ _ _ (by rw [HDL.out]; exact hlt), hat]))
                have HW := Lib.hid (hW.setCell (p := ⟨g, f + k, none⟩) hB.base (bv d[k]))
                have hpi : (f : Int) + (k : Int) < (l.length : Int) := by omega
                have hft : ((f : Int) + (k : Int)).toNat = f + k := by omega
                clear hB hW hat hin
                go_wp2_with fail
                go_roundw
                case rel => exact ⟨k + 1, by omega, by go_num, HN.out, HW.out⟩
                case measure => simp [intOf]; omega
              · obtain rfl : k = d.size := by omega
                have HE := Lib.hid (hB.same (show _ = Chk.put s.data.toList f d.data.toList from by rw [← HDL.out]; exact Chk.puts_all HDN.out))
                have hconv := bown_text HE.out l.length (by rw [HL.out, Chk.put_length HDN.out, HSL.out, HDL.out]) cap
                have HW := Lib.hid hW
                clear hB hW
                go_wp2_with fail
                go_ret2
                show Both (putR s.data.toList f d.data.toList) w _ _
                rw [HR.out]
                exact ⟨rfl, HW.out⟩

theorem cut_text (x : ByteArray) (a n : Nat) (_ : a + n ≤ x.size) : x.extract a (a + n) = lstr ((x.data.toList.drop a).take n) := by
  apply Go.WideShapes.bytes_inj
  rw [ByteArray.data_extract, Array.toList_extract, List.extract_eq_take_drop, Nat.add_sub_cancel_left]
  rfl
theorem lstr_data (l : List UInt8) : (lstr l).data.toList = l := rfl
set_option maxRecDepth 100000 in
set_option maxHeartbeats 4000000 in
theorem refCopy_any (s : ByteArray) (off : Int) (src : ByteArray) (f n : Int) (w : World) (hs : s.size ≤ 1000000) (hd : src.size ≤ 140737488355328) (ho : off ≤ 9223372036854775807) (hf : f ≤ 9223372036854775807) (hn : n ≤ 9223372036854775807) :
    Calls Tryd.prog 16 #[.string s, .int .i64 off, .string src, .int .i64 f, .int .i64 n] w (Both (copyR s.data.toList off src.data.toList f n) w) := by
  have hdi : (src.size : Int) ≤ 140737488355328 := by omega
  have hdl : src.data.toList.length = src.size := Array.length_toList
  by_cases h1 : f < 0 ∨ n < 0 ∨ (src.size : Int) < f + n
  · have HR := Lib.hid (show copyR s.data.toList off src.data.toList f n = ([], 1) from by unfold copyR; rw [if_pos (by rw [hdl]; exact h1)])
    clear hdl
    have key : ∀ e w', e = Ending.returned (.tuple #[.string ⟨#[]⟩, .int .i64 1]) ∧ w = w' → Both (copyR s.data.toList off src.data.toList f n) w e w' := by
      rintro e w' ⟨rfl, rfl⟩
      rw [HR.out]
      exact ⟨rfl, Below.refl _ _⟩
    refine Calls.mono ?_ key
    clear key
    by_cases a1 : f < 0
    · go_enter Tryd.func16, Tryd.ntmps16
      go_wp2_with fail
      go_ret2
      exact ⟨rfl, rfl⟩
    · have a1' : 0 ≤ f := by omega
      by_cases a2 : n < 0
      · go_enter Tryd.func16, Tryd.ntmps16
        go_wp2_with fail
        go_ret2
        exact ⟨rfl, rfl⟩
      · have a2' : 0 ≤ n := by omega
        by_cases a3 : (src.size : Int) < f
        · clear h1
          go_enter Tryd.func16, Tryd.ntmps16
          go_wp2_with fail
          go_ret2
          exact ⟨rfl, rfl⟩
        · have a3' : f ≤ (src.size : Int) := by omega
          have a4 : (src.size : Int) - f < n := by omega
          clear h1
          go_enter Tryd.func16, Tryd.ntmps16
          go_wp2_with fail
          go_ret2
          exact ⟨rfl, rfl⟩
  · have hf0 : 0 ≤ f := by omega
    have hn0 : 0 ≤ n := by omega
    have hfn : f + n ≤ (src.size : Int) := by omega
    obtain ⟨a, rfl⟩ : ∃ a : Nat, f = (a : Int) := ⟨f.toNat, by omega⟩
    obtain ⟨m, rfl⟩ : ∃ m : Nat, n = (m : Int) := ⟨n.toNat, by omega⟩
    have HR := Lib.hid (show copyR s.data.toList off src.data.toList (a : Int) (m : Int) = putR s.data.toList off ((src.data.toList.drop a).take m) from by unfold copyR; rw [if_neg (by rw [hdl]; exact h1)]; rfl)
    have hcut := cut_text src a m (by omega)
    have HX := Lib.hid (refPut_any s off (lstr ((src.data.toList.drop a).take m)) w hs (by rw [lstr_size, List.length_take, List.length_drop, hdl]; omega) ho)
    rw [lstr_data] at HX
    have HC := Lib.hid hcut
    have h3 : (a : Int) ≤ (src.size : Int) := by omega
    have h4 : (m : Int) ≤ (src.size : Int) - (a : Int) := by omega
    have ht : ((a : Int) + (m : Int)).toNat = a + m := by omega
    clear h1 hdl hcut
    go_enter Tryd.func16, Tryd.ntmps16
    go_wp2_with fail
    rw [HC.out]
    refine HX.out.mono ?_
    rintro e w1 ⟨rfl, hw1⟩
    have HW := Lib.hid hw1
    clear hw1
    dsimp only
    go_wp2_with fail
    go_ret2
    show Both (copyR s.data.toList off src.data.toList (a : Int) (m : Int)) w _ _
    rw [HR.out]
    exact ⟨rfl, HW.out⟩
/-- A row of bytes of the call's own, or none yet. -/
def Brow (base : Nat) (v : Value) (l : List UInt8) (w : World) : Prop := w.ownsRow base 5 1 v l.length (l.map fun x => bv x)
theorem brow_below {base : Nat} {v : Value} {l : List UInt8} {w w' : World} (h : Brow base v l w) (hb : Below w.heap.size w w') : Brow base v l w' :=
  World.ownsRow.kept h (⟨hb.os, hb.tape, hb.output, hb.size, fun k hk _ => hb.block k hk⟩ : w.grownBy w' none) (by cases v.ownBlock <;> simp)
theorem brow_lt {base : Nat} {v : Value} {l : List UInt8} {w : World} (h : Brow base v l w) : ∀ k, v.ownBlock = some k → base ≤ k := fun k hk => (World.ownsRow.lt h k hk).1
theorem brow_text {base : Nat} {v : Value} {l : List UInt8} {w : World} (h : Brow base v l w) : (convert 48 9 v).run Tryd.prog w = .ok (.string (lstr l)) w := by
  have h0 := h
  obtain ⟨hl, ⟨rfl, hz⟩ | ⟨g, cap, cur, rfl, _⟩⟩ := h
  · rw [List.eq_nil_of_length_eq_zero hz]
    exact run_convert_bytes_nil (P := Tryd.prog) w 48 5 Tryd.underlying48 Tryd.underlying5 0 0 9 Tryd.underlying9
  · refine run_convert_bytes_back (P := Tryd.prog) w 48 9 5 ⟨g, 0, none⟩ cap l Tryd.underlying48 Tryd.underlying5 Tryd.underlying9 (fun j hj => ?_)
    rw [Go.WideShapes.add_plain, Nat.zero_add, World.ownsRow.cellAt h0 j (by omega), List.getElem?_map, List.getElem?_eq_getElem hj]; rfl
theorem brow_form {base : Nat} {v : Value} {l : List UInt8} {w : World} (h : Brow base v l w) : ∃ a c, v = .slice a l.length c := by
  obtain ⟨_, ⟨rfl, h0⟩ | ⟨g, cap, _, rfl, _⟩⟩ := h
  · exact ⟨none, 0, by rw [h0]⟩
  · exact ⟨_, _, rfl⟩
theorem at_appb {ops : Array Oper} {rest : List Oper} {o : Oper} {a : Act} {Q : Exit → Act → World → Prop} {w : World} (hgd : o.guard = none) (s x : Operand) (ho : o.op = .call { callee := .builtin .append, args := #[s, x], argTypes := #[48, 48] })
    {base : Nat} {v : Value} {l : List UInt8} (hB : Brow base v l w) (hs : a.eval s = v) (bb : Nat) (c : UInt8) (hx : a.eval x = .slice (some ⟨bb, 0, none⟩) 1 1) (hc : w.cell? ⟨bb, 0, none⟩ = some (bv c)) (hl : l.length ≤ 1000000) (hb : base ≤ w.heap.size)
    (h : ∀ ao cap' w', Brow base (.slice ao (l.length + 1) cap') (l ++ [c]) w' → w.grownBy w' v.ownBlock → wpList Tryd.prog ops Q rest (a.put o.dst (.slice ao (l.length + 1) cap')) w') : wpList Tryd.prog ops Q (o :: rest) a w := by
  obtain ⟨i0, hi, hz0, hz1, hz2⟩ := info_parts info5b
  refine wpList_append_own w hgd s x 48 ho base 5 i0 (.int .u8 0) 1 1 Tryd.underlying48 hi hz0 hz1 hz2 rfl (by decide) v l.length (l.map fun x => bv x) hs hB ⟨bb, 0, none⟩ 1 1 [bv c] hx rfl ?_ ?_ (by unfold maxLen; omega) (by omega) hb ?_
  · intro j u hj
    match j with
    | 0 => simp at hj; subst hj; simpa [Addr.add] using hc
    | j + 1 => simp at hj
  · intro u hu; simp at hu; subst hu; rfl
  · intro v' w' hown hg _
    have hB' : Brow base v' (l ++ [c]) w' := by
      unfold Brow
      rw [List.length_append, List.map_append]
      exact hown
    obtain ⟨ao, cap', rfl⟩ := brow_form hB'
    rw [List.length_append] at hB' ⊢
    exact h ao cap' w' hB' hg

set_option maxRecDepth 100000 in
set_option maxHeartbeats 4000000 in
theorem refGet_any (s : ByteArray) (off n : Int) (w : World) (hs : s.size ≤ 1000000) (ho : off ≤ 9223372036854775807) (hn : n ≤ 9223372036854775807) :
    Calls Tryd.prog 14 #[.string s, .int .i64 off, .int .i64 n] w (Both (getR s.data.toList off n) w) := by
  have hsi : (s.size : Int) ≤ 1000000 := by omega
  have hsl : s.data.toList.length = s.size := Array.length_toList
  by_cases h1 : off < 0 ∨ n < 0
  · have HR := Lib.hid (show getR s.data.toList off n = ([], 1) from by unfold getR; rw [if_pos h1])
    by_cases a1 : off < 0
    · clear hsl h1
      go_enter Tryd.func14, Tryd.ntmps14
      go_wp2_with fail
      go_ret2
      show Both (getR s.data.toList off n) w _ _
      rw [HR.out]
      exact ⟨rfl, Below.refl _ _⟩
    · have a1' : 0 ≤ off := by omega
      have a2 : n < 0 := by omega
      clear hsl h1
      go_enter Tryd.func14, Tryd.ntmps14
      go_wp2_with fail
      go_ret2
      show Both (getR s.data.toList off n) w _ _
      rw [HR.out]
      exact ⟨rfl, Below.refl _ _⟩
  · obtain ⟨a, rfl⟩ : ∃ a : Nat, off = (a : Int) := ⟨off.toNat, by omega⟩
    obtain ⟨m, rfl⟩ : ∃ m : Nat, n = (m : Int) := ⟨n.toNat, by omega⟩
    have HR := Lib.hid (show getR s.data.toList (a : Int) (m : Int) = (Chk.get s.data.toList a m, 0) from by unfold getR; rw [if_neg h1]; rfl)
    have HSL := Lib.hid hsl
    clear h1 hsl
    go_enter Tryd.func14, Tryd.ntmps14
    go_wp2_with fail
    go_loopw [8, 9] (fun x i wr => ∃ (k : Nat) (ao : Option Addr) (c : Nat), x = .slice ao k c ∧ i = .int .i64 ((a : Int) + (k : Int)) ∧ k ≤ m ∧ (k = 0 ∨ a + k ≤ s.size) ∧ Brow w.heap.size (.slice ao k c) (Chk.rule k fun i => Chk.b s.data.toList (a + i)) wr ∧ Below w.heap.size w wr) (fun _ i _ => s.size - (intOf i).toNat)
    case atStart => exact ⟨0, none, 0, rfl, by simp, Nat.zero_le _, .inl rfl, World.ownsRow_nil _ _ _ _, Below.refl _ _⟩
    case round =>
      obtain ⟨k, ao, c, rfl, rfl, hkm, hks, hB, hW⟩ := hrel
      by_cases hlt : a + k < s.size ∧ k < m
      · obtain ⟨h1, h2⟩ := hlt
        have k0 : (a : Int) + (k : Int) < (s.size : Int) := by omega
        have k1 : (k : Int) < (m : Int) := by omega
        have hat := b_at s h1
        have hko : a + k < s.data.size := h1
        have ht : ((a : Int) + (k : Int)).toNat = a + k := by omega
        have hsub : (a : Int) + (k : Int) - (a : Int) = (k : Int) := by omega
        have hka : (k : Int) ≤ 1000000 := by omega
        have HN := Lib.hid (show (Chk.rule k fun i => Chk.b s.data.toList (a + i)) ++ [s[a + k]] = Chk.rule (k + 1) fun i => Chk.b s.data.toList (a + i) from by rw [Chk.rule_succ, hat])
        have HRL := Lib.hid (Chk.rule_length k fun i => Chk.b s.data.toList (a + i))
        generalize (Chk.rule k fun i => Chk.b s.data.toList (a + i)) = l at hB HN HRL
        have hlk : l.length = k := HRL.out
        subst hlk
        have hal := (Below.refl wr.heap.size wr).alloc (Nat.le_refl _) (.cells #[bv s[a + l.length]] 5)
        have HB1 := Lib.hid (brow_below hB hal)
        have HW1 := Lib.hid (hW.alloc hW.size (.cells #[bv s[a + l.length]] 5))
        clear hB hW hat hal
        go_wp2_with (at_builtin; refine at_appb rfl _ _ rfl HB1.out (by rfl) wr.heap.size s[a + l.length] (by rfl) (by simp) (by omega) HW1.out.size ?_; intro ao4 cap4 w4 hB4 hgrow4; have HB4 := Lib.hid hB4; have HW4 := Lib.hid (HW1.out.grown hgrow4 HW1.out.size (fun j hj => brow_lt HB1.out j hj)); clear hB4 hgrow4)
        go_roundw
        case rel => exact ⟨l.length + 1, ao4, cap4, rfl, by go_num, by omega, .inr (by omega), by rw [← HN.out]; exact HB4.out, HW4.out⟩
        case measure => simp [intOf]; omega
      · have HE := Lib.hid (show (Chk.rule k fun i => Chk.b s.data.toList (a + i)) = Chk.get s.data.toList a m from by
          unfold Chk.get
          rw [HSL.out, show min m (s.size - a) = k from by omega])
        rw [HE.out] at hB
        have hconv := brow_text hB
        have HW := Lib.hid hW
        clear hB hW
        by_cases h1 : a + k < s.size
        · have k0 : (a : Int) + (k : Int) < (s.size : Int) := by omega
          have k1 : ¬ (k : Int) < (m : Int) := by omega
          have hsub : (a : Int) + (k : Int) - (a : Int) = (k : Int) := by omega
          have hka : (k : Int) ≤ 1000000 := by omega
          clear hlt
          go_wp2_with fail
          go_ret2
          show Both (getR s.data.toList (a : Int) (m : Int)) w _ _
          rw [HR.out]
          exact ⟨rfl, HW.out⟩
        · have k0 : ¬ (a : Int) + (k : Int) < (s.size : Int) := by omega
          clear hlt
          go_wp2_with fail
          go_ret2
          show Both (getR s.data.toList (a : Int) (m : Int)) w _ _
          rw [HR.out]
          exact ⟨rfl, HW.out⟩
end Go.Proofs.YtnapjloapgfcfaaDoor
