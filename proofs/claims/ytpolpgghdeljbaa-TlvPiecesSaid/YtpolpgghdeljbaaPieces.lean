/- TlvPieces walked. -/
import Derived.Test.YtpolpgghdeljbaaGather
namespace Go.Proofs.Ytpolpgghdeljbaa
open Go.RowKit Crc

theorem sem_inteq (t : TypeId) (k : IntKind) (x : Int) : binOp .eql t (.int k x) (.int k x) = pure (.bool true) := by rw [binOp_eql, beq_self_eq_true]
theorem extract_one (l : List UInt8) (i : Nat) : (lstr l).extract i (i + 1) = lstr ((l.drop i).take 1) := by
  apply Go.WideShapes.bytes_inj
  rw [ByteArray.data_extract, Array.toList_extract, List.extract_eq_take_drop, Nat.add_sub_cancel_left]
  rfl
theorem take_one (l : List UInt8) (i : Nat) : l.take (i + 1) = l.take i ++ (l.drop i).take 1 := by rw [List.take_add]
theorem wrap64 {n : Int} (h0 : 0 ≤ n) (h1 : n ≤ 1000000000) : IntKind.i64.wrap n = n := IntWalk.i64_in _ (by omega)
theorem feed_state_le (c : List UInt8) : (Tlv.feed 0 c).2.1.length ≤ c.length := Tlv.feed_waits c.length c 0 (Nat.le_refl _)
theorem feed_recs_le (c : List UInt8) : (Tlv.feed 0 c).1.length ≤ c.length := by have := Tlv.feed_count c.length c 0 (Nat.le_refl _); omega
attribute [local go_sem 9000] sem_inteq

set_option maxRecDepth 100000 in
set_option maxHeartbeats 8000000 in
theorem pieces_any (a : Option Addr) (len cap : Nat) (ss : List ByteArray) (w : World) (hS : Strs a len ss w) (hr : ∀ i, i < len → (ss.getD i ByteArray.empty).size ≤ 140737488355328) (hlen : len ≤ 140737488355328) :
    Calls Try.prog 3 #[.slice a len cap] w fun e w' => e = .returned (.bool true) ∧ Below w.heap.size w w' := by
  go_enter Try.func3, Try.ntmps3
  go_wp2_with fail
  refine (awake_any _).mono ?_
  rintro e W1 ⟨rfl, hB1⟩
  have hS1 : Strs a len ss W1 := hS.below hB1
  dsimp only
  go_wp2_with fail
  refine (few_any a len cap ss W1 hS1 hr hlen).mono ?_
  rintro e W2 (⟨rfl, rfl⟩ | ⟨rfl, rfl, hl100, hc12⟩)
  · dsimp only
    go_wp2_with fail
    go_ret
    exact ⟨rfl, hB1⟩
  · have HB1 := Lib.hid hB1
    have HC12 := Lib.hid hc12
    have hlen' : (len : Int) ≤ 100 := by omega
    clear hB1 hc12 hr hlen
    dsimp only
    go_wp2_with fail
    refine (new_any W1).mono ?_
    rintro e W3 ⟨rfl, D3, hB3, hl3⟩
    dsimp only
    go_wp2_with fail
    refine (new_any W3).mono ?_
    rintro e W4 ⟨rfl, D4, hB4, hl4⟩
    have HT : Hid (Told w w.heap.size W1.heap.size W3.heap.size [] ([], 0, 0) [] W4 (.slice none 0 0) (.slice none 0 0) (.slice none 0 0) (.slice none 0 0)) := by
      have b3 := HB1.out.trans (hB3.mono HB1.out.size)
      refine ⟨by rw [Tlv.feed_nil]; exact D3.below hB4, D4, by rw [Tlv.feed_nil]; exact World.ownsRow_nil _ _ _ _, World.ownsRow_nil _ _ _ _, fun k hk => (by cases hk), ?_, b3.trans (hB4.mono b3.size), new_own w W1 HB1.out.size, Nat.le_refl _, Nat.le_trans b3.size hB4.size⟩
      rintro k (rfl | hk) (e | hq)
      · omega
      · cases hq
      · cases hk
      · cases hk
    have HQ := Lib.hid (show w.heap.size ≤ W3.heap.size from Nat.le_trans HB1.out.size hB3.size)
    clear D3 hB3 hl3 D4 hB4 hl4 HB1
    dsimp only
    go_wp2_with fail
    go_loopw [5, 7, 8, 10] (fun x al er i wr => ∃ (k : Nat) (v : Value) (ao : Option Addr) (cp : Nat), k ≤ len ∧ i = .int .i64 k ∧ al = .string (lstr (cat (ss.take k))) ∧ er = .int .i64 (Tlv.feed 0 (cat (ss.take k))).2.2.2 ∧ x = .slice ao (Tlv.feed 0 (cat (ss.take k))).1.length cp ∧
      Told w w.heap.size W1.heap.size W3.heap.size (cat (ss.take k)) ([], 0, 0) [] wr v (.slice none 0 0) (.slice ao (Tlv.feed 0 (cat (ss.take k))).1.length cp) (.slice none 0 0)) (fun _ _ _ i _ => len - (intOf i).toNat)
    case atStart => exact ⟨0, .slice none 0 0, none, 0, by omega, rfl, rfl, by rw [show cat (ss.take 0) = [] from rfl, Tlv.feed_nil], by rw [show cat (ss.take 0) = [] from rfl, Tlv.feed_nil]; rfl, by
        have := HT.out
        rw [show cat (ss.take 0) = [] from rfl, Tlv.feed_nil]; exact this⟩
    case round =>
      obtain ⟨k, v, ao, cp, hk, rfl, rfl, rfl, rfl, T⟩ := hrel
      by_cases hlt : k < len
      · obtain ⟨b, off, rfl, hcell⟩ := hS.cell k hlt
        have hbl := block_lt_of_cell hcell
        have hc1 := (T.below.cell (p := ⟨b, off + k, none⟩) hbl).trans hcell
        have hks : k < ss.length := by rw [← hS.count]; exact hlt
        have hC := cat_take_succ ss k hks
        generalize ss.getD k ByteArray.empty = y at hcell hc1 hC
        have hk0 : (k : Int) < (len : Int) := by omega
        have hcl : (cat (ss.take k)).length + y.size ≤ 12000 := by
          have h1 : (cat (ss.take (k + 1))).length = (cat (ss.take k)).length + y.size := by rw [hC, List.length_append, Array.length_toList]; rfl
          have h2 : (cat ss).length = (cat (ss.take (k + 1))).length + (cat (ss.drop (k + 1))).length := by
            rw [← List.length_append]; unfold cat; rw [← List.flatMap_append, List.take_append_drop]
          have := HC12.out
          omega
        have HCC := Lib.hid hC
        have HCL := Lib.hid hcl
        have HC0 := Lib.hid hcell
        have HTK := Lib.hid T
        generalize cat (ss.take k) = c at HCC HCL HTK
        have hszc : (lstr c).size = c.length := lstr_size c
        have hcat : lstr c ++ y = lstr (c ++ y.data.toList) := lstr_append (lstr c) y.data.toList
        have hlim : c.length + y.size ≤ 9223372036854775807 := by have := HCL.out; omega
        clear hcell hC hcl T
        go_wp2_with fail
        refine (feed_step y HTK.out.rd (by have h1 := feed_state_le c; have h2 := HCL.out; omega)).mono ?_
        rintro e W5 ⟨ao5, cp5, v5, rfl, hr5, D5, U5⟩
        generalize hst : Tlv.step (Tlv.feed 0 c).2 y.data.toList = g5 at hr5 D5
        obtain ⟨gs, s5⟩ := g5
        dsimp only at hr5 D5
        have HX1 : Hid (W5.ownsRow w.heap.size 38 3 (.slice ao (Tlv.feed 0 c).1.length cp) (Tlv.feed 0 c).1.length (rcells (Tlv.feed 0 c).1)) := owns_kept HTK.out.x fun j hj => U5.keep ⟨(HTK.out.x.lt j hj).2, fun ho => far HTK.out.rd HTK.out.x ho hj⟩
        have HR5 := Lib.hid hr5
        have HD5 := Lib.hid D5
        have HU5 := Lib.hid U5
        have HST := Lib.hid hst
        have HW : Hid (Tlv.feed 0 (c ++ y.data.toList) = ((Tlv.feed 0 c).1 ++ gs, s5)) := by rw [Tlv.step_whole, hst]; exact rfl
        have HLN : Hid ((Tlv.feed 0 c).1.length + gs.length ≤ 1000000000) := by
          have h1 := feed_recs_le (c ++ y.data.toList)
          have h3 : y.data.toList.length = y.size := Array.length_toList
          rw [HW.out] at h1
          simp only [List.length_append, h3] at h1
          have h2 := HCL.out
          show _ ≤ _
          omega
        have HBS : Hid (w.heap.size ≤ W5.heap.size) := Nat.le_trans HTK.out.below.size U5.size
        clear hr5 D5 U5 hst hc1
        dsimp only
        go_wp2_with (at_builtin; (refine at_app_recs rfl _ _ rfl w.heap.size wr.heap.size _ (Tlv.feed 0 c).1 gs (by rfl) HX1.out ao5 cp5 (by rfl) HR5.out HLN.out HBS.out ?_); intro ao6 cp6 W6 hrow6 hg6; have T6 := HTK.out.next HST.out HD5.out HU5.out hg6 hrow6; have hc6 := (T6.below.cell (p := ⟨b, off + k, none⟩) hbl).trans HC0.out; have HT6 := Lib.hid T6; clear T6 hrow6 hg6)
        go_roundw
        case rel => exact ⟨k + 1, v5, ao6, cp6, by omega, by go_num, by rw [HCC.out], by rw [HCC.out, HW.out], by rw [HCC.out, HW.out, List.length_append], by rw [HCC.out, HW.out]; exact HT6⟩
        case measure => simp [intOf]; omega
      · obtain rfl : k = len := by omega
        have hcs : cat (ss.take k) = cat ss := by rw [hS.count, List.take_length]
        rw [hcs] at T
        rw [hcs]
        have HT1 := Lib.hid T
        have HC12' := Lib.hid HC12.out
        clear T hcs hS1
        generalize cat ss = al at HT1 HC12'
        have hsza : (lstr al).size = al.length := lstr_size al
        have hal : (al.length : Int) ≤ 12000 := by have := HC12'.out; omega
        have HT2 : Hid (Told w wr.heap.size W3.heap.size W1.heap.size [] (Tlv.feed 0 al).2 (Tlv.feed 0 al).1 wr (.slice none 0 0) v (.slice none 0 0) (.slice ao (Tlv.feed 0 al).1.length cp)) := by
          have T := HT1.out
          refine ⟨by rw [Tlv.feed_nil]; exact T.other, T.rd, by rw [Tlv.feed_nil]; exact World.ownsRow_nil _ _ _ _, T.x, fun j hj => (T.x.lt j hj).2, fun j h1 h2 => T.apart j h2 h1, T.below, ?_, T.below.size, Nat.le_refl _⟩
          rintro j (rfl | hj)
          · exact HQ.out
          · cases hj
        have HBB := HT2
        generalize hBB : wr.heap.size = BB at HT2
        clear HBB hBB
        go_wp2_with fail
        go_loopw [6, 9, 13] (fun x er i ws => ∃ (j : Nat) (vb : Value) (ao' : Option Addr) (cp' : Nat), j ≤ al.length ∧ i = .int .i64 j ∧ er = .int .i64 (Tlv.feed 0 (al.take j)).2.2.2 ∧ x = .slice ao' (Tlv.feed 0 (al.take j)).1.length cp' ∧
          Told w BB W3.heap.size W1.heap.size (al.take j) (Tlv.feed 0 al).2 (Tlv.feed 0 al).1 ws vb v (.slice ao' (Tlv.feed 0 (al.take j)).1.length cp') (.slice ao (Tlv.feed 0 al).1.length cp)) (fun _ _ i _ => al.length - (intOf i).toNat)
        case atStart => exact ⟨0, .slice none 0 0, none, 0, by omega, rfl, by rw [List.take_zero, Tlv.feed_nil], by rw [List.take_zero, Tlv.feed_nil]; rfl, by
            have := HT2.out
            rw [List.take_zero, Tlv.feed_nil]; exact this⟩
        case round =>
          obtain ⟨j, vb, ao', cp', hj, rfl, rfl, rfl, T⟩ := hrel
          by_cases hjl : j < al.length
          · have hj0 : (j : Int) < (al.length : Int) := by omega
            have hj1 : (j : Int) + 1 ≤ (al.length : Int) := by omega
            have hj2 : 0 ≤ (j : Int) + 1 := by omega
            have hj3 : ((j : Int) + 1).toNat = j + 1 := by omega
            have hj4 : IntKind.i64.wrap ((j : Int) + 1) = (j : Int) + 1 := wrap64 (by omega) (by omega)
            have hE := extract_one al j
            have HTK2 := Lib.hid (take_one al j)
            have hp1 : ((al.drop j).take 1).length ≤ 1 := by rw [List.length_take]; omega
            have hdl : (al.take j).length ≤ al.length := by rw [List.length_take]; omega
            generalize (al.drop j).take 1 = p at hE HTK2 hp1
            have HT3 := Lib.hid T
            generalize al.take j = d at HTK2 HT3 hdl
            have HDL := Lib.hid hdl
            have HP1 := Lib.hid hp1
            clear T hdl hp1
            go_wp2_with fail
            refine (feed_step (lstr p) HT3.out.rd (by have h1 := feed_state_le d; have h2 := HDL.out; have h3 := HP1.out; have h4 := HC12'.out; rw [lstr_size]; omega)).mono ?_
            rintro e W5 ⟨ao5, cp5, v5, rfl, hr5, D5, U5⟩
            rw [lstr_data] at hr5 D5
            generalize hst : Tlv.step (Tlv.feed 0 d).2 p = g5 at hr5 D5
            rw [lstr_data, hst]
            obtain ⟨gs, s5⟩ := g5
            dsimp only at hr5 D5
            have HX1 : Hid (W5.ownsRow BB 38 3 (.slice ao' (Tlv.feed 0 d).1.length cp') (Tlv.feed 0 d).1.length (rcells (Tlv.feed 0 d).1)) := owns_kept HT3.out.x fun j hj => U5.keep ⟨(HT3.out.x.lt j hj).2, fun ho => far HT3.out.rd HT3.out.x ho hj⟩
            have HR5 := Lib.hid hr5
            have HD5 := Lib.hid D5
            have HU5 := Lib.hid U5
            have HST := Lib.hid hst
            have HW : Hid (Tlv.feed 0 (d ++ p) = ((Tlv.feed 0 d).1 ++ gs, s5)) := by rw [Tlv.step_whole, hst]; exact rfl
            have HLN : Hid ((Tlv.feed 0 d).1.length + gs.length ≤ 1000000000) := by
              have h1 := feed_recs_le (d ++ p)
              rw [HW.out] at h1
              simp only [List.length_append] at h1
              have h2 := HDL.out
              have h3 := HP1.out
              have h4 := HC12'.out
              show _ ≤ _
              omega
            have HBS : Hid (BB ≤ W5.heap.size) := Nat.le_trans HT3.out.size U5.size
            clear hr5 D5 U5 hst
            dsimp only
            go_wp2_with (at_builtin; (refine at_app_recs rfl _ _ rfl BB _ _ (Tlv.feed 0 d).1 gs (by rfl) HX1.out ao5 cp5 (by rfl) HR5.out HLN.out HBS.out ?_); intro ao6 cp6 W6 hrow6 hg6; have T6 := HT3.out.next HST.out HD5.out HU5.out hg6 hrow6; have HT6 := Lib.hid T6; clear T6 hrow6 hg6)
            go_roundw
            case rel => exact ⟨j + 1, v5, ao6, cp6, by omega, by go_num, by rw [HTK2.out, HW.out], by rw [HTK2.out, HW.out, List.length_append], by rw [HTK2.out, HW.out]; exact HT6⟩
            case measure => simp [intOf]; omega
          · obtain rfl : j = al.length := by omega
            rw [List.take_length] at T
            rw [List.take_length]
            have HT3 := Lib.hid T
            have H5 := Lib.hid (show (Tlv.feed 0 al).1.length ≤ 1000000000 by have h1 := feed_recs_le al; have h2 := HC12'.out; omega)
            clear T
            go_wp2_with fail
            refine (of_any ao cp (Tlv.feed 0 al).1 _ (recs_of HT3.out.y) H5.out).mono ?_
            rintro e W5 ⟨ao5, cp5, rfl, hr5, hB5⟩
            have HR5 := Lib.hid hr5
            have HB5 := Lib.hid hB5
            clear hr5 hB5
            dsimp only
            go_wp2_with fail
            refine (of_any ao' cp' (Tlv.feed 0 al).1 _ (recs_of (owns_below HT3.out.x HB5.out)) H5.out).mono ?_
            rintro e W6 ⟨ao6, cp6, rfl, hr6, hB6⟩
            have HR6 := Lib.hid hr6
            have HB6 := Lib.hid (HB5.out.trans (hB6.mono HB5.out.size))
            have HR5' := Lib.hid (owns_below HR5.out hB6)
            clear hr6 hB6 HR5
            dsimp only
            go_wp2_with fail
            refine (same_any ao5 ao6 cp5 cp6 (Tlv.feed 0 al).1 (Tlv.feed 0 al).1 _ (recs_of HR5'.out) (recs_of HR6.out) H5.out H5.out).mono ?_
            rintro e W7 ⟨rfl, hB7⟩
            rw [show sameAll (Tlv.feed 0 al).1 (Tlv.feed 0 al).1 = true from decide_eq_true rfl]
            have HB7 := Lib.hid (HB6.out.trans (hB7.mono HB6.out.size))
            have HDa := Lib.hid (HT3.out.other.below HB7.out)
            have HDb := Lib.hid (HT3.out.rd.below HB7.out)
            have HBF := Lib.hid (HT3.out.below.trans (HB7.out.mono HT3.out.below.size))
            clear hB7 HB6 HB5 HB7 HR6 HR5'
            dsimp only
            go_wp2_with fail
            refine (next_any HDa.out).mono ?_
            rintro e W8 ⟨rfl, rfl⟩
            dsimp only
            go_wp2_with fail
            refine (next_any HDb.out).mono ?_
            rintro e W8 ⟨rfl, rfl⟩
            dsimp only
            go_wp2_with fail
            refine (waiting_any HDa.out).mono ?_
            rintro e W8 ⟨rfl, rfl⟩
            dsimp only
            go_wp2_with fail
            refine (waiting_any HDb.out).mono ?_
            rintro e W8 ⟨rfl, rfl⟩
            dsimp only
            go_wp2_with fail
            go_ret
            exact ⟨rfl, HBF.out⟩
end Go.Proofs.Ytpolpgghdeljbaa
