/- The document's Shared. -/
import Derived.Test.YtheobkepoocamaaGreatDoorRefNm
import Derived.Test.YtheobkepoocamaaGreatDoorShared
namespace Go.Proofs.YtheobkepoocamaaGreatDoor
set_option maxRecDepth 100000
open Go.RowKit Go.Less
attribute [local go_sem 9000] sem_eql sem_neq sem_lss sem_leq sem_gtr sem_geq
theorem takeb {l : List ByteArray} {j : Nat} (h : j < l.length) : l.take (j + 1) = l.take j ++ [l.getD j ByteArray.empty] := by
  rw [List.take_succ_eq_append_getElem h]; simp [List.getD, List.getElem?_eq_getElem h]
theorem amid_take {x : ByteArray} {l : List ByteArray} {j : Nat} (h : j < l.length) : amid x (l.take (j + 1)) = (amid x (l.take j) || alike x (l.getD j ByteArray.empty)) := by rw [takeb h, amid_snoc]
theorem amid_there {x : ByteArray} {l : List ByteArray} {j : Nat} (h : j < l.length) (e : alike x (l.getD j ByteArray.empty) = true) : amid x l = true := by
  rw [amid_iff, alike_eq.1 e, List.getD, List.getElem?_eq_getElem h]
  exact List.getElem_mem h
set_option maxHeartbeats 4000000 in
theorem rshared_any (la lb : List Pr) (a b : Option Addr) (m n ca cb : Nat) (w : World) (hA : Prs a m la w) (hB : Prs b n lb w) (hm : la.length ≤ 500) (hn : lb.length ≤ 500) (hca : m ≤ ca) (hcb : n ≤ cb) (sa : Short la) (sb : Short lb) :
    Calls Tryz.prog 11 #[.slice a m ca, .slice b n cb] w fun e w' => e = .returned (.int .i64 ((cnt (dn la) (dn lb) : Nat) : Int)) ∧ Below w.heap.size w w' := by
  have HI := Lib.hid (rname_any 500 la a m ca w hm (by decide) hA hca sa)
  have HJ := Lib.hid (fun W (hb : Below w.heap.size w W) => rname_any 500 lb b n cb W hn (by decide) (hB.below hb) hcb sb)
  have HLa := Lib.hid (dn_len la)
  have HLb := Lib.hid (dn_len lb)
  have hmI : (la.length : Int) ≤ 500 := by omega
  have hnI : (lb.length : Int) ≤ 500 := by omega
  clear hA hB hm hn hca hcb sa sb
  go_enter Tryz.func11, Tryz.ntmps11
  go_wp2_with fail
  refine HI.out.mono ?_
  rintro e w1 ⟨ax, cx, rfl, hx, hw1⟩
  have HX := Lib.hid hx
  have HW1 := Lib.hid hw1
  clear hx hw1
  dsimp only
  go_wp2_with fail
  refine (HJ.out _ HW1.out).mono ?_
  rintro e w2 ⟨ay, cy, rfl, hy, hw2⟩
  have HSX := Lib.hid (owned_strs (owned_below HX.out hw2)).1
  have HSY := Lib.hid (owned_strs hy).1
  have HW2 := Lib.hid (btr hw2 HW1.out)
  clear hy hw2
  dsimp only
  go_wp2_with fail
  generalize hX : dn la = X at HSX HLa
  generalize hY : dn lb = Y at HSY HLb
  have HXE := Lib.hid hX
  have HYE := Lib.hid hY
  clear hX hY
  generalize la.length = p at *
  generalize lb.length = q at *
  have hcx : ∀ i, cnt (X.take i) Y ≤ 500 := fun i => by have := cnt_le (X.take i) Y; have := HLa.out; rw [List.length_take] at *; omega
  have HCX := Lib.hid hcx
  clear hcx HX
  go_loopw [9, 10] (fun c i wr => ∃ j : Nat, j ≤ p ∧ i = .int .i64 (j : Int) ∧ c = .int .i64 ((cnt (X.take j) Y : Nat) : Int) ∧ Below w2.heap.size w2 wr) (fun _ i _ => p - (intOf i).toNat)
  case atStart => exact ⟨0, Nat.zero_le _, rfl, rfl, Below.refl _ _⟩
  case round =>
    obtain ⟨j, hj, rfl, rfl, hb⟩ := hrel
    have hcj := HCX.out j
    have HB := Lib.hid hb
    clear hb
    by_cases hlt : j < p
    · obtain ⟨bx, ox, rfl, hqx⟩ := HSX.out.cell j hlt
      have hjX : j < X.length := by have := HLa.out; omega
      have hj0 : (j : Int) < (p : Int) := by omega
      have HTX := Lib.hid (takeb hjX)
      generalize X.getD j ByteArray.empty = x at hqx HTX
      have HQX := Lib.hid hqx
      have hbx := block_lt_of_cell hqx
      clear hqx hjX
      generalize hcc : cnt (X.take j) Y = c at *
      have HCC := Lib.hid hcc
      clear hcc
      obtain ⟨wo, rfl⟩ : ∃ wo : World, wo = wr := ⟨_, rfl⟩
      go_wp2_with fail
      go_loopw [9, 11] (fun c9 k wr => ∃ i : Nat, i ≤ q ∧ c9 = .int .i64 (c : Int) ∧ k = .int .i64 (i : Int) ∧ amid x (Y.take i) = false ∧ Below w2.heap.size w2 wr) (fun _ k _ => q - (intOf k).toNat)
      case atStart => exact ⟨0, Nat.zero_le _, rfl, rfl, rfl, HB.out⟩
      case round =>
        obtain ⟨i, hi, rfl, rfl, hna, hb⟩ := hrel
        have HNA := Lib.hid hna
        clear hna
        by_cases hlk : i < q
        · obtain ⟨by_, oy, rfl, hqy⟩ := HSY.out.cell i hlk
          have hiY : i < Y.length := by have := HLb.out; omega
          have hi0 : (i : Int) < (q : Int) := by omega
          have cx := (hb.cell (p := ⟨bx, ox + j, none⟩) hbx).trans HQX.out
          have cy := (hb.cell (p := ⟨by_, oy + i, none⟩) (block_lt_of_cell hqy)).trans hqy
          have HB2 := Lib.hid (fun n => bdn hb n)
          cases hal : alike x (Y.getD i ByteArray.empty)
          · have HN2 := Lib.hid (show amid x (Y.take (i + 1)) = false by rw [amid_take hiY, HNA.out, hal]; rfl)
            generalize Y.getD i ByteArray.empty = y at cy hal hqy
            clear hqy hb hiY
            go_wp2_with fail
            go_quiet (fail)
            go_wp2_with fail
            go_roundw
            case rel => exact ⟨i + 1, by omega, rfl, by go_num, HN2.out, HB2.out _⟩
            case measure => simp [intOf]; omega
          · have HIN := Lib.hid (amid_there hiY hal)
            generalize Y.getD i ByteArray.empty = y at cy hal hqy
            clear hqy hb hiY
            go_wp2_with fail
            go_quiet (fail)
            go_wp2_with fail
            refine ⟨⟨j + 1, by omega, by go_num, ?_, HB2.out _⟩, by simp [intOf]; omega⟩
            rw [HTX.out, cnt_in HIN.out, HCC.out]; go_num
        · obtain rfl : i = q := by omega
          have HOUT := Lib.hid (show amid x Y = false by have := HNA.out; rwa [← HLb.out, List.take_length] at this)
          have HB2 := Lib.hid hb
          clear hb
          go_wp2_with fail
          refine ⟨⟨j + 1, by omega, by go_num, ?_, HB2.out⟩, by simp [intOf]; omega⟩
          rw [HTX.out, cnt_out HOUT.out, HCC.out]
    · obtain rfl : j = p := by omega
      have HE := Lib.hid (show X.take j = X by rw [← HLa.out, List.take_length])
      go_wp2_with fail
      go_ret
      exact ⟨by rw [HXE.out, HYE.out, HE.out]; rfl, btr HB.out HW2.out⟩
end Go.Proofs.YtheobkepoocamaaGreatDoor
