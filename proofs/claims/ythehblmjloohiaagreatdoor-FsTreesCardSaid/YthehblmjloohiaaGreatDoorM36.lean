/- Layer 11, a part of the proofs: no statement of its own. -/
import Derived.Shelf.SlIterI.Nil
import Derived.Shelf.SortM.Plain
import Derived.Shelf.SortM.SortNone
import Derived.Test.YthehblmjloohiaaGreatDoorProg
import Derived.Test.YthehblmjloohiaaGreatDoorM35
namespace Go.Proofs.YthehblmjloohiaaGreatDoor
set_option maxRecDepth 100000
open Go.RowKit Go.Less Go.Maps
open T8 (pv Dg Rp Pr keysOf mkeys_any mget_there)
attribute [local go_sem 9000] sem_eql sem_neq
theorem Turn.below {g : Nat} {w W W' : World} (h : Turn g w W) (hb : Below W.heap.size W W') : Turn g w W' :=
 ⟨hb.os.trans h.os, hb.tape.trans h.tape, hb.output.trans h.output, Nat.le_trans h.size hb.size, fun k hk hne => (hb.block k (Nat.lt_of_lt_of_le hk h.size)).trans (h.block k hk hne)⟩
theorem Turn.turned {g : Nat} {w W W' : World} (h : Turn g w W) (ht : W.mapTurned W' g) : Turn g w W' := by
 have hg := ht.grown
 exact ⟨hg.os.trans h.os, hg.tape.trans h.tape, hg.output.trans h.output, Nat.le_trans h.size hg.size, fun k hk hne => (hg.block k (Nat.lt_of_lt_of_le hk h.size) (fun e => hne (by injection e))).trans (h.block k hk hne)⟩
theorem Turn.refl (g : Nat) (w : World) : Turn g w w := ⟨rfl, rfl, rfl, Nat.le_refl _, fun _ _ _ => rfl⟩
theorem Turn.trans {g : Nat} {w W W' : World} (h : Turn g w W) (h2 : Turn g W W') : Turn g w W' :=
 ⟨h2.os.trans h.os, h2.tape.trans h.tape, h2.output.trans h.output, Nat.le_trans h.size h2.size, fun k hk hne => (h2.block k (Nat.lt_of_lt_of_le hk h.size) hne).trans (h.block k hk hne)⟩
def itm (p : Pr) : Fs.Item := ((inoR p.1).1, (parseR p.2.data.toList).1)
def okp (p : Pr) : Prop := (inoR p.1).2 = true ∧ (parseR p.2.data.toList).2 = 0
theorem ino_ok {s : ByteArray} (h : (inoR s).2 = true) : 1 ≤ (inoR s).1 ∧ (inoR s).1 ≤ 2147483647 := by
 unfold inoR at h ⊢
 split at h
 ·rename_i h4
  rw [if_pos h4]
  simp only [Bool.and_eq_true, decide_eq_true_eq] at h
  exact h
 ·simp at h
theorem ik_wf {i : Int} (h1 : 1 ≤ i) (h2 : i ≤ 2147483647) : (ik i).wf = true := WalkArith.wf_i64 (by omega)
theorem node_out {l : List Fs.Item} {i : Int} (h : ∀ y ∈ l, y.1 ≠ i) : Fs.node l i = none := Fs.node_none.2 h
theorem get_at {l : List Pr} (hs : T8.Srt l) {p : Pr} (h : p ∈ l) : Tr.get l p.1 = some p.2 := by
 induction l with
 | nil => cases h
 | cons y l ih =>
  have h1 := List.pairwise_cons.1 hs
  show (if y.1 = p.1 then some y.2 else Tr.get l p.1) = _
  rcases List.mem_cons.1 h with rfl | h
  ·rw [if_pos rfl]
  ·rw [if_neg (fun e => by have := h1.1 p h; rw [e] at this; rw [rising.irr] at this; cases this)]
   exact ih h1.2 h
def ReadN (kvs : List Pr) (j : Nat) (w : World) (e : Ending) (w' : World) : Prop := Below w.heap.size w w' ∧
 if j = kvs.length then ∃ mb, e = .returned (.tuple #[.map (some mb), .bool true]) ∧ Nmap w' mb (kvs.map itm) else e = .returned (.tuple #[.map none, .bool false])
theorem strs_turn {b : Nat} {w W : World} (h : Turn b w W) (hm : ∃ es c, w.heap[b]? = some (.map es c)) {a : Option Addr} {n : Nat} {ks : List ByteArray} (hs : Strs a n ks w) : Strs a n ks W := by
 obtain ⟨es, c, hm⟩ := hm
 refine ⟨hs.count, fun i hi => ?_⟩
 obtain ⟨k, off, rfl, hc⟩ := hs.cell i hi
 have hk : k ≠ b := by
  rintro rfl
  unfold World.cell? at hc
  rw [hm] at hc
  cases hc
 exact ⟨k, off, rfl, (World.cell?_of_block (h.block k (block_lt_of_cell hc) hk)).trans hc⟩
theorem itm_take {kvs : List Pr} {k : Nat} {p : Pr} (h : kvs[k]? = some p) : (kvs.take (k + 1)).map itm = (kvs.take k).map itm ++ [itm p] := by
 rw [take_succ_some h, List.map_append]; rfl
set_option maxHeartbeats 8000000 in
theorem readNodes_any (m : Option Nat) (kvs : List Pr) (j : Nat) (w : World) (h : Rp w m kvs) (hn : kvs.length ≤ 1000) (hvs : ∀ p ∈ kvs, p.2.size ≤ 100000) (hj : j ≤ kvs.length)
  (hok : ∀ i p, i < j → kvs[i]? = some p → okp p) (hbad : ∀ p, kvs[j]? = some p → ¬ okp p) (hnd : (((kvs.take j).map itm).map (·.1)).Nodup) :
  Calls Tryz.prog 69 #[pv m] w (ReadN kvs j w) := by
 have hmm := @run_makeMap Tryz.prog
 have HRp := Lib.hid (fun W (hb : Below w.heap.size w W) => h.below hb)
 have HSo := Lib.hid h.sorted
 have hlen : (keysOf kvs).length = kvs.length := by unfold keysOf; rw [List.length_map]
 have HKy := Lib.hid (fun W (hb : Below w.heap.size w W) => mkeys_any (h.below hb) (by omega))
 have HB0 := Lib.hid (below_one w (.map #[] 0))
 have HM0 := Lib.hid (Nmap.made w)
 have hb0 : (w.alloc (.map #[] 0)).heap[w.heap.size]? = some (.map #[] 0) := heap_alloc_new _ _
 have HBb := Lib.hid hb0
 obtain ⟨b, hbe⟩ : ∃ b, b = w.heap.size := ⟨_, rfl⟩
 have HBE := Lib.hid hbe
 clear h hb0
 go_enter Tryz.func69, Tryz.ntmps69
 go_wp2_with fail
 rw [← hbe] at HM0 HBb ⊢
 clear hbe
 generalize w.alloc (.map #[] 0) = W0 at HB0 HM0 HBb ⊢
 refine (HKy.out _ HB0.out).mono ?_
 rintro e w1 ⟨ao, cap, rfl, hrow, hb⟩
 rw [hlen] at hrow ⊢
 have hS : Strs ao kvs.length (keysOf kvs) w1 := by
  have hT : Trow W0.heap.size (.slice ao kvs.length cap) ((keysOf kvs).map fun b => b.data.toList) w1 := by
   unfold Trow
   rw [List.length_map, hlen, List.map_map]
   exact hrow
  have := trow_strs hT (by rw [List.length_map, hlen])
  rwa [List.map_map, show (lstr ∘ fun b : ByteArray => b.data.toList) = id from rfl, List.map_id] at this
 have HM1 := Lib.hid (HM0.out.below hb)
 have HW1 := Lib.hid (HB0.out.trans (hb.mono HB0.out.size))
 have hbm : ∃ es c, w1.heap[b]? = some (.map es c) := ⟨_, _, (hb.block _ (lt_of_obj HBb.out)).trans HBb.out⟩
 have HS := Lib.hid (fun W (hT : Turn b w1 W) => strs_turn hT hbm hS)
 obtain ⟨n, hnn⟩ : ∃ n, n = kvs.length := ⟨_, rfl⟩
 have HN := Lib.hid hnn
 rw [← hnn] at hn HS hj ⊢
 have hni : (n : Int) ≤ 1000 := by omega
 have HJ := Lib.hid hj
 have HOk := Lib.hid hok
 have HBad := Lib.hid hbad
 have HNd := Lib.hid hnd
 have HVs := Lib.hid hvs
 clear hrow hS hb HKy hlen hnn hbm HM0 HB0 HBb hok hbad hnd hvs
 dsimp only
 go_wp2_with fail
 go_loopw [6, 7, 8, 9, 10, 11, 12, 17] (fun _ _ _ _ _ _ _ x17 wr => ∃ k : Nat, k ≤ j ∧ x17 = .int .i64 k ∧ Below w.heap.size w wr ∧ Turn b w1 wr ∧ Nmap wr b ((kvs.take k).map itm)) (fun _ _ _ _ _ _ _ x17 _ => n - (intOf x17).toNat)
 case atStart => exact ⟨0, Nat.zero_le _, rfl, HW1.out, Turn.refl _ _, HM1.out⟩
 case round =>
  clear HM1
  obtain ⟨k, hk, rfl, hW, hT, hM⟩ := hrel
  have HW := Lib.hid hW
  have HT := Lib.hid hT
  have HM := Lib.hid hM
  clear hW hT hM
  by_cases hlt : k < n
  ·have k0 : (k : Int) < (n : Int) := by omega
   have hk0 : (0 : Int) ≤ (k : Int) := by omega
   have hkl : k < kvs.length := by rw [← HN.out]; exact hlt
   obtain ⟨p, hp⟩ : ∃ p, kvs[k]? = some p := ⟨_, List.getElem?_eq_getElem hkl⟩
   have hpm := List.mem_of_getElem? hp
   obtain ⟨b1, o1, rfl, nc⟩ := (HS.out wr HT.out).cell k hlt
   rw [show (keysOf kvs).getD k ByteArray.empty = p.1 by unfold keysOf; rw [List.getD, List.getElem?_map, hp]; rfl] at nc
   have HI := Lib.hid (fun W => inoOf_any p.1 W)
   have HG := Lib.hid (fun W (hb : Below w.heap.size w W) => mget_there (HRp.out W hb) p.1 p.2 (get_at HSo.out hpm))
   have HPa := Lib.hid (fun W => parse_any p.2 W (HVs.out p hpm))
   have HTk := Lib.hid (itm_take hp)
   have HPk := Lib.hid hp
   have hokd : okp p ↔ (inoR p.1).2 = true ∧ (parseR p.2.data.toList).2 = 0 := Iff.rfl
   have HIk := Lib.hid (fun h => ino_ok (s := p.1) h)
   have HIt := Lib.hid (show itm p = ((inoR p.1).1, (parseR p.2.data.toList).1) from rfl)
   obtain ⟨p1, p2⟩ := p
   dsimp only at *
   obtain ⟨⟨i, isn⟩, hi⟩ : ∃ r, inoR p1 = r := ⟨_, rfl⟩
   obtain ⟨⟨⟨xk, xm, xd, xt, xe⟩, code⟩, hx⟩ : ∃ r, parseR p2.data.toList = r := ⟨_, rfl⟩
   rw [hi, hx] at hokd HIt
   rw [hi] at HI HIk
   rw [hx] at HPa
   unfold Noded at HPa
   clear hi hx hp hpm
   dsimp only at hokd HIt HI HPa HIk
   cases isn with
   | false =>
    have hjk : j = k := by
     rcases Nat.lt_or_ge k j with hl | hl
     ·exact absurd (hokd.1 (HOk.out k _ hl HPk.out)).1 (by decide)
     ·omega
    have HNe := Lib.hid (show j ≠ kvs.length by omega)
    go_wp2_with fail
    refine (HI.out wr).mono ?_
    rintro e w' ⟨rfl, rfl⟩
    dsimp only
    go_wp2_with fail
    refine (HG.out w' HW.out).mono ?_
    rintro e w3 ⟨rfl, hb3⟩
    have HW3 := Lib.hid (HW.out.trans (hb3.mono HW.out.size))
    clear nc hb3
    dsimp only
    go_wp2_with fail
    refine (HPa.out w3).mono ?_
    rintro e w4 ⟨ea, ec, rfl, hE, hb4⟩
    have HW4 := Lib.hid (HW3.out.trans (hb4.mono HW3.out.size))
    clear hE hb4
    dsimp only
    go_wp2_with fail
    go_ret2
    unfold ReadN
    rw [if_neg HNe.out]
    exact ⟨HW4.out.trans ((below_one _ _).mono HW4.out.size), rfl⟩
   | true =>
    by_cases hc : code = 0
    ·subst hc
     have hkj : k < j := by
      rcases Nat.lt_or_ge k j with hl | hl
      ·exact hl
      ·have hjk : k = j := by omega
       exact absurd (hokd.2 ⟨rfl, rfl⟩) (HBad.out _ (hjk ▸ HPk.out))
     have hib := HIk.out rfl
     have hno : Fs.node ((kvs.take k).map itm) i = none := node_out fun y hy e => by
      have h1 : ((kvs.take (k + 1)).map itm).map (·.1) <+: ((kvs.take j).map itm).map (·.1) := by
       rw [List.map_map, List.map_map]
       exact (List.take_prefix_take_left (show k + 1 ≤ j by omega)).map _
      have h2 := h1.sublist.nodup HNd.out
      rw [HTk.out, HIt.out, List.map_append, List.nodup_append] at h2
      exact h2.2.2 y.1 (List.mem_map.2 ⟨y, hy, rfl⟩) i (by simp) e
     have hwf := ik_wf hib.1 hib.2
     have hle : ((kvs.take k).map itm).length < 100000 := by rw [List.length_map, List.length_take]; omega
     go_wp2_with fail
     refine (HI.out wr).mono ?_
     rintro e w' ⟨rfl, rfl⟩
     dsimp only
     go_wp2_with fail
     refine (HG.out w' HW.out).mono ?_
     rintro e w3 ⟨rfl, hb3⟩
     have HW3 := Lib.hid (HW.out.trans (hb3.mono HW.out.size))
     have HT3 := Lib.hid (HT.out.below hb3)
     have HM3 := Lib.hid (HM.out.below hb3)
     clear nc hb3
     dsimp only
     go_wp2_with fail
     refine (HPa.out w3).mono ?_
     rintro e w4 ⟨ea, ec, rfl, hE, hb4⟩
     have hb5 := below_one w4 (.cells #[.int .i64 xk, .int .i64 xm, .string xd, .string xt, .slice ea xe.length ec] 43)
     have HW5 := Lib.hid ((HW3.out.trans (hb4.mono HW3.out.size)).trans (hb5.mono (Nat.le_trans HW3.out.size hb4.size)))
     have HT5 := Lib.hid ((HT3.out.below hb4).below hb5)
     obtain ⟨w6, hr, hM6, ht6⟩ := ((HM3.out.below hb4).below hb5).store hle hwf hno ⟨xk, xm, xd, xt, xe⟩ (a := ea) (c := ec) (hE.below hb5)
     unfold nvx at hr
     have HM6 := Lib.hid (show Nmap w6 b ((kvs.take (k + 1)).map itm) by rw [HTk.out, HIt.out]; exact hM6)
     have HT6 := Lib.hid (HT5.out.turned ht6)
     have HW6 := Lib.hid (below_turned HW5.out ht6 (by rw [HBE.out]; exact Nat.le_refl _))
     clear hE hb4 hb5 hM6 ht6
     dsimp only at hr ⊢
     go_wp2_with fail
     go_roundw
     case rel => exact ⟨k + 1, by omega, by go_num, HW6.out, HT6.out, HM6.out⟩
     case measure => simp [intOf]; omega
    ·have hjk : j = k := by
      rcases Nat.lt_or_ge k j with hl | hl
      ·exact absurd (hokd.1 (HOk.out k _ hl HPk.out)).2 hc
      ·omega
     have HNe := Lib.hid (show j ≠ kvs.length by omega)
     go_wp2_with fail
     refine (HI.out wr).mono ?_
     rintro e w' ⟨rfl, rfl⟩
     dsimp only
     go_wp2_with fail
     refine (HG.out w' HW.out).mono ?_
     rintro e w3 ⟨rfl, hb3⟩
     have HW3 := Lib.hid (HW.out.trans (hb3.mono HW.out.size))
     clear nc hb3
     dsimp only
     go_wp2_with fail
     refine (HPa.out w3).mono ?_
     rintro e w4 ⟨ea, ec, rfl, hE, hb4⟩
     have HW4 := Lib.hid (HW3.out.trans (hb4.mono HW3.out.size))
     clear hE hb4
     dsimp only
     go_wp2_with fail
     go_ret2
     unfold ReadN
     rw [if_neg HNe.out]
     exact ⟨HW4.out.trans ((below_one _ _).mono HW4.out.size), rfl⟩
  ·obtain rfl : k = j := by have := HJ.out; omega
   have hjn : k = n := by have := HJ.out; omega
   have HE := Lib.hid (show k = kvs.length by rw [← HN.out]; exact hjn)
   have hge : ¬ ((k : Int) < (n : Int)) := by omega
   go_wp2_with fail
   go_ret2
   unfold ReadN
   rw [if_pos HN.out]
   exact ⟨HW.out, b, rfl, by have := HM.out; rwa [List.take_of_length_le (by rw [HE.out]; exact Nat.le_refl _)] at this⟩
end Go.Proofs.YthehblmjloohiaaGreatDoor

namespace Go.Proofs
open Go.Shelf
def Tryz.keys109_ren : Go.Shelf.Ren := ⟨fun | 7 => 109 | 10 => 150 | n => n, fun | 23 => 126 | 26 => 3 | 3 => 43 | 28 => 162 | 0 => 0 | 27 => 161 | 33 => 110 | 4 => 4 | n => n, fun | n => n⟩
theorem Tryz.keys109 : Go.Proofs.SlLaysZI.n7 Tryz.prog Tryz.keys109_ren := {
 mixed := by kernel_rfl
 f7 := ⟨Tryz.f109.name, by decide, Tryz.func109.trans (congrArg some (by kernel_rfl))⟩
 f10 := ⟨Tryz.f150.name, by decide, Tryz.func150.trans (congrArg some (by kernel_rfl))⟩
 t0 := Tryz.underlying0
 a0 := Tryz.isAgg0
 z0 := Tryz.sizeOf0
 v0 := Tryz.zeroValue0
 t4 := Tryz.underlying4
 a4 := Tryz.isAgg4
 z4 := Tryz.sizeOf4
 v4 := Tryz.zeroValue4
 t23 := Tryz.underlying126
 a23 := Tryz.isAgg126
 z23 := Tryz.sizeOf126
 v23 := Tryz.zeroValue126
 t26 := Tryz.underlying3
 a26 := Tryz.isAgg3
 z26 := Tryz.sizeOf3
 v26 := Tryz.zeroValue3
 t27 := Tryz.underlying161
 a27 := Tryz.isAgg161
 z27 := Tryz.sizeOf161
 v27 := Tryz.zeroValue161
 t28 := Tryz.underlying162
 a28 := Tryz.isAgg162
 z28 := Tryz.sizeOf162
 v28 := Tryz.zeroValue162
 t33 := Tryz.underlying110
 a33 := Tryz.isAgg110
 z33 := Tryz.sizeOf110
 v33 := Tryz.zeroValue110 }
def Tryz.sorted108_ren : Go.Shelf.Ren := ⟨fun | 6 => 108 | 8 => 148 | 9 => 149 | 11 => 175 | 13 => 177 | 12 => 176 | 23 => 202 | 24 => 203 | 14 => 193 | 15 => 194 | 16 => 195 | 17 => 196 | 18 => 197 | 19 => 198 | 20 => 199 | 21 => 200 | 22 => 201 | 25 => 219 | 26 => 220 | 27 => 221 | 28 => 222 | 29 => 223 | 30 => 224 | 31 => 239 | n => n, fun | 26 => 3 | 28 => 162 | 24 => 67 | 0 => 0 | 3 => 3 | 37 => 136 | 48 => 193 | 50 => 237 | 4 => 4 | 40 => 246 | 39 => 245 | 45 => 139 | 5 => 5 | 9 => 9 | 51 => 263 | 55 => 267 | 57 => 282 | 58 => 112 | 33 => 110 | n => n, fun | n => n⟩
theorem Tryz.sorted108 : Go.Proofs.SlLaysZI.n6 Tryz.prog Tryz.sorted108_ren := {
 mixed := by kernel_rfl
 f6 := ⟨Tryz.f108.name, by decide, Tryz.func108.trans (congrArg some (by kernel_rfl))⟩
 f8 := ⟨Tryz.f148.name, by decide, Tryz.func148.trans (congrArg some (by kernel_rfl))⟩
 f11 := ⟨Tryz.f175.name, by decide, Tryz.func175.trans (congrArg some (by kernel_rfl))⟩
 t0 := Tryz.underlying0
 a0 := Tryz.isAgg0
 z0 := Tryz.sizeOf0
 v0 := Tryz.zeroValue0
 t24 := Tryz.underlying67
 a24 := Tryz.isAgg67
 z24 := Tryz.sizeOf67
 v24 := Tryz.zeroValue67
 t26 := Tryz.underlying3
 a26 := Tryz.isAgg3
 z26 := Tryz.sizeOf3
 v26 := Tryz.zeroValue3
 t28 := Tryz.underlying162
 a28 := Tryz.isAgg162
 z28 := Tryz.sizeOf162
 v28 := Tryz.zeroValue162
 i26 := by kernel_rfl }
def Tryz.sort149_ren : Go.Shelf.Ren := ⟨fun | 5 => 149 | 8 => 177 | 7 => 176 | 19 => 202 | 20 => 203 | 10 => 193 | 11 => 194 | 12 => 195 | 13 => 196 | 14 => 197 | 15 => 198 | 16 => 199 | 17 => 200 | 18 => 201 | 30 => 219 | 31 => 220 | 32 => 221 | 33 => 222 | 34 => 223 | 35 => 224 | 40 => 239 | n => n, fun | 23 => 67 | 25 => 3 | 3 => 3 | 32 => 136 | 22 => 67 | 0 => 0 | 44 => 193 | 46 => 237 | 4 => 4 | 36 => 246 | 35 => 245 | 41 => 139 | 5 => 5 | 9 => 9 | 53 => 263 | 57 => 267 | 63 => 282 | 64 => 112 | n => n, fun | n => n⟩
theorem Tryz.sort149 : Go.Proofs.SlLaysM.n5 Tryz.prog Tryz.sort149_ren := {
 mixed := by kernel_rfl
 f5 := ⟨Tryz.f149.name, by decide, Tryz.func149.trans (congrArg some (by kernel_rfl))⟩
 f7 := ⟨Tryz.f176.name, by decide, Tryz.func176.trans (congrArg some (by kernel_rfl))⟩
 f8 := Tryz.func177.trans (congrArg some (by kernel_rfl))
 f10 := ⟨Tryz.f193.name, by decide, Tryz.func193.trans (congrArg some (by kernel_rfl))⟩
 f11 := ⟨Tryz.f194.name, by decide, Tryz.func194.trans (congrArg some (by kernel_rfl))⟩
 f12 := ⟨Tryz.f195.name, by decide, Tryz.func195.trans (congrArg some (by kernel_rfl))⟩
 f13 := ⟨Tryz.f196.name, by decide, Tryz.func196.trans (congrArg some (by kernel_rfl))⟩
 f14 := ⟨Tryz.f197.name, by decide, Tryz.func197.trans (congrArg some (by kernel_rfl))⟩
 f15 := ⟨Tryz.f198.name, by decide, Tryz.func198.trans (congrArg some (by kernel_rfl))⟩
 f16 := ⟨Tryz.f199.name, by decide, Tryz.func199.trans (congrArg some (by kernel_rfl))⟩
 f17 := ⟨Tryz.f200.name, by decide, Tryz.func200.trans (congrArg some (by kernel_rfl))⟩
 f18 := ⟨Tryz.f201.name, by decide, Tryz.func201.trans (congrArg some (by kernel_rfl))⟩
 f19 := Tryz.func202.trans (congrArg some (by kernel_rfl))
 f20 := Tryz.func203.trans (congrArg some (by kernel_rfl))
 f30 := ⟨Tryz.f219.name, by decide, Tryz.func219.trans (congrArg some (by kernel_rfl))⟩
 f31 := Tryz.func220.trans (congrArg some (by kernel_rfl))
 f32 := Tryz.func221.trans (congrArg some (by kernel_rfl))
 f33 := ⟨Tryz.f222.name, by decide, Tryz.func222.trans (congrArg some (by kernel_rfl))⟩
 f34 := ⟨Tryz.f223.name, by decide, Tryz.func223.trans (congrArg some (by kernel_rfl))⟩
 f35 := ⟨Tryz.f224.name, by decide, Tryz.func224.trans (congrArg some (by kernel_rfl))⟩
 f40 := ⟨Tryz.f239.name, by decide, Tryz.func239.trans (congrArg some (by kernel_rfl))⟩
 t0 := Tryz.underlying0
 a0 := Tryz.isAgg0
 z0 := Tryz.sizeOf0
 v0 := Tryz.zeroValue0
 t3 := Tryz.underlying3
 a3 := Tryz.isAgg3
 z3 := Tryz.sizeOf3
 v3 := Tryz.zeroValue3
 t4 := Tryz.underlying4
 a4 := Tryz.isAgg4
 z4 := Tryz.sizeOf4
 v4 := Tryz.zeroValue4
 t5 := Tryz.underlying5
 a5 := Tryz.isAgg5
 z5 := Tryz.sizeOf5
 v5 := Tryz.zeroValue5
 t9 := Tryz.underlying9
 a9 := Tryz.isAgg9
 z9 := Tryz.sizeOf9
 v9 := Tryz.zeroValue9
 t22 := Tryz.underlying67
 a22 := Tryz.isAgg67
 z22 := Tryz.sizeOf67
 v22 := Tryz.zeroValue67
 t23 := Tryz.underlying67
 a23 := Tryz.isAgg67
 z23 := Tryz.sizeOf67
 v23 := Tryz.zeroValue67
 t25 := Tryz.underlying3
 a25 := Tryz.isAgg3
 z25 := Tryz.sizeOf3
 v25 := Tryz.zeroValue3
 t32 := Tryz.underlying136
 a32 := Tryz.isAgg136
 z32 := Tryz.sizeOf136
 v32 := Tryz.zeroValue136
 t35 := Tryz.underlying245
 a35 := Tryz.isAgg245
 z35 := Tryz.sizeOf245
 v35 := Tryz.zeroValue245
 t36 := Tryz.underlying246
 a36 := Tryz.isAgg246
 z36 := Tryz.sizeOf246
 v36 := Tryz.zeroValue246
 t41 := Tryz.underlying139
 a41 := Tryz.isAgg139
 z41 := Tryz.sizeOf139
 v41 := Tryz.zeroValue139
 t44 := Tryz.underlying193
 a44 := Tryz.isAgg193
 z44 := Tryz.sizeOf193
 v44 := Tryz.zeroValue193
 t46 := Tryz.underlying237
 a46 := Tryz.isAgg237
 z46 := Tryz.sizeOf237
 v46 := Tryz.zeroValue237
 t53 := Tryz.underlying263
 a53 := Tryz.isAgg263
 z53 := Tryz.sizeOf263
 v53 := Tryz.zeroValue263
 t57 := Tryz.underlying267
 a57 := Tryz.isAgg267
 z57 := Tryz.sizeOf267
 v57 := Tryz.zeroValue267
 t63 := Tryz.underlying282
 a63 := Tryz.isAgg282
 z63 := Tryz.sizeOf282
 v63 := Tryz.zeroValue282
 t64 := Tryz.underlying112
 a64 := Tryz.isAgg112
 z64 := Tryz.sizeOf112
 v64 := Tryz.zeroValue112 }
end Go.Proofs

namespace Go.Proofs.YthehblmjloohiaaGreatDoor
set_option maxRecDepth 100000
open Go.RowKit Go.Less Go.Maps Go.Sort Go.Shelf
open T8 (pv Dg Rp Pr)
attribute [local go_sem 9000] sem_eql sem_neq
theorem sorts108 (m : Nat) : AnyZI.SortsIn Tryz.prog Tryz.sorted108_ren Fence.wide m :=
 ⟨fun blk off cap ss W hH hblk hsz => callsIn_wide.2 (AnyM.slices_Sort_int Tryz.sort149 blk off cap ss W hH hblk hsz),
  fun p cap W => callsIn_wide.2 (AnyM.slices_Sort_int_none Tryz.sort149 p cap W)⟩
theorem keys109_any (mb : Option Nat) (W : World) : Calls Tryz.prog 109 #[.map mb] W fun e w' => e = .returned (.func (.func 150) #[] #[.pointer (some ⟨W.heap.size, 0, none⟩)]) ∧ w' = W.alloc (.cells #[.map mb] 126) :=
 (callsIn_wide (n := 5)).1 (AnyZI.keys_in Tryz.keys109 Fence.wide 5 trivial rfl mb W)
theorem rising_nodup {l : List Fs.Item} (h : Fs.Rising l) : (inosL l).Nodup := by
 unfold inosL
 exact List.pairwise_map.2 (h.imp fun {x y} h e => by have h : x.1 < y.1 := h; omega)
theorem node_some_iff {l : List Fs.Item} {i : Int} : (Fs.node l i).isSome = true ↔ i ∈ inosL l := by
 constructor
 ·intro h
  obtain ⟨x, hx⟩ := Option.isSome_iff_exists.1 h
  exact List.mem_map.2 ⟨_, Fs.node_mem hx, rfl⟩
 ·intro h
  cases hn : Fs.node l i with
  | some x => rfl
  | none =>
   obtain ⟨y, hy, e⟩ := List.mem_map.1 h
   exact absurd e (Fs.node_none.1 hn y hy)
theorem nmap_perm {w : World} {b : Nat} {l : List Fs.Item} {D : DataW Value} {f : Int → Option Value} {n : Nat} (ho : w.ownsMap Tryz.prog 3 held b n D) (h2 : ∀ a, (ik a).wf = true → Maps.has D (ik a) = (f a).isSome) (hf : ∀ i, (f i).isSome = (Fs.node l i).isSome) (hr : Fs.Rising l) (hwf : ∀ y ∈ l, (ik y.1).wf = true) : (inosL l).Perm (intKeys D) := by
 have hw := intKeys_wf ho Tryz.underlying3
 obtain ⟨es, rfl, hp⟩ := ho.tidy law3
 have hko := ho.keysOf
 obtain ⟨es', he, hko⟩ := hko
 injection he with he
 subst he
 have hk : ∀ p ∈ es, ∃ x, p.1 = .int .i64 x := fun p hp => by
  obtain ⟨v, hv⟩ := hko p hp
  obtain ⟨y, _, hy, _⟩ := Maps.keyOf_i64 Tryz.underlying3 hv
  exact ⟨y, hy⟩
 refine perm_intKeys hp hk (rising_nodup hr) fun x => ?_
 constructor
 ·intro hx
  obtain ⟨y, hy, rfl⟩ := List.mem_map.1 hx
  rw [h2 _ (hwf y hy), hf]
  exact node_some_iff.2 hx
 ·intro hx
  have hxk : x ∈ intKeys (.map es) := by
   rw [has_eq, List.any_eq_true] at hx
   obtain ⟨p, hp', hs⟩ := hx
   obtain ⟨a, ha⟩ := hk p hp'
   refine List.mem_map.2 ⟨p, hp', ?_⟩
   rw [ha] at hs ⊢
   simp [Lit.sameKey] at hs
   exact hs
  have := h2 x (hw x hxk)
  rw [this, hf] at hx
  exact node_some_iff.1 hx
theorem sort_inos {l : List Fs.Item} (hr : Fs.Rising l) {ss : List Int} (hp : ss.Perm (inosL l)) : ss.mergeSort (fun x y => decide (x ≤ y)) = inosL l := by
 refine List.Perm.eq_of_pairwise (le := fun x y => x ≤ y) (fun a b _ _ h1 h2 => Int.le_antisymm h1 h2) ?_ ?_ ((List.mergeSort_perm _ _).trans hp)
 ·have h := List.pairwise_mergeSort (le := fun x y : Int => decide (x ≤ y)) (fun a b c h1 h2 => by simp only [decide_eq_true_eq] at h1 h2 ⊢; omega) (fun a b => by simp only [Bool.or_eq_true, decide_eq_true_eq]; omega) ss
  exact h.imp fun {x y} h => by simpa using h
 ·unfold inosL
  exact List.pairwise_map.2 (hr.imp fun {x y} h => by have h : x.1 < y.1 := h; omega)
set_option maxHeartbeats 1000000 in
theorem sorted_any {w : World} {b : Nat} {l : List Fs.Item} (h : Nmap w b l) (hr : Fs.Rising l) (hwf : ∀ y ∈ l, (ik y.1).wf = true) (hl : l.length ≤ 1000) :
  Calls Tryz.prog 108 #[.func (.func 150) #[] #[.pointer (some ⟨w.heap.size, 0, none⟩)]] (w.alloc (.cells #[.map (some b)] 126)) fun e w' => ∃ ao cap, e = .returned (.slice ao l.length cap) ∧ Ints ao l.length (inosL l) w' ∧ Below (w.alloc (.cells #[.map (some b)] 126)).heap.size (w.alloc (.cells #[.map (some b)] 126)) w' := by
 obtain ⟨⟨f, ⟨D0, hown, hsz, h2⟩, hf⟩⟩ := h
 have hbl := hown.lt
 have hfs : ∀ i, (f i).isSome = (Fs.node l i).isSome := fun i => by
  have h3 := hf i
  cases hn : Fs.node l i with
  | none => rw [hn] at h3; simp only at h3; rw [h3]; rfl
  | some x => rw [hn] at h3; obtain ⟨a, c, e, _⟩ := h3; rw [e]; rfl
 have hperm := nmap_perm hown (fun a ha => (h2 a ha).2) hfs hr hwf
 have hmax : Maps.size D0 ≤ maxLen := by rw [hsz]; unfold maxLen; omega
 have hbytes : Maps.size D0 * 8 ≤ 140737488355328 := by rw [hsz]; omega
 have hseq : SeqGives Fence.wide 2 Tryz.prog 150 #[.pointer (some ⟨w.heap.size, 0, none⟩)] encZ (fun ss => ss.Perm (intKeys D0)) (Maps.size D0) (w.alloc (.cells #[.map (some b)] 126)) :=
  AnyZI.keys_gives (ρ := Tryz.keys109_ren) { Tryz.keys109 with } Fence.wide _ trivial rfl (by omega) w.heap.size b l.length D0 _ (by simp) (by simp) (by
   obtain ⟨es, clock, hb, Ft, hs, hD⟩ := hown
   exact ⟨es, clock, (Below.heap_alloc _ _ b hbl).trans hb, Ft, hs, hD⟩)
 have cS := AnyZI.sorted_in Tryz.sorted108 Fence.wide 5 trivial trivial trivial trivial rfl (by omega) (sorts108 _) (enters_of Tryz.func149 (by kernel_rfl) rfl) 150 #[.pointer (some ⟨w.heap.size, 0, none⟩)] trivial (enters_of Tryz.func150 (by kernel_rfl) rfl) _ _ hmax hbytes _ hseq
 change CallsIn _ _ Tryz.prog 108 _ _ _ at cS
 refine (callsIn_wide.1 cS).mono ?_
 rintro e w' ⟨v, ss, rfl, hS, hrow, hnil, hb⟩
 have hP := hS.trans hperm.symm
 rw [sort_inos hr hP, hP.length_eq] at hrow
 have hlen : (inosL l).length = l.length := by unfold inosL; rw [List.length_map]
 obtain ⟨ao, cap, rfl⟩ := owns_form hrow
 rw [hlen] at hrow ⊢
 exact ⟨ao, cap, rfl, irow_ints (show Irow _ (.slice ao l.length cap) (inosL l) w' by unfold Irow; rw [hlen]; exact hrow) hlen.symm, hb⟩
end Go.Proofs.YthehblmjloohiaaGreatDoor

namespace Go.Proofs.YthehblmjloohiaaGreatDoor
set_option maxRecDepth 100000
open Go.RowKit Go.Less Go.Maps
open T8 (pv Dg Rp Pr)
attribute [local go_sem 9000] sem_eql sem_neq
def mayB (i k t : Int) : Bool := if i = 1 then decide (t = 0) else if k = 2 then decide (t = 1) else decide (0 < t)
set_option maxHeartbeats 1000000 in
theorem mayBe_any (i k t : Int) (w : World) : Calls Tryz.prog 111 #[.int .i64 i, .int .i64 k, .int .i64 t] w fun e w' => e = .returned (.bool (mayB i k t)) ∧ w' = w := by
 by_cases hi : i = 1
 ·subst hi
  have HR := Lib.hid (show mayB 1 k t = decide (t = 0) from rfl)
  go_enter Tryz.func111, Tryz.ntmps111
  go_wp2_with fail
  go_ret
  rw [HR.out]
  exact ⟨rfl, rfl⟩
 ·by_cases hk : k = 2
  ·subst hk
   have HR := Lib.hid (show mayB i 2 t = decide (t = 1) by unfold mayB; rw [if_neg hi, if_pos rfl])
   go_enter Tryz.func111, Tryz.ntmps111
   go_wp2_with fail
   go_ret
   rw [HR.out]
   exact ⟨rfl, rfl⟩
  ·have HR := Lib.hid (show mayB i k t = decide (0 < t) by unfold mayB; rw [if_neg hi, if_neg hk])
   go_enter Tryz.func111, Tryz.ntmps111
   go_wp2_with fail
   go_ret
   rw [HR.out]
   exact ⟨rfl, rfl⟩
theorem cnt_more (E : List En) (e : En) (i : Int) : cnt (E ++ [e]) i = if i = e.2 then cnt E i + 1 else cnt E i := by
 unfold cnt
 rw [List.countP_append]
 by_cases h : i = e.2
 ·rw [if_pos h]; simp [h]
 ·rw [if_neg h]; simp [Ne.symm h]
def Cmap (w : World) (b : Nat) (E : List En) : Prop := ∃ n f, Mz w b n f ∧ n ≤ E.length ∧ ∀ i, f i = if cnt E i = 0 then none else some (.int .i64 (cnt E i : Nat))
theorem Cmap.lt {w : World} {b : Nat} {E : List En} (h : Cmap w b E) : b < w.heap.size := by obtain ⟨n, f, h1, _⟩ := h; exact h1.lt
theorem Cmap.below {w w' : World} {b : Nat} {E : List En} (h : Cmap w b E) (hb : Below w.heap.size w w') : Cmap w' b E := by
 obtain ⟨n, f, h1, h2⟩ := h; exact ⟨n, f, h1.below hb, h2⟩
theorem Cmap.made (w : World) : Cmap (w.alloc (.map #[] 0)) w.heap.size [] := ⟨0, _, Mz.made w, Nat.le_refl _, fun _ => rfl⟩
theorem Cmap.look {w : World} {b : Nat} {E : List En} (h : Cmap w b E) {i : Int} (hi : (ik i).wf = true) : (Instr.lookup 164 (.map (some b)) (.int .i64 i) false).run Tryz.prog w = .ok (.int .i64 (cnt E i : Nat)) w := by
 obtain ⟨n, f, h1, _, h2⟩ := h
 have := h1.mp.look Tryz.underlying164 (z := .int .i64 0) (by kernel_rfl) hi
 rw [h2 i] at this
 by_cases h0 : cnt E i = 0
 ·rw [if_pos h0] at this; rw [this, h0]; rfl
 ·rw [if_neg h0] at this; exact this
theorem Cmap.store {w : World} {b : Nat} {E : List En} (h : Cmap w b E) (hE : E.length < 1000000) (e : En) (hi : (ik e.2).wf = true) :
  ∃ w', (Instr.mapUpdate 164 (.map (some b)) (.int .i64 e.2) (.int .i64 ((cnt E e.2 : Nat) + 1))).run Tryz.prog w = .ok () w' ∧ Cmap w' b (E ++ [e]) ∧ w.mapTurned w' b := by
 obtain ⟨n, f, h1, hn, h2⟩ := h
 obtain ⟨w', hr, hM, ht⟩ := h1.store Tryz.underlying164 (by unfold maxLen; omega) hi (.int .i64 ((cnt E e.2 : Nat) + 1))
 refine ⟨w', hr, ⟨_, _, hM, ?_, fun i => ?_⟩, ht⟩
 ·rw [List.length_append, List.length_singleton]; split <;> omega
 ·unfold upd
  rw [cnt_more]
  by_cases hie : i = e.2
  ·subst hie
   rw [if_pos rfl, if_pos rfl, if_neg (by omega)]
   rfl
  ·rw [if_neg hie, if_neg hie]; exact h2 i
theorem field43_0 (k m : Int) (d t : ByteArray) (a : Option Addr) (n c : Nat) (w : World) : (Instr.field 43 (.agg #[.int .i64 k, .int .i64 m, .string d, .string t, .slice a n c]) 0).run Tryz.prog w = .ok (.int .i64 k) w := by kernel_rfl
theorem field43_4 (k m : Int) (d t : ByteArray) (a : Option Addr) (n c : Nat) (w : World) : (Instr.field 43 (.agg #[.int .i64 k, .int .i64 m, .string d, .string t, .slice a n c]) 4).run Tryz.prog w = .ok (.slice a n c) w := by kernel_rfl
set_option maxHeartbeats 1000000 in
theorem c110_any (p1 p4 mb nb : Nat) (l : List Fs.Item) (E : List En) (i : Int) (w : World) (h1 : w.cell? ⟨p1, 0, none⟩ = some (.map (some mb))) (h4 : w.cell? ⟨p4, 0, none⟩ = some (.map (some nb))) (hM : Nmap w mb l) (hC : Cmap w nb E) (hi : (ik i).wf = true) :
  Calls Tryz.prog 110 #[.int .i64 i, .pointer (some ⟨p1, 0, none⟩), .pointer (some ⟨p4, 0, none⟩)] w fun e w' => e = .returned (.bool (!mayB i (Fs.nodeD l i).kind (cnt E i : Nat))) ∧ Below w.heap.size w w' := by
 obtain ⟨a, c, hl, _, _⟩ := hM.look hi
 have hc := hC.look hi
 have HMa := Lib.hid (fun W => mayBe_any i (Fs.nodeD l i).kind (cnt E i : Nat) W)
 clear hM hC
 generalize Fs.nodeD l i = x at *
 obtain ⟨xk, xm, xd, xt, xe⟩ := x
 unfold nvx nv at hl
 dsimp only at hl HMa ⊢
 generalize (cnt E i : Int) = t at *
 generalize mayB i xk t = r at *
 have hfd := field43_0
 go_enter Tryz.func110, Tryz.ntmps110
 go_wp2_with fail
 refine (HMa.out w).mono ?_
 rintro e w' ⟨rfl, rfl⟩
 dsimp only
 go_wp2_with fail
 go_ret
 exact ⟨rfl, Below.refl _ _⟩
end Go.Proofs.YthehblmjloohiaaGreatDoor
