/- A part of the proofs. -/
import Derived.Shelf.SlIterI.Nil
import Derived.Shelf.SortM.Plain
import Derived.Shelf.SortM.SortNone
import Derived.Test.YthbajmlmjjfgpaaGreatDoorC23
set_option maxRecDepth 1000000
set_option maxHeartbeats 16000000
open Go.Lib (hid)
open Go.Proofs.Tryz
namespace Go.Proofs.YthbajmlmjjfgpaaGreatDoor
open Go.RowKit Go.Less Go.Maps
open T8 (pv Dg Rp Pr keysOf mkeys_any mget_there)
attribute [local go_sem 9000] sem_eql sem_neq
theorem Turn.below {g : Nat} {w W W' : World} (h : Turn g w W) (hb : Below W.heap.size W W') : Turn g w W' :=
 ⟨hb.os.trans h.os, hb.tape.trans h.tape, hb.output.trans h.output, Nat.le_trans h.size hb.size, λk hk hne => (hb.block k (Nat.lt_of_lt_of_le hk h.size)).trans (h.block k hk hne)⟩
theorem Turn.turned {g : Nat} {w W W' : World} (h : Turn g w W) (ht : W.mapTurned W' g) : Turn g w W' := by
 have hg := ht.grown
 exact ⟨hg.os.trans h.os, hg.tape.trans h.tape, hg.output.trans h.output, Nat.le_trans h.size hg.size, λk hk hne => (hg.block k (Nat.lt_of_lt_of_le hk h.size) (λe => hne (by injection e))).trans (h.block k hk hne)⟩
theorem Turn.refl (g : Nat) (w : World) : Turn g w w := ⟨rfl, rfl, rfl, Nat.le_refl _, λ_ _ _ => rfl⟩
theorem Turn.trans {g : Nat} {w W W' : World} (h : Turn g w W) (h2 : Turn g W W') : Turn g w W' :=
 ⟨h2.os.trans h.os, h2.tape.trans h.tape, h2.output.trans h.output, Nat.le_trans h.size h2.size, λk hk hne => (h2.block k (Nat.lt_of_lt_of_le hk h.size) hne).trans (h.block k hk hne)⟩
def itm (p : Pr) : Fs.Item := ((inoR p.1).1, (parseR p.2.data.toList).1)
def okp (p : Pr) : Prop := (inoR p.1).2 = true /\ (parseR p.2.data.toList).2 = 0
theorem ino_ok {s : ByteArray} (h : (inoR s).2 = true) : 1 <= (inoR s).1 /\ (inoR s).1 <= 2147483647 := by
 unfold inoR at h |-
 split at h
 ·rename_i h4
  rw [if_pos h4]
  simp only [Bool.and_eq_true, decide_eq_true_eq] at h
  exact h
 ·simp at h
theorem ik_wf {i : Int} (h1 : 1 <= i) (h2 : i <= 2147483647) : (ik i).wf = true := WalkArith.wf_i64 (by omega)
theorem node_out {l : List Fs.Item} {i : Int} (h : ∀ y ∈ l, y.1 ≠ i) : Fs.node l i = none := Fs.node_none.2 h
theorem get_at {l : List Pr} (hs : T8.Srt l) {p : Pr} (h : p ∈ l) : Tr.get l p.1 = some p.2 := by
 induction l with
 | nil => cases h
 | cons y l ih =>
  have h1 := List.pairwise_cons.1 hs
  show (if y.1 = p.1 then some y.2 else Tr.get l p.1) = _
  rcases List.mem_cons.1 h with rfl | h
  ·rw [if_pos rfl]
  ·rw [if_neg (λe => by have := h1.1 p h; rw [e] at this; rw [rising.irr] at this; cases this)]
   exact ih h1.2 h
def ReadN (kvs : List Pr) (j : Nat) (w : World) (e : Ending) (w' : World) : Prop := Below w.heap.size w w' /\
 if j = kvs.length then ∃ mb, e = .returned (.tuple #[.map (some mb), .bool true]) /\ Nmap w' mb (kvs.map itm) else e = .returned (.tuple #[.map none, .bool false])
theorem strs_turn {b : Nat} {w W : World} (h : Turn b w W) (hm : ∃ es c, w.heap[b]? = some (.map es c)) {a : Option Addr} {n : Nat} {ks : List ByteArray} (hs : Strs a n ks w) : Strs a n ks W := by
 obtain ⟨es, c, hm⟩ := hm
 refine ⟨hs.count, λi hi => ?_⟩
 obtain ⟨k, off, rfl, hc⟩ := hs.cell i hi
 have hk : k ≠ b := by
  rintro rfl
  unfold World.cell? at hc
  rw [hm] at hc
  cases hc
 exact ⟨k, off, rfl, (World.cell?_of_block (h.block k (block_lt_of_cell hc) hk)).trans hc⟩
theorem itm_take {kvs : List Pr} {k : Nat} {p : Pr} (h : kvs[k]? = some p) : (kvs.take (k + 1)).map itm = (kvs.take k).map itm ++ [itm p] := by
 rw [take_succ_some h, List.map_append]; rfl
theorem readNodes_any (m : Option Nat) (kvs : List Pr) (j : Nat) (w : World) (h : Rp w m kvs) (hn : kvs.length <= 1000) (hvs : ∀ p ∈ kvs, p.2.size <= 100000) (hj : j <= kvs.length)
  (hok : ∀ i p, i < j -> kvs[i]? = some p -> okp p) (hbad : ∀ p, kvs[j]? = some p -> ¬ okp p) (hnd : (((kvs.take j).map itm).map (·.1)).Nodup) :
  Calls prog 148 #[pv m] w (ReadN kvs j w) := by
 have hmm := @run_makeMap prog
 have HRp := hid (λW (hb : Below w.heap.size w W) => h.below hb)
 have HSo := hid h.sorted
 have hlen : (keysOf kvs).length = kvs.length := by unfold keysOf; rw [List.length_map]
 have HKy := hid (λW (hb : Below w.heap.size w W) => mkeys_any (h.below hb) (by omega))
 have HB0 := hid (below_one w (.map #[] 0))
 have HM0 := hid (Nmap.made w)
 have hb0 : (w.alloc (.map #[] 0)).heap[w.heap.size]? = some (.map #[] 0) := heap_alloc_new _ _
 have HBb := hid hb0
 obtain ⟨b, hbe⟩ : ∃ b, b = w.heap.size := ⟨_, rfl⟩
 have HBE := hid hbe
 clear h hb0
 go_enter func148, ntmps148
 go_wp2_with fail
 rw [<- hbe] at HM0 HBb |-
 clear hbe
 generalize w.alloc (.map #[] 0) = W0 at HB0 HM0 HBb |-
 refine (HKy.out _ HB0.out).mono ?_
 rintro e w1 ⟨ao, cap, rfl, hrow, hb⟩
 rw [hlen] at hrow |-
 have hS : Strs ao kvs.length (keysOf kvs) w1 := by
  have hT : Trow W0.heap.size (.slice ao kvs.length cap) ((keysOf kvs).map λb => b.data.toList) w1 := by
   unfold Trow
   rw [List.length_map, hlen, List.map_map]
   exact hrow
  have := trow_strs hT (by rw [List.length_map, hlen])
  rwa [List.map_map, show (lstr ∘ λb : ByteArray => b.data.toList) = id from rfl, List.map_id] at this
 have HM1 := hid (HM0.out.below hb)
 have HW1 := hid (HB0.out.trans (hb.mono HB0.out.size))
 have hbm : ∃ es c, w1.heap[b]? = some (.map es c) := ⟨_, _, (hb.block _ (lt_of_obj HBb.out)).trans HBb.out⟩
 have HS := hid (λW (hT : Turn b w1 W) => strs_turn hT hbm hS)
 obtain ⟨n, hnn⟩ : ∃ n, n = kvs.length := ⟨_, rfl⟩
 have HN := hid hnn
 rw [<- hnn] at hn HS hj |-
 have hni : (n : Int) <= 1000 := by omega
 have HJ := hid hj
 have HOk := hid hok
 have HBad := hid hbad
 have HNd := hid hnd
 have HVs := hid hvs
 clear hrow hS hb HKy hlen hnn hbm HM0 HB0 HBb hok hbad hnd hvs
 dsimp only
 go_wp2_with fail
 go_loopw [6, 7, 8, 9, 10, 11, 12, 17] (λ_ _ _ _ _ _ _ x17 wr => ∃ k : Nat, k <= j /\ x17 = .int .i64 k /\ Below w.heap.size w wr /\ Turn b w1 wr /\ Nmap wr b ((kvs.take k).map itm)) (λ_ _ _ _ _ _ _ x17 _ => n - (intOf x17).toNat)
 case atStart => exact ⟨0, Nat.zero_le _, rfl, HW1.out, Turn.refl _ _, HM1.out⟩
 case round =>
  clear HM1
  obtain ⟨k, hk, rfl, hW, hT, hM⟩ := hrel
  have HW := hid hW
  have HT := hid hT
  have HM := hid hM
  clear hW hT hM
  by_cases hlt : k < n
  ·have k0 : (k : Int) < (n : Int) := by omega
   have hk0 : (0 : Int) <= (k : Int) := by omega
   have hkl : k < kvs.length := by rw [<- HN.out]; exact hlt
   obtain ⟨p, hp⟩ : ∃ p, kvs[k]? = some p := ⟨_, List.getElem?_eq_getElem hkl⟩
   have hpm := List.mem_of_getElem? hp
   obtain ⟨b1, o1, rfl, nc⟩ := (HS.out wr HT.out).cell k hlt
   rw [show (keysOf kvs).getD k ByteArray.empty = p.1 by unfold keysOf; rw [List.getD, List.getElem?_map, hp]; rfl] at nc
   have HI := hid (λW => inoOf_any p.1 W)
   have HG := hid (λW (hb : Below w.heap.size w W) => mget_there (HRp.out W hb) p.1 p.2 (get_at HSo.out hpm))
   have HPa := hid (λW => parse_any p.2 W (HVs.out p hpm))
   have HTk := hid (itm_take hp)
   have HPk := hid hp
   have hokd : okp p ↔ (inoR p.1).2 = true /\ (parseR p.2.data.toList).2 = 0 := Iff.rfl
   have HIk := hid (λh => ino_ok (s := p.1) h)
   have HIt := hid (show itm p = ((inoR p.1).1, (parseR p.2.data.toList).1) from rfl)
   obtain ⟨p1, p2⟩ := p
   dsimp only at *
   obtain ⟨⟨i, isn⟩, hi⟩ : ∃ r, inoR p1 = r := ⟨_, rfl⟩
   obtain ⟨⟨⟨xk, xm, xd, xt, xe⟩, code⟩, hx⟩ : ∃ r, parseR p2.data.toList = r := ⟨_, rfl⟩
   rw [hi, hx] at hokd HIt
   rw [hi] at HI HIk
   rw [hx] at HPa
   unfold Noded at HPa
   clear hi hx hp hpm
   dsimp only at hokd HIt HI HPa HIk
   cases isn with
   | false =>
    have hjk : j = k := by
     rcases Nat.lt_or_ge k j with hl | hl
     ·exact absurd (hokd.1 (HOk.out k _ hl HPk.out)).1 (by decide)
     ·omega
    have HNe := hid (show j ≠ kvs.length by omega)
    go_wp2_with fail
    refine (HI.out wr).mono ?_
    rintro e w' ⟨rfl, rfl⟩
    dsimp only
    go_wp2_with fail
    refine (HG.out w' HW.out).mono ?_
    rintro e w3 ⟨rfl, hb3⟩
    have HW3 := hid (HW.out.trans (hb3.mono HW.out.size))
    clear nc hb3
    dsimp only
    go_wp2_with fail
    refine (HPa.out w3).mono ?_
    rintro e w4 ⟨ea, ec, rfl, hE, hb4⟩
    have HW4 := hid (HW3.out.trans (hb4.mono HW3.out.size))
    clear hE hb4
    dsimp only
    go_wp2_with fail
    go_ret2
    unfold ReadN
    rw [if_neg HNe.out]
    exact ⟨HW4.out.trans ((below_one _ _).mono HW4.out.size), rfl⟩
   | true =>
    by_cases hc : code = 0
    ·subst hc
     have hkj : k < j := by
      rcases Nat.lt_or_ge k j with hl | hl
      ·exact hl
      ·have hjk : k = j := by omega
       exact absurd (hokd.2 ⟨rfl, rfl⟩) (HBad.out _ (hjk ▸ HPk.out))
     have hib := HIk.out rfl
     have hno : Fs.node ((kvs.take k).map itm) i = none := node_out λy hy e => by
      have h1 : ((kvs.take (k + 1)).map itm).map (·.1) <+: ((kvs.take j).map itm).map (·.1) := by
       rw [List.map_map, List.map_map]
       exact (List.take_prefix_take_left (show k + 1 <= j by omega)).map _
      have h2 := h1.sublist.nodup HNd.out
      rw [HTk.out, HIt.out, List.map_append, List.nodup_append] at h2
      exact h2.2.2 y.1 (List.mem_map.2 ⟨y, hy, rfl⟩) i (by simp) e
     have hwf := ik_wf hib.1 hib.2
     have hle : ((kvs.take k).map itm).length < 100000 := by rw [List.length_map, List.length_take]; omega
     go_wp2_with fail
     refine (HI.out wr).mono ?_
     rintro e w' ⟨rfl, rfl⟩
     dsimp only
     go_wp2_with fail
     refine (HG.out w' HW.out).mono ?_
     rintro e w3 ⟨rfl, hb3⟩
     have HW3 := hid (HW.out.trans (hb3.mono HW.out.size))
     have HT3 := hid (HT.out.below hb3)
     have HM3 := hid (HM.out.below hb3)
     clear nc hb3
     dsimp only
     go_wp2_with fail
     refine (HPa.out w3).mono ?_
     rintro e w4 ⟨ea, ec, rfl, hE, hb4⟩
     have hb5 := below_one w4 (.cells #[.int .i64 xk, .int .i64 xm, .string xd, .string xt, .slice ea xe.length ec] 67)
     have HW5 := hid ((HW3.out.trans (hb4.mono HW3.out.size)).trans (hb5.mono (Nat.le_trans HW3.out.size hb4.size)))
     have HT5 := hid ((HT3.out.below hb4).below hb5)
     obtain ⟨w6, hr, hM6, ht6⟩ := ((HM3.out.below hb4).below hb5).store hle hwf hno ⟨xk, xm, xd, xt, xe⟩ (a := ea) (c := ec) (hE.below hb5)
     unfold nvx at hr
     have HM6 := hid (show Nmap w6 b ((kvs.take (k + 1)).map itm) by rw [HTk.out, HIt.out]; exact hM6)
     have HT6 := hid (HT5.out.turned ht6)
     have HW6 := hid (below_turned HW5.out ht6 (by rw [HBE.out]; exact Nat.le_refl _))
     clear hE hb4 hb5 hM6 ht6
     dsimp only at hr |-
     go_wp2_with fail
     go_roundw
     case rel => exact ⟨k + 1, by omega, by go_num, HW6.out, HT6.out, HM6.out⟩
     case measure => simp [intOf]; omega
    ·have hjk : j = k := by
      rcases Nat.lt_or_ge k j with hl | hl
      ·exact absurd (hokd.1 (HOk.out k _ hl HPk.out)).2 hc
      ·omega
     have HNe := hid (show j ≠ kvs.length by omega)
     go_wp2_with fail
     refine (HI.out wr).mono ?_
     rintro e w' ⟨rfl, rfl⟩
     dsimp only
     go_wp2_with fail
     refine (HG.out w' HW.out).mono ?_
     rintro e w3 ⟨rfl, hb3⟩
     have HW3 := hid (HW.out.trans (hb3.mono HW.out.size))
     clear nc hb3
     dsimp only
     go_wp2_with fail
     refine (HPa.out w3).mono ?_
     rintro e w4 ⟨ea, ec, rfl, hE, hb4⟩
     have HW4 := hid (HW3.out.trans (hb4.mono HW3.out.size))
     clear hE hb4
     dsimp only
     go_wp2_with fail
     go_ret2
     unfold ReadN
     rw [if_neg HNe.out]
     exact ⟨HW4.out.trans ((below_one _ _).mono HW4.out.size), rfl⟩
  ·obtain rfl : k = j := by omega
   have hjn : k = n := by omega
   have HE := hid (show k = kvs.length by rw [<- HN.out]; exact hjn)
   have hge : ¬ ((k : Int) < (n : Int)) := by omega
   go_wp2_with fail
   go_ret2
   unfold ReadN
   rw [if_pos HN.out]
   exact ⟨HW.out, b, rfl, by have := HM.out; rwa [List.take_of_length_le (by rw [HE.out]; exact Nat.le_refl _)] at this⟩
end Go.Proofs.YthbajmlmjjfgpaaGreatDoor
namespace Go.Proofs
open Go.Shelf
def Tryz.keys109_ren : Go.Shelf.Ren := ⟨λ| 7 => 181 | 10 => 203 | n => n, λ| 23 => 205 | 26 => 3 | 3 => 67 | 28 => 235 | 0 => 0 | 27 => 234 | 33 => 152 | 4 => 4 | n => n, λ| n => n⟩
theorem Tryz.keys109 : Go.Proofs.SlLaysZI.n7 prog Tryz.keys109_ren := {
 mixed := by kernel_rfl
 f7 := ⟨Tryz.f181.name, by decide, func181.trans (congrArg some (by kernel_rfl))⟩
 f10 := ⟨Tryz.f203.name, by decide, func203.trans (congrArg some (by kernel_rfl))⟩
 t0 := underlying0
 a0 := Tryz.isAgg0
 z0 := Tryz.sizeOf0
 v0 := Tryz.zeroValue0
 t4 := underlying4
 a4 := Tryz.isAgg4
 z4 := Tryz.sizeOf4
 v4 := Tryz.zeroValue4
 t23 := underlying205
 a23 := Tryz.isAgg205
 z23 := Tryz.sizeOf205
 v23 := Tryz.zeroValue205
 t26 := underlying3
 a26 := Tryz.isAgg3
 z26 := Tryz.sizeOf3
 v26 := Tryz.zeroValue3
 t27 := underlying234
 a27 := Tryz.isAgg234
 z27 := Tryz.sizeOf234
 v27 := Tryz.zeroValue234
 t28 := underlying235
 a28 := Tryz.isAgg235
 z28 := Tryz.sizeOf235
 v28 := Tryz.zeroValue235
 t33 := underlying152
 a33 := Tryz.isAgg152
 z33 := Tryz.sizeOf152
 v33 := Tryz.zeroValue152 }
def Tryz.sorted108_ren : Go.Shelf.Ren := ⟨λ| 6 => 180 | 8 => 201 | 9 => 202 | 11 => 213 | 13 => 215 | 12 => 214 | 23 => 240 | 24 => 241 | 14 => 231 | 15 => 232 | 16 => 233 | 17 => 234 | 18 => 235 | 19 => 236 | 20 => 237 | 21 => 238 | 22 => 239 | 25 => 250 | 26 => 251 | 27 => 252 | 28 => 253 | 29 => 254 | 30 => 255 | 31 => 262 | n => n, λ| 26 => 3 | 28 => 235 | 24 => 88 | 0 => 0 | 3 => 3 | 37 => 157 | 48 => 195 | 50 => 197 | 4 => 4 | 40 => 278 | 39 => 277 | 45 => 169 | 5 => 5 | 9 => 9 | 51 => 294 | 55 => 298 | 57 => 303 | 58 => 304 | 33 => 152 | n => n, λ| n => n⟩
theorem Tryz.sorted108 : Go.Proofs.SlLaysZI.n6 prog Tryz.sorted108_ren := {
 mixed := by kernel_rfl
 f6 := ⟨Tryz.f180.name, by decide, func180.trans (congrArg some (by kernel_rfl))⟩
 f8 := ⟨Tryz.f201.name, by decide, func201.trans (congrArg some (by kernel_rfl))⟩
 f11 := ⟨Tryz.f213.name, by decide, func213.trans (congrArg some (by kernel_rfl))⟩
 t0 := underlying0
 a0 := Tryz.isAgg0
 z0 := Tryz.sizeOf0
 v0 := Tryz.zeroValue0
 t24 := underlying88
 a24 := Tryz.isAgg88
 z24 := Tryz.sizeOf88
 v24 := Tryz.zeroValue88
 t26 := underlying3
 a26 := Tryz.isAgg3
 z26 := Tryz.sizeOf3
 v26 := Tryz.zeroValue3
 t28 := underlying235
 a28 := Tryz.isAgg235
 z28 := Tryz.sizeOf235
 v28 := Tryz.zeroValue235
 i26 := by kernel_rfl }
def Tryz.sort149_ren : Go.Shelf.Ren := ⟨λ| 5 => 202 | 8 => 215 | 7 => 214 | 19 => 240 | 20 => 241 | 10 => 231 | 11 => 232 | 12 => 233 | 13 => 234 | 14 => 235 | 15 => 236 | 16 => 237 | 17 => 238 | 18 => 239 | 30 => 250 | 31 => 251 | 32 => 252 | 33 => 253 | 34 => 254 | 35 => 255 | 40 => 262 | n => n, λ| 23 => 88 | 25 => 3 | 3 => 3 | 32 => 157 | 22 => 88 | 0 => 0 | 44 => 195 | 46 => 197 | 4 => 4 | 36 => 278 | 35 => 277 | 41 => 169 | 5 => 5 | 9 => 9 | 53 => 294 | 57 => 298 | 63 => 303 | 64 => 304 | n => n, λ| n => n⟩
theorem Tryz.sort149 : Go.Proofs.SlLaysM.n5 prog Tryz.sort149_ren := {
 mixed := by kernel_rfl
 f5 := ⟨Tryz.f202.name, by decide, func202.trans (congrArg some (by kernel_rfl))⟩
 f7 := ⟨Tryz.f214.name, by decide, func214.trans (congrArg some (by kernel_rfl))⟩
 f8 := func215.trans (congrArg some (by kernel_rfl))
 f10 := ⟨Tryz.f231.name, by decide, func231.trans (congrArg some (by kernel_rfl))⟩
 f11 := ⟨Tryz.f232.name, by decide, func232.trans (congrArg some (by kernel_rfl))⟩
 f12 := ⟨Tryz.f233.name, by decide, func233.trans (congrArg some (by kernel_rfl))⟩
 f13 := ⟨Tryz.f234.name, by decide, func234.trans (congrArg some (by kernel_rfl))⟩
 f14 := ⟨Tryz.f235.name, by decide, func235.trans (congrArg some (by kernel_rfl))⟩
 f15 := ⟨Tryz.f236.name, by decide, func236.trans (congrArg some (by kernel_rfl))⟩
 f16 := ⟨Tryz.f237.name, by decide, func237.trans (congrArg some (by kernel_rfl))⟩
 f17 := ⟨Tryz.f238.name, by decide, func238.trans (congrArg some (by kernel_rfl))⟩
 f18 := ⟨Tryz.f239.name, by decide, func239.trans (congrArg some (by kernel_rfl))⟩
 f19 := func240.trans (congrArg some (by kernel_rfl))
 f20 := func241.trans (congrArg some (by kernel_rfl))
 f30 := ⟨Tryz.f250.name, by decide, func250.trans (congrArg some (by kernel_rfl))⟩
 f31 := func251.trans (congrArg some (by kernel_rfl))
 f32 := func252.trans (congrArg some (by kernel_rfl))
 f33 := ⟨Tryz.f253.name, by decide, func253.trans (congrArg some (by kernel_rfl))⟩
 f34 := ⟨Tryz.f254.name, by decide, func254.trans (congrArg some (by kernel_rfl))⟩
 f35 := ⟨Tryz.f255.name, by decide, func255.trans (congrArg some (by kernel_rfl))⟩
 f40 := ⟨Tryz.f262.name, by decide, func262.trans (congrArg some (by kernel_rfl))⟩
 t0 := underlying0
 a0 := Tryz.isAgg0
 z0 := Tryz.sizeOf0
 v0 := Tryz.zeroValue0
 t3 := underlying3
 a3 := Tryz.isAgg3
 z3 := Tryz.sizeOf3
 v3 := Tryz.zeroValue3
 t4 := underlying4
 a4 := Tryz.isAgg4
 z4 := Tryz.sizeOf4
 v4 := Tryz.zeroValue4
 t5 := underlying5
 a5 := Tryz.isAgg5
 z5 := Tryz.sizeOf5
 v5 := Tryz.zeroValue5
 t9 := underlying9
 a9 := Tryz.isAgg9
 z9 := Tryz.sizeOf9
 v9 := Tryz.zeroValue9
 t22 := underlying88
 a22 := Tryz.isAgg88
 z22 := Tryz.sizeOf88
 v22 := Tryz.zeroValue88
 t23 := underlying88
 a23 := Tryz.isAgg88
 z23 := Tryz.sizeOf88
 v23 := Tryz.zeroValue88
 t25 := underlying3
 a25 := Tryz.isAgg3
 z25 := Tryz.sizeOf3
 v25 := Tryz.zeroValue3
 t32 := underlying157
 a32 := Tryz.isAgg157
 z32 := Tryz.sizeOf157
 v32 := Tryz.zeroValue157
 t35 := underlying277
 a35 := Tryz.isAgg277
 z35 := Tryz.sizeOf277
 v35 := Tryz.zeroValue277
 t36 := underlying278
 a36 := Tryz.isAgg278
 z36 := Tryz.sizeOf278
 v36 := Tryz.zeroValue278
 t41 := underlying169
 a41 := Tryz.isAgg169
 z41 := Tryz.sizeOf169
 v41 := Tryz.zeroValue169
 t44 := underlying195
 a44 := Tryz.isAgg195
 z44 := Tryz.sizeOf195
 v44 := Tryz.zeroValue195
 t46 := underlying197
 a46 := Tryz.isAgg197
 z46 := Tryz.sizeOf197
 v46 := Tryz.zeroValue197
 t53 := underlying294
 a53 := Tryz.isAgg294
 z53 := Tryz.sizeOf294
 v53 := Tryz.zeroValue294
 t57 := underlying298
 a57 := Tryz.isAgg298
 z57 := Tryz.sizeOf298
 v57 := Tryz.zeroValue298
 t63 := underlying303
 a63 := Tryz.isAgg303
 z63 := Tryz.sizeOf303
 v63 := Tryz.zeroValue303
 t64 := underlying304
 a64 := Tryz.isAgg304
 z64 := Tryz.sizeOf304
 v64 := Tryz.zeroValue304 }
end Go.Proofs
namespace Go.Proofs.YthbajmlmjjfgpaaGreatDoor
open Go.RowKit Go.Less Go.Maps Go.Sort Go.Shelf
open T8 (pv Dg Rp Pr)
attribute [local go_sem 9000] sem_eql sem_neq
theorem sorts108 (m : Nat) : AnyZI.SortsIn prog Tryz.sorted108_ren Fence.wide m :=
 ⟨λblk off cap ss W hH hblk hsz => callsIn_wide.2 (AnyM.slices_Sort_int Tryz.sort149 blk off cap ss W hH hblk hsz),
  λp cap W => callsIn_wide.2 (AnyM.slices_Sort_int_none Tryz.sort149 p cap W)⟩
theorem keys109_any (mb : Option Nat) (W : World) : Calls prog 181 #[.map mb] W λe w' => e = .returned (.func (.func 203) #[] #[.pointer (some ⟨W.heap.size, 0, none⟩)]) /\ w' = W.alloc (.cells #[.map mb] 205) :=
 (callsIn_wide (n := 5)).1 (AnyZI.keys_in Tryz.keys109 Fence.wide 5 trivial rfl mb W)
theorem rising_nodup {l : List Fs.Item} (h : Fs.Rising l) : (inosL l).Nodup := by
 unfold inosL
 exact List.pairwise_map.2 (h.imp λ{x y} h e => by omega)
theorem node_some_iff {l : List Fs.Item} {i : Int} : (Fs.node l i).isSome = true ↔ i ∈ inosL l := by
 constructor
 ·intro h
  obtain ⟨x, hx⟩ := Option.isSome_iff_exists.1 h
  exact List.mem_map.2 ⟨_, Fs.node_mem hx, rfl⟩
 ·intro h
  cases hn : Fs.node l i with
  | some x => rfl
  | none =>
   obtain ⟨y, hy, e⟩ := List.mem_map.1 h
   exact absurd e (Fs.node_none.1 hn y hy)
theorem nmap_perm {w : World} {b : Nat} {l : List Fs.Item} {D : DataW Value} {f : Int -> Option Value} {n : Nat} (ho : w.ownsMap prog 3 held b n D) (h2 : ∀ a, (ik a).wf = true -> Maps.has D (ik a) = (f a).isSome) (hf : ∀ i, (f i).isSome = (Fs.node l i).isSome) (hr : Fs.Rising l) (hwf : ∀ y ∈ l, (ik y.1).wf = true) : (inosL l).Perm (intKeys D) := by
 have hw := intKeys_wf ho underlying3
 obtain ⟨es, rfl, hp⟩ := ho.tidy law3
 have hko := ho.keysOf
 obtain ⟨es', he, hko⟩ := hko
 injection he with he
 subst he
 have hk : ∀ p ∈ es, ∃ x, p.1 = .int .i64 x := λp hp => by
  obtain ⟨v, hv⟩ := hko p hp
  obtain ⟨y, _, hy, _⟩ := Maps.keyOf_i64 underlying3 hv
  exact ⟨y, hy⟩
 refine perm_intKeys hp hk (rising_nodup hr) λx => ?_
 constructor
 ·intro hx
  obtain ⟨y, hy, rfl⟩ := List.mem_map.1 hx
  rw [h2 _ (hwf y hy), hf]
  exact node_some_iff.2 hx
 ·intro hx
  have hxk : x ∈ intKeys (.map es) := by
   rw [has_eq, List.any_eq_true] at hx
   obtain ⟨p, hp', hs⟩ := hx
   obtain ⟨a, ha⟩ := hk p hp'
   refine List.mem_map.2 ⟨p, hp', ?_⟩
   rw [ha] at hs |-
   simp [Lit.sameKey] at hs
   exact hs
  have := h2 x (hw x hxk)
  rw [this, hf] at hx
  exact node_some_iff.1 hx
theorem sort_inos {l : List Fs.Item} (hr : Fs.Rising l) {ss : List Int} (hp : ss.Perm (inosL l)) : ss.mergeSort (λx y => decide (x <= y)) = inosL l := by
 refine List.Perm.eq_of_pairwise (le := λx y => x <= y) (λa b _ _ h1 h2 => Int.le_antisymm h1 h2) ?_ ?_ ((List.mergeSort_perm _ _).trans hp)
 ·have h := List.pairwise_mergeSort (le := λx y : Int => decide (x <= y)) (λa b c h1 h2 => by simp only [decide_eq_true_eq] at h1 h2 |-; omega) (λa b => by simp only [Bool.or_eq_true, decide_eq_true_eq]; omega) ss
  exact h.imp λ{x y} h => by simpa using h
 ·unfold inosL
  exact List.pairwise_map.2 (hr.imp λ{x y} h => by omega)
theorem sorted_any {w : World} {b : Nat} {l : List Fs.Item} (h : Nmap w b l) (hr : Fs.Rising l) (hwf : ∀ y ∈ l, (ik y.1).wf = true) (hl : l.length <= 1000) :
  Calls prog 180 #[.func (.func 203) #[] #[.pointer (some ⟨w.heap.size, 0, none⟩)]] (w.alloc (.cells #[.map (some b)] 205)) λe w' => ∃ ao cap, e = .returned (.slice ao l.length cap) /\ Ints ao l.length (inosL l) w' /\ Below (w.alloc (.cells #[.map (some b)] 205)).heap.size (w.alloc (.cells #[.map (some b)] 205)) w' := by
 obtain ⟨⟨f, ⟨D0, hown, hsz, h2⟩, hf⟩⟩ := h
 have hbl := hown.lt
 have hfs : ∀ i, (f i).isSome = (Fs.node l i).isSome := λi => by
  have h3 := hf i
  cases hn : Fs.node l i with
  | none => rw [hn] at h3; simp only at h3; rw [h3]; rfl
  | some x => rw [hn] at h3; obtain ⟨a, c, e, _⟩ := h3; rw [e]; rfl
 have hperm := nmap_perm hown (λa ha => (h2 a ha).2) hfs hr hwf
 have hmax : Maps.size D0 <= maxLen := by rw [hsz]; unfold maxLen; omega
 have hbytes : Maps.size D0 * 8 <= 140737488355328 := by rw [hsz]; omega
 have hseq : SeqGives Fence.wide 2 prog 203 #[.pointer (some ⟨w.heap.size, 0, none⟩)] encZ (λss => ss.Perm (intKeys D0)) (Maps.size D0) (w.alloc (.cells #[.map (some b)] 205)) :=
  AnyZI.keys_gives (ρ := Tryz.keys109_ren) { Tryz.keys109 with } Fence.wide _ trivial rfl (by omega) w.heap.size b l.length D0 _ (by simp) (by simp) (by
   obtain ⟨es, clock, hb, Ft, hs, hD⟩ := hown
   exact ⟨es, clock, (Below.heap_alloc _ _ b hbl).trans hb, Ft, hs, hD⟩)
 have cS := AnyZI.sorted_in Tryz.sorted108 Fence.wide 5 trivial trivial trivial trivial rfl (by omega) (sorts108 _) (enters_of func202 (by kernel_rfl) rfl) 203 #[.pointer (some ⟨w.heap.size, 0, none⟩)] trivial (enters_of func203 (by kernel_rfl) rfl) _ _ hmax hbytes _ hseq
 change CallsIn _ _ prog 180 _ _ _ at cS
 refine (callsIn_wide.1 cS).mono ?_
 rintro e w' ⟨v, ss, rfl, hS, hrow, hnil, hb⟩
 have hP := hS.trans hperm.symm
 rw [sort_inos hr hP, hP.length_eq] at hrow
 have hlen : (inosL l).length = l.length := by unfold inosL; rw [List.length_map]
 obtain ⟨ao, cap, rfl⟩ := owns_form hrow
 rw [hlen] at hrow |-
 exact ⟨ao, cap, rfl, irow_ints (show Irow _ (.slice ao l.length cap) (inosL l) w' by unfold Irow; rw [hlen]; exact hrow) hlen.symm, hb⟩
end Go.Proofs.YthbajmlmjjfgpaaGreatDoor
namespace Go.Proofs.YthbajmlmjjfgpaaGreatDoor
open Go.RowKit Go.Less Go.Maps
open T8 (pv Dg Rp Pr)
attribute [local go_sem 9000] sem_eql sem_neq
def mayB (i k t : Int) : Bool := if i = 1 then decide (t = 0) else if k = 2 then decide (t = 1) else decide (0 < t)
theorem mayBe_any (i k t : Int) (w : World) : Calls prog 183 #[.int .i64 i, .int .i64 k, .int .i64 t] w λe w' => e = .returned (.bool (mayB i k t)) /\ w' = w := by
 by_cases hi : i = 1
 ·subst hi
  have HR := hid (show mayB 1 k t = decide (t = 0) from rfl)
  go_enter func183, ntmps183
  go_wp2_with fail
  go_ret
  rw [HR.out]
  exact ⟨rfl, rfl⟩
 ·by_cases hk : k = 2
  ·subst hk
   have HR := hid (show mayB i 2 t = decide (t = 1) by unfold mayB; rw [if_neg hi, if_pos rfl])
   go_enter func183, ntmps183
   go_wp2_with fail
   go_ret
   rw [HR.out]
   exact ⟨rfl, rfl⟩
  ·have HR := hid (show mayB i k t = decide (0 < t) by unfold mayB; rw [if_neg hi, if_neg hk])
   go_enter func183, ntmps183
   go_wp2_with fail
   go_ret
   rw [HR.out]
   exact ⟨rfl, rfl⟩
theorem cnt_more (E : List En) (e : En) (i : Int) : cnt (E ++ [e]) i = if i = e.2 then cnt E i + 1 else cnt E i := by
 unfold cnt
 rw [List.countP_append]
 by_cases h : i = e.2
 ·rw [if_pos h]; simp [h]
 ·rw [if_neg h]; simp [Ne.symm h]
def Cmap (w : World) (b : Nat) (E : List En) : Prop := ∃ n f, Mz w b n f /\ n <= E.length /\ ∀ i, f i = if cnt E i = 0 then none else some (.int .i64 (cnt E i : Nat))
theorem Cmap.lt {w : World} {b : Nat} {E : List En} (h : Cmap w b E) : b < w.heap.size := by obtain ⟨n, f, h1, _⟩ := h; exact h1.lt
theorem Cmap.below {w w' : World} {b : Nat} {E : List En} (h : Cmap w b E) (hb : Below w.heap.size w w') : Cmap w' b E := by
 obtain ⟨n, f, h1, h2⟩ := h; exact ⟨n, f, h1.below hb, h2⟩
theorem Cmap.made (w : World) : Cmap (w.alloc (.map #[] 0)) w.heap.size [] := ⟨0, _, Mz.made w, Nat.le_refl _, λ_ => rfl⟩
theorem Cmap.look {w : World} {b : Nat} {E : List En} (h : Cmap w b E) {i : Int} (hi : (ik i).wf = true) : (Instr.lookup 237 (.map (some b)) (.int .i64 i) false).run prog w = .ok (.int .i64 (cnt E i : Nat)) w := by
 obtain ⟨n, f, h1, _, h2⟩ := h
 have := h1.mp.look underlying237 (z := .int .i64 0) (by kernel_rfl) hi
 rw [h2 i] at this
 by_cases h0 : cnt E i = 0
 ·rw [if_pos h0] at this; rw [this, h0]; rfl
 ·rw [if_neg h0] at this; exact this
theorem Cmap.store {w : World} {b : Nat} {E : List En} (h : Cmap w b E) (hE : E.length < 1000000) (e : En) (hi : (ik e.2).wf = true) :
  ∃ w', (Instr.mapUpdate 237 (.map (some b)) (.int .i64 e.2) (.int .i64 ((cnt E e.2 : Nat) + 1))).run prog w = .ok () w' /\ Cmap w' b (E ++ [e]) /\ w.mapTurned w' b := by
 obtain ⟨n, f, h1, hn, h2⟩ := h
 obtain ⟨w', hr, hM, ht⟩ := h1.store underlying237 (by unfold maxLen; omega) hi (.int .i64 ((cnt E e.2 : Nat) + 1))
 refine ⟨w', hr, ⟨_, _, hM, ?_, λi => ?_⟩, ht⟩
 ·rw [List.length_append, List.length_singleton]; split <;> omega
 ·unfold upd
  rw [cnt_more]
  by_cases hie : i = e.2
  ·subst hie
   rw [if_pos rfl, if_pos rfl, if_neg (by omega)]
   rfl
  ·rw [if_neg hie, if_neg hie]; exact h2 i
theorem field43_0 (k m : Int) (d t : ByteArray) (a : Option Addr) (n c : Nat) (w : World) : (Instr.field 67 (.agg #[.int .i64 k, .int .i64 m, .string d, .string t, .slice a n c]) 0).run prog w = .ok (.int .i64 k) w := by kernel_rfl
theorem field43_4 (k m : Int) (d t : ByteArray) (a : Option Addr) (n c : Nat) (w : World) : (Instr.field 67 (.agg #[.int .i64 k, .int .i64 m, .string d, .string t, .slice a n c]) 4).run prog w = .ok (.slice a n c) w := by kernel_rfl
theorem c110_any (p1 p4 mb nb : Nat) (l : List Fs.Item) (E : List En) (i : Int) (w : World) (h1 : w.cell? ⟨p1, 0, none⟩ = some (.map (some mb))) (h4 : w.cell? ⟨p4, 0, none⟩ = some (.map (some nb))) (hM : Nmap w mb l) (hC : Cmap w nb E) (hi : (ik i).wf = true) :
  Calls prog 182 #[.int .i64 i, .pointer (some ⟨p1, 0, none⟩), .pointer (some ⟨p4, 0, none⟩)] w λe w' => e = .returned (.bool (!mayB i (Fs.nodeD l i).kind (cnt E i : Nat))) /\ Below w.heap.size w w' := by
 obtain ⟨a, c, hl, _, _⟩ := hM.look hi
 have hc := hC.look hi
 have HMa := hid (λW => mayBe_any i (Fs.nodeD l i).kind (cnt E i : Nat) W)
 clear hM hC
 generalize Fs.nodeD l i = x at *
 obtain ⟨xk, xm, xd, xt, xe⟩ := x
 unfold nvx nv at hl
 dsimp only at hl HMa |-
 generalize (cnt E i : Int) = t at *
 generalize mayB i xk t = r at *
 have hfd := field43_0
 go_enter func182, ntmps182
 go_wp2_with fail
 refine (HMa.out w).mono ?_
 rintro e w' ⟨rfl, rfl⟩
 dsimp only
 go_wp2_with fail
 go_ret
 exact ⟨rfl, Below.refl _ _⟩
theorem turn_cell {g : Nat} {w W : World} (h : Turn g w W) {k o : Nat} {v : Value} (hc : w.cell? ⟨k, o, none⟩ = some v) (hk : k ≠ g) : W.cell? ⟨k, o, none⟩ = some v :=
 (World.cell?_of_block (h.block k (block_lt_of_cell hc) hk)).trans hc
theorem not_map {w : World} {k o : Nat} {v : Value} (hc : w.cell? ⟨k, o, none⟩ = some v) {es : Array MapEntry} {c : Nat} (hm : w.heap[k]? = some (.map es c)) : False := by
 unfold World.cell? at hc
 rw [hm] at hc
 cases hc
theorem turn_ints {b : Nat} {w W : World} (h : Turn b w W) (hm : ∃ es c, w.heap[b]? = some (.map es c)) {a : Option Addr} {n : Nat} {l : List Int} (hs : Ints a n l w) : Ints a n l W := by
 obtain ⟨es, c, hm⟩ := hm
 refine ⟨hs.count, λi hi => ?_⟩
 obtain ⟨k, off, rfl, hc⟩ := hs.cell i hi
 have hk : k ≠ b := by rintro rfl; exact not_map hc hm
 exact ⟨k, off, rfl, turn_cell h hc hk⟩
theorem turn_ents {b : Nat} {w W : World} (h : Turn b w W) (hm : ∃ es c, w.heap[b]? = some (.map es c)) {a : Option Addr} {n : Nat} {l : List En} (hs : Ents a n l w) : Ents a n l W := by
 obtain ⟨es, c, hm⟩ := hm
 refine ⟨hs.count, λi hi => ?_⟩
 obtain ⟨k, off, rfl, hc, hd⟩ := hs.cell i hi
 have hk : k ≠ b := by rintro rfl; exact not_map hc hm
 exact ⟨k, off, rfl, turn_cell h hc hk, turn_cell h hd hk⟩
theorem Cmap.isMap {w : World} {b : Nat} {E : List En} (h : Cmap w b E) : ∃ es c, w.heap[b]? = some (.map es c) := by
 obtain ⟨n, f, ⟨D, ⟨es, c, hb, _⟩, _⟩, _⟩ := h; exact ⟨es, c, hb⟩
def allE (l : List Fs.Item) : List En := (l.map λy => y.2.ents).flatten
theorem allE_take {l : List Fs.Item} {k : Nat} {y : Fs.Item} (h : l[k]? = some y) : allE (l.take (k + 1)) = allE (l.take k) ++ y.2.ents := by
 unfold allE
 rw [take_succ_some h, List.map_append, List.flatten_append]
 simp
theorem allE_mem {l : List Fs.Item} {y : Fs.Item} (hy : y ∈ l) {e : En} (he : e ∈ y.2.ents) : e ∈ allE l := List.mem_flatten.2 ⟨_, List.mem_map.2 ⟨y, hy, rfl⟩, he⟩
theorem allE_len {l : List Fs.Item} (h : ∀ y ∈ l, y.2.ents.length <= 64) : (allE l).length <= 64 * l.length := by
 induction l with
 | nil => simp [allE]
 | cons y l ih =>
  have h1 := h y List.mem_cons_self
  have h2 := ih λz hz => h z (List.mem_cons_of_mem _ hz)
  have e : allE (y :: l) = y.2.ents ++ allE l := rfl
  rw [e, List.length_append, List.length_cons]
  omega
def areB (l : List Fs.Item) : Bool := (allE l).all (λe => (Fs.node l e.2).isSome) && (inosL l).all λi => mayB i (Fs.nodeD l i).kind (cnt (allE l) i : Nat)
theorem areB_false {l : List Fs.Item} {e : En} (he : e ∈ allE l) (hn : (Fs.node l e.2).isSome = false) : areB l = false := by
 unfold areB
 rw [List.all_eq_false.2 ⟨e, he, by rw [hn]; decide⟩, Bool.false_and]
theorem areB_all {l : List Fs.Item} (h : ∀ e ∈ allE l, (Fs.node l e.2).isSome = true) : areB l = !(inosL l).any λi => !mayB i (Fs.nodeD l i).kind (cnt (allE l) i : Nat) := by
 unfold areB
 rw [List.all_eq_true.2 h, Bool.true_and, List.not_any_eq_all_not]
 congr 1
 funext i
 rw [Bool.not_not]
structure Sd (w W3 : World) (nb : Nat) (E : List En) (wr : World) : Prop where
 below : Below w.heap.size w wr
 turn : Turn nb W3 wr
 cm : Cmap wr nb E
theorem Sd.kept {w W3 wr wr' : World} {nb : Nat} {E : List En} (h : Sd w W3 nb E wr) (hb : Below wr.heap.size wr wr') : Sd w W3 nb E wr' :=
 ⟨h.below.trans (hb.mono h.below.size), h.turn.below hb, h.cm.below hb⟩
theorem Sd.store {w W3 wr : World} {nb : Nat} {E : List En} (h : Sd w W3 nb E wr) (hnb : w.heap.size <= nb) (hE : E.length < 1000000) (e : En) (hi : (ik e.2).wf = true) :
  ∃ w', (Instr.mapUpdate 237 (.map (some nb)) (.int .i64 e.2) (.int .i64 ((cnt E e.2 : Nat) + 1))).run prog wr = .ok () w' /\ Sd w W3 nb (E ++ [e]) w' /\ Turn nb wr w' := by
 obtain ⟨w', hr, hC, ht⟩ := h.cm.store hE e hi
 exact ⟨w', hr, ⟨below_turned h.below ht hnb, h.turn.turned ht, hC⟩, (Turn.refl nb wr).turned ht⟩
theorem areNamed_any (mb : Nat) (l : List Fs.Item) (w : World) (hM : Nmap w mb l) (hr : Fs.Rising l) (hwf : ∀ y ∈ l, (ik y.1).wf = true) (hl : l.length <= 1000) (hel : ∀ y ∈ l, y.2.ents.length <= 64) (hew : ∀ e ∈ allE l, (ik e.2).wf = true) :
  Calls prog 149 #[.map (some mb)] w λe w' => e = .returned (.bool (areB l)) /\ Below w.heap.size w w' := by
 have hmm := @run_makeMap prog
 have hfd := field43_4
 have HNm := hid (λW (hb : Below w.heap.size w W) => hM.below hb)
 have hB0 := below_one w (.cells #[.map (some mb)] 205)
 have HSo := hid (sorted_any (hM.below hB0) hr hwf hl)
 have HKe := hid (λW => keys109_any (some mb) W)
 have hc0 : (w.alloc (.cells #[.map (some mb)] 205)).cell? ⟨w.heap.size, 0, none⟩ = some (.map (some mb)) := World.cell?_alloc_new _ _ _ _
 have HB0 := hid hB0
 have HC0 := hid hc0
 have HRi := hid hr
 have HEl := hid hel
 have HEw := hid hew
 have HWf := hid hwf
 have hall := allE_len hel
 clear hM hr hwf hel hew hB0
 go_enter func149, ntmps149
 go_wp2_with fail
 generalize w.alloc (.cells #[.map (some mb)] 205) = W0 at HB0 HC0 HSo hc0 |-
 refine (HKe.out W0).mono ?_
 rintro e w1 ⟨rfl, rfl⟩
 dsimp only
 clear hc0
 go_wp2_with fail
 refine HSo.out.mono ?_
 rintro e w2 ⟨ao, cap, rfl, hI, hb2⟩
 have hb02 : Below W0.heap.size W0 w2 := (below_one W0 (.cells #[.map (some mb)] 205)).trans (hb2.mono (below_one W0 (.cells #[.map (some mb)] 205)).size)
 have hw2 : Below w.heap.size w w2 := HB0.out.trans (hb02.mono HB0.out.size)
 have hbm := below_one w2 (.map #[] 0)
 have hbx := below_one (w2.alloc (.map #[] 0)) (.cells #[.map (some w2.heap.size)] 237)
 have hmap : ((w2.alloc (.map #[] 0)).alloc (.cells #[.map (some w2.heap.size)] 237)).heap[w2.heap.size]? = some (.map #[] 0) := (hbx.block _ (by rw [size1]; omega)).trans (heap_alloc_new _ _)
 have hSd : Sd w ((w2.alloc (.map #[] 0)).alloc (.cells #[.map (some w2.heap.size)] 237)) w2.heap.size [] ((w2.alloc (.map #[] 0)).alloc (.cells #[.map (some w2.heap.size)] 237)) :=
  ⟨(hw2.trans (hbm.mono hw2.size)).trans (hbx.mono (Nat.le_trans hw2.size hbm.size)), Turn.refl _ _, (Cmap.made w2).below hbx⟩
 have hc1 : ((w2.alloc (.map #[] 0)).alloc (.cells #[.map (some w2.heap.size)] 237)).cell? ⟨w.heap.size, 0, none⟩ = some (.map (some mb)) := by
  have h1 := (hb02.cell (p := ⟨w.heap.size, 0, none⟩) (block_lt_of_cell HC0.out)).trans HC0.out
  have h2 := (hbm.cell (p := ⟨w.heap.size, 0, none⟩) (block_lt_of_cell h1)).trans h1
  exact (hbx.cell (p := ⟨w.heap.size, 0, none⟩) (block_lt_of_cell h2)).trans h2
 have hc4 : ((w2.alloc (.map #[] 0)).alloc (.cells #[.map (some w2.heap.size)] 237)).cell? ⟨w2.heap.size + 1, 0, none⟩ = some (.map (some w2.heap.size)) := by
  have h := World.cell?_alloc_new (w2.alloc (.map #[] 0)) #[.map (some w2.heap.size)] 237 0
  rw [size1] at h
  exact h
 have hI3 := hI.below (hbm.trans (hbx.mono hbm.size))
 have hne1 : w.heap.size ≠ w2.heap.size := λe => by rw [e] at hc1; exact not_map hc1 hmap
 have HTc := hid (λwr (hT : Turn w2.heap.size ((w2.alloc (.map #[] 0)).alloc (.cells #[.map (some w2.heap.size)] 237)) wr) => (⟨turn_cell hT hc1 hne1, turn_cell hT hc4 (by omega), turn_ints hT ⟨_, _, hmap⟩ hI3⟩ : wr.cell? ⟨w.heap.size, 0, none⟩ = some (.map (some mb)) /\ wr.cell? ⟨w2.heap.size + 1, 0, none⟩ = some (.map (some w2.heap.size)) /\ Ints ao l.length (inosL l) wr))
 have HS0 := hid hSd
 have HLe := hid hw2.size
 obtain ⟨n, hn⟩ : ∃ n, n = l.length := ⟨_, rfl⟩
 have HN := hid hn
 rw [<- hn] at HTc hl hall |-
 have hni : (n : Int) <= 1000 := by omega
 clear hI hb2 hb02 hw2 hbm hbx hmap hSd hc1 hc4 hI3 hne1 hn HSo HKe HB0 HC0
 dsimp only
 go_wp2_with fail
 generalize (w2.alloc (.map #[] 0)).alloc (.cells #[.map (some w2.heap.size)] 237) = W3 at HTc HS0 |-
 generalize w2.heap.size = nb at HTc HS0 HLe |-
 go_loopw [6, 8, 9, 10, 18] (λ_ _ _ _ x18 wr => ∃ k : Nat, k <= n /\ x18 = .int .i64 k /\ Sd w W3 nb (allE (l.take k)) wr /\ Hid (∀ e ∈ allE (l.take k), (Fs.node l e.2).isSome = true)) (λ_ _ _ _ x18 _ => n - (intOf x18).toNat)
 case atStart => exact ⟨0, Nat.zero_le _, rfl, HS0.out, λe he => by cases he⟩
 case round =>
  clear HS0
  obtain ⟨k, hk, rfl, hS, HA⟩ := hrel
  have HS := hid hS
  clear hS
  by_cases hlt : k < n
  ·have k0 : (k : Int) < (n : Int) := by omega
   have hk0 : (0 : Int) <= (k : Int) := by omega
   have hkl : k < l.length := by rw [<- HN.out]; exact hlt
   obtain ⟨y, hy⟩ : ∃ y, l[k]? = some y := ⟨_, List.getElem?_eq_getElem hkl⟩
   have hym := List.mem_of_getElem? hy
   obtain ⟨c1, c4, hI⟩ := HTc.out wr HS.out.turn
   obtain ⟨b1, o1, rfl, nc⟩ := hI.cell k hlt
   rw [show (inosL l).getD k 0 = y.1 by unfold inosL; rw [List.getD, List.getElem?_map, hy]; rfl] at nc
   have hnd : Fs.nodeD l y.1 = y.2 := Fs.nodeD_of (Fs.node_at HRi.out hym)
   obtain ⟨a, c, hlk, -, hE⟩ := (HNm.out wr HS.out.below).look (HWf.out y hym)
   rw [hnd] at hlk hE
   have HTk := hid (allE_take hy)
   have HEm := hid (λe he => allE_mem hym (e := e) he)
   have hyl := HEl.out y hym
   obtain ⟨i, xk, xm, xd, xt, xe⟩ := y
   unfold nvx nv at hlk
   dsimp only at nc hlk hE HTk HEm hyl
   have HE := hid (λW (hT : Turn nb wr W) => turn_ents hT HS.out.cm.isMap hE)
   clear hI hnd hE hy hym
   go_wp2_with fail
   go_loopw [8, 9, 10, 27] (λ_ _ _ x27 wq => ∃ q : Nat, q <= xe.length /\ x27 = .int .i64 q /\ Sd w W3 nb (allE (l.take k) ++ xe.take q) wq /\ Turn nb wr wq /\ Hid (∀ e ∈ allE (l.take k) ++ xe.take q, (Fs.node l e.2).isSome = true)) (λ_ _ _ x27 _ => xe.length - (intOf x27).toNat)
   case atStart => exact ⟨0, Nat.zero_le _, rfl, by rw [List.take_zero, List.append_nil]; exact HS.out, Turn.refl _ _, by rw [List.take_zero, List.append_nil]; exact HA⟩
   case round =>
    clear nc c1 c4 hlk
    obtain ⟨q, hq, rfl, hS2, hT2, HA2⟩ := hrel
    have HS2 := hid hS2
    have HT2 := hid hT2
    clear hS2 hT2
    by_cases hlt2 : q < xe.length
    ·have q0 : (q : Int) < (xe.length : Int) := by omega
     have hq0 : (0 : Int) <= (q : Int) := by omega
     have hE := HE.out wr HT2.out
     obtain ⟨b2, o2, rfl, -, -⟩ := hE.cell q hlt2
     obtain ⟨e, he, d0, d1⟩ := ents_at hE hlt2
     have hem := HEm.out e (List.mem_of_getElem? he)
     have hb85 := below_one wr (.cells #[.string e.1, .int .i64 e.2] 146)
     have HS5 := hid (HS2.out.kept hb85)
     obtain ⟨c1, c4, -⟩ := HTc.out _ HS5.out.turn
     obtain ⟨a2, cc2, -, hlk2, -⟩ := (HNm.out _ HS5.out.below).look (HEw.out e hem)
     have HAf := hid (λhn => areB_false hem hn)
     have HQ := hid (take_succ_some he)
     have HWe := hid (HEw.out e hem)
     obtain ⟨z, hz⟩ : ∃ z, Fs.nodeD l e.2 = z := ⟨_, rfl⟩
     rw [hz] at hlk2
     obtain ⟨zk, zm, zd, zt, ze⟩ := z
     unfold nvx nv at hlk2
     dsimp only at hlk2
     have hlenE : (allE (l.take k) ++ xe.take q).length < 1000000 := by
      have h1 := allE_len (l := l.take k) λy hy => HEl.out y (List.mem_of_mem_take hy)
      rw [List.length_take] at h1
      rw [List.length_append, List.length_take]
      omega
     clear hE he hem hz
     cases hth : (Fs.node l e.2).isSome with
     | false =>
      rw [hth] at hlk2
      have HR := hid (HAf.out hth)
      clear HAf HQ hlenE hb85
      go_wp2_with fail
      go_ret
      rw [HR.out]
      exact ⟨rfl, HS5.out.below.trans ((below_one _ _).mono HS5.out.below.size)⟩
     | true =>
      rw [hth] at hlk2
      have hb43 := below_one (wr.alloc (.cells #[.string e.1, .int .i64 e.2] 146)) (.cells #[.int .i64 zk, .int .i64 zm, .string zd, .string zt, .slice a2 ze.length cc2] 67)
      have hS6 := HS5.out.kept hb43
      obtain ⟨-, c4', -⟩ := HTc.out _ hS6.turn
      have hck := hS6.cm.look HWe.out
      have hwr : IntKind.i64.wrap (((cnt (allE (l.take k) ++ xe.take q) e.2 : Nat) : Int) + 1) = ((cnt (allE (l.take k) ++ xe.take q) e.2 : Nat) : Int) + 1 := IntWalk.i64_in _ (by have := cnt_le (allE (l.take k) ++ xe.take q) e.2; omega)
      obtain ⟨w9, hr9, hS9, hT9⟩ := hS6.store HLe.out hlenE e HWe.out
      have HS9 := hid hS9
      have HT9 := hid (((HT2.out.below hb85).below hb43).trans hT9)
      have HA9 := hid (show ∀ e' ∈ allE (l.take k) ++ xe.take (q + 1), (Fs.node l e'.2).isSome = true from λe' he' => by
       rw [HQ.out, <- List.append_assoc] at he'
       rcases List.mem_append.1 he' with h | h
       ·exact HA2.out e' h
       ·rw [List.mem_singleton.1 h]; exact hth)
      generalize (cnt (allE (l.take k) ++ xe.take q) e.2 : Nat) = N at hck hwr hr9
      clear hb43 hb85 hS6 hS9 hT9 hlenE HAf hth
      go_wp2_with fail
      go_roundw
      case rel => exact ⟨q + 1, by omega, by go_num, by rw [HQ.out, <- List.append_assoc]; exact HS9.out, HT9.out, HA9⟩
      case measure => simp [intOf]; omega
    ·obtain rfl : q = xe.length := by omega
     have hge : ¬ ((xe.length : Int) < (xe.length : Int)) := by omega
     rw [List.take_length, <- HTk.out] at HS2 HA2
     go_wp2_with fail
     go_roundw
     case rel => exact ⟨k + 1, by omega, by go_num, HS2.out, HA2⟩
     case measure => simp [intOf]; omega
  ·obtain rfl : k = n := by omega
   have hge : ¬ ((k : Int) < (k : Int)) := by omega
   have hA := HA.out
   rw [HN.out, List.take_length] at hA
   have HR := hid (areB_all hA)
   have hC : Cmap wr nb (allE l) := by have := HS.out.cm; rwa [HN.out, List.take_length] at this
   obtain ⟨c1, c4, hI⟩ := HTc.out wr HS.out.turn
   have eg : ∀ args w, (callFunc 182 args).run prog w = .ok (.enter 182 args) w := enters_of func182 (by kernel_rfl) rfl
   have H9 := hid (cofI_any 182 #[.pointer (some ⟨w.heap.size, 0, none⟩), .pointer (some ⟨nb + 1, 0, none⟩)] eg (λi => !mayB i (Fs.nodeD l i).kind (cnt (allE l) i : Nat)) ao k cap (inosL l) wr hI (by omega) (λx hx W hW => by
    show Calls prog 182 #[.int .i64 x, .pointer (some ⟨w.heap.size, 0, none⟩), .pointer (some ⟨nb + 1, 0, none⟩)] W _
    obtain ⟨y, hy, rfl⟩ := List.mem_map.1 hx
    exact c110_any w.heap.size (nb + 1) mb nb l (allE l) y.1 W ((hW.cell (p := ⟨w.heap.size, 0, none⟩) (block_lt_of_cell c1)).trans c1) ((hW.cell (p := ⟨nb + 1, 0, none⟩) (block_lt_of_cell c4)).trans c4) (HNm.out W (HS.out.below.trans (hW.mono HS.out.below.size))) (hC.below hW) (HWf.out y hy)))
   generalize (inosL l).any (λi => !mayB i (Fs.nodeD l i).kind (cnt (allE l) i : Nat)) = r at *
   clear hA hC hI c1 c4
   go_wp2_with fail
   refine H9.out.mono ?_
   rintro e w9 ⟨rfl, hb9⟩
   have HB9 := hid (HS.out.below.trans (hb9.mono HS.out.below.size))
   clear hb9
   dsimp only
   go_wp2_with fail
   go_ret
   rw [HR.out]
   exact ⟨rfl, HB9.out⟩
end Go.Proofs.YthbajmlmjjfgpaaGreatDoor
