/- Layer 11, a part of the proofs: no statement of its own. -/
import Derived.Shelf.LaysM
import Derived.Shelf.Strconv.Clone
import Derived.Shelf.Strings.AsciiSet
import Derived.Shelf.Strings.OnBuilder
import Derived.Test.YthehblmjloohiaaGreatDoorProg
import Derived.Lib.Join
import Derived.Deep.QuietTactic
import Derived.BigQuiet
import Derived.Test.YthehblmjloohiaaGreatDoorM18
import Derived.Test.YthehblmjloohiaaGreatDoorM19
namespace Go.Proofs.YthehblmjloohiaaGreatDoor
set_option maxRecDepth 100000
open Go.RowKit Go.Less
open T8 (pv Dg)
attribute [local go_sem 9000] sem_eql sem_neq
theorem Okl.small {l : List Fs.Item} (h : Okl l) (i : Int) : (Fs.nodeD l i).ents.length ≤ 64 := by
 unfold Fs.nodeD
 cases hn : Fs.node l i with
 | none => exact Nat.zero_le _
 | some x => exact (h.node hn).1.len
theorem foundy_err (c : Int) {w W : World} (hb : Below w.heap.size w W) {r : Int × Nd.Node × Int} (h : r = (0, Nd.none0, c)) :
  Foundy r w (.returned (.tuple #[.int .i64 0, .agg #[.int .i64 0, .int .i64 0, .string ⟨#[]⟩, .string ⟨#[]⟩, .slice none 0 0], .int .i64 c])) W := foundy_none c hb h
set_option maxHeartbeats 8000000 in
theorem pFind_any (m : Option Nat) (nx : Int) (l : List Fs.Item) (p : ByteArray) (w : World) (h : Sv w m l) (hp : p.size ≤ 140737488355328) : Calls Tryz.prog 57 #[stv m nx, .string p] w (Foundy (findR l p) w) := by
 have HN := Lib.hid (fun k W (hb : Below w.heap.size w W) => pNode_any m nx l k W (h.below hb))
 have HS := Lib.hid (fun W => split_any p W hp)
 have HFe := Lib.hid h.ok.small
 clear h
 have HB := Lib.hid (show Bxs w [(w.heap.size, #[pv m, .int .i64 nx], 88), (w.heap.size + 1, #[.int .i64 0, .int .i64 0, .string ⟨#[]⟩, .string ⟨#[]⟩, .slice none 0 0], 43)] ((w.alloc (.cells #[pv m, .int .i64 nx] 88)).alloc (.cells #[.int .i64 0, .int .i64 0, .string ⟨#[]⟩, .string ⟨#[]⟩, .slice none 0 0] 43)) from Bxs.two w _ _ _ _)
 go_enter Tryz.func57, Tryz.ntmps57
 go_wp2_with fail
 generalize (w.alloc (.cells #[pv m, .int .i64 nx] 88)).alloc (.cells #[.int .i64 0, .int .i64 0, .string ⟨#[]⟩, .string ⟨#[]⟩, .slice none 0 0] 43) = W0 at HB ⊢
 have b0 := HB.out.c2 0 rfl
 have b1 := HB.out.c5 1 rfl
 refine (HS.out W0).mono ?_
 rintro e w1 hX
 have HB := Lib.hid (HB.out.kept hX.below)
 clear b0 b1
 cases hsp : Nm.split p.data.toList with
 | none =>
  obtain rfl := hX.no hsp
  have HR := Lib.hid (show findR l p = (0, Nd.none0, 14) by unfold findR spl; rw [hsp]; rfl)
  clear hX hsp
  have b0 := HB.out.c2 0 rfl
  have b1 := HB.out.c5 1 rfl
  dsimp only
  go_wp2_with (first | (refine store_bx HB.out 1 rfl 43 _ _ rfl rfl #[.int .i64 0, .int .i64 0, .string ⟨#[]⟩, .string ⟨#[]⟩, .slice none 0 0] rfl rfl (by kernel_rfl) rfl rfl (by decide) (by decide) ?_; intro w2 hS hK hbS hsS; have HBS := Lib.hid (show Bxs w [(w.heap.size, #[pv m, .int .i64 nx], 88), (w.heap.size + 1, #[.int .i64 0, .int .i64 0, .string ⟨#[]⟩, .string ⟨#[]⟩, .slice none 0 0], 43)] w2 from hS); clear hS hK hbS hsS; have HB := HBS; clear HBS; clear b0 b1; have b0 := HB.out.c2 0 rfl; have b1 := HB.out.c5 1 rfl) | fail)
  refine bodyPost_ret_by (results_mid rfl _ _ (w.heap.size + 1) _ _ _ _ _ rfl (HB.out.obj 1 rfl)) rfl ?_
  exact foundy_err 14 HB.out.below HR.out
 | some ns =>
  obtain ⟨ao, cap, rfl, hT⟩ := hX.yes ns hsp
  have hS := trow_strs hT rfl
  have h8 : ns.length ≤ 100000 := by have := split_few (show Nm.split p.data.toList = some ns from hsp); omega
  have HR := Lib.hid (show findR l p = match Fs.walk l 1 (ns.map lstr) with
   | .error e => (0, Nd.none0, e)
   | .ok i => (i, Fs.nodeD l i, 0) by unfold findR spl; rw [hsp]; rfl)
  have HCo := Lib.hid hS.count
  have HSt := Lib.hid (fun W (hb : Below w1.heap.size w1 W) => hS.below hb)
  clear hX hsp hT hS
  generalize ns.map lstr = ss at *
  obtain ⟨ln, hln⟩ : ∃ ln, ln = ns.length := ⟨_, rfl⟩
  rw [← hln] at h8 HCo HSt ⊢
  have hli : (ln : Int) ≤ 100000 := by omega
  clear hln
  have b0 := HB.out.c2 0 rfl
  have b1 := HB.out.c5 1 rfl
  dsimp only
  go_wp2_with fail
  refine (HN.out 1 w1 HB.out.below).mono ?_
  rintro e w2 ⟨ea, ec, rfl, hE, hb⟩
  have hbk := hb
  have hbw := hb
  have HE0 := Lib.hid (hE.below (below_one w2 (.cells #[.int .i64 (Fs.nodeD l 1).kind, .int .i64 (Fs.nodeD l 1).mode, .string (Fs.nodeD l 1).data, .string (Fs.nodeD l 1).target, .slice ea (Fs.nodeD l 1).ents.length ec] 43)))
  clear hE
  have HB := Lib.hid (HB.out.kept hbk)
  clear b0 b1
  clear hbk
  have HB := Lib.hid (show Bxs w [(w.heap.size, #[pv m, .int .i64 nx], 88), (w.heap.size + 1, #[.int .i64 0, .int .i64 0, .string ⟨#[]⟩, .string ⟨#[]⟩, .slice none 0 0], 43), (w2.heap.size, #[.int .i64 (Fs.nodeD l 1).kind, .int .i64 (Fs.nodeD l 1).mode, .string (Fs.nodeD l 1).data, .string (Fs.nodeD l 1).target, .slice ea (Fs.nodeD l 1).ents.length ec], 43)] (w2.alloc (.cells #[.int .i64 (Fs.nodeD l 1).kind, .int .i64 (Fs.nodeD l 1).mode, .string (Fs.nodeD l 1).data, .string (Fs.nodeD l 1).target, .slice ea (Fs.nodeD l 1).ents.length ec] 43)) from HB.out.more _ _ rfl)
  have b0 := HB.out.c2 0 rfl
  have b1 := HB.out.c5 1 rfl
  dsimp only
  go_wp2_with fail
  have hp1 : w1.heap.size ≤ w2.heap.size := hbw.size
  have HW := Lib.hid (hbw.trans ((below_one w2 (.cells #[.int .i64 (Fs.nodeD l 1).kind, .int .i64 (Fs.nodeD l 1).mode, .string (Fs.nodeD l 1).data, .string (Fs.nodeD l 1).target, .slice ea (Fs.nodeD l 1).ents.length ec] 43)).mono hbw.size))
  clear b0 b1
  clear hbw
  generalize w2.alloc (.cells #[.int .i64 (Fs.nodeD l 1).kind, .int .i64 (Fs.nodeD l 1).mode, .string (Fs.nodeD l 1).data, .string (Fs.nodeD l 1).target, .slice ea (Fs.nodeD l 1).ents.length ec] 43) = W3 at HB HE0 HW ⊢
  generalize w2.heap.size = pX at HB hp1 ⊢
  go_loopw [9, 13, 14, 32] (fun x9 x13 x14 x32 wr => ∃ (j : Nat) (i : Int) (a : Option Addr) (c : Nat), j ≤ ln ∧ x32 = .int .i64 j ∧ x9 = .int .i64 i ∧ Hid (Fs.walk l 1 ss = Fs.walk l i (ss.drop j)) ∧ Bxs w [(w.heap.size, #[pv m, .int .i64 nx], 88), (w.heap.size + 1, #[.int .i64 0, .int .i64 0, .string ⟨#[]⟩, .string ⟨#[]⟩, .slice none 0 0], 43), (pX, #[.int .i64 (Fs.nodeD l i).kind, .int .i64 (Fs.nodeD l i).mode, .string (Fs.nodeD l i).data, .string (Fs.nodeD l i).target, .slice a (Fs.nodeD l i).ents.length c], 43)] wr ∧ Ents a (Fs.nodeD l i).ents.length (Fs.nodeD l i).ents wr ∧ Below w1.heap.size w1 wr) (fun _ _ _ x32 _ => ln - (intOf x32).toNat)
  case atStart => exact ⟨0, 1, ea, ec, Nat.zero_le _, rfl, rfl, Lib.hid rfl, HB.out, HE0.out, HW.out⟩
  case round =>
   clear HB HE0 HW
   obtain ⟨j, i, a, c, hj, rfl, rfl, HE, hB, hEn, hW1⟩ := hrel
   have HB := Lib.hid hB
   have HEn := Lib.hid hEn
   have HW1 := Lib.hid hW1
   clear hB hEn hW1
   by_cases hlt : j < ln
   ·have j0 : (j : Int) < (ln : Int) := by omega
    have hj0 : (0 : Int) ≤ (j : Int) := by omega
    have HE2 := Lib.hid (HE.out.trans (walk_at i (by rw [← HCo.out]; exact hlt)))
    clear HE
    obtain ⟨b1, o1, rfl, nc⟩ := (HSt.out wr HW1.out).cell j hlt
    have nc : wr.cell? ⟨b1, o1 + j, none⟩ = some (.string (at_ ss j)) := nc
    have HFi := Lib.hid (HFe.out i)
    generalize Fs.nodeD l i = x at *
    obtain ⟨k, mo, d, t, es⟩ := x
    dsimp only at HB HEn HFi HE2
    by_cases hk : k = 2
    ·subst hk
     have HFd := Lib.hid (fun W (h : Ents a es.length es W) => find_any 2 mo d t a es.length c es (at_ ss j) W h (Nat.le_trans HFi.out (by decide)))
     unfold Found at HFd
     rw [if_neg (by simp)] at HE2
     have b0 := HB.out.c2 0 rfl
     have b1 := HB.out.c5 1 rfl
     have b2 := HB.out.c5 2 rfl
     cases hf : Nd.find es (at_ ss j) with
     | none =>
      rw [hf] at HFd HE2
      have HR := Lib.hid (show findR l p = (0, Nd.none0, 4) from HR.out.trans (by rw [HE2.out]))
      clear HE2 hf
      dsimp only [Option.getD, Option.isSome] at HFd
      go_wp2_with fail
      refine (HFd.out _ HEn.out).mono ?_
      rintro e w3 ⟨rfl, hb⟩
      have hbk := hb
      have HB := Lib.hid (HB.out.kept hbk)
      clear b0 b1 b2
      clear hbk
      have b0 := HB.out.c2 0 rfl
      have b1 := HB.out.c5 1 rfl
      have b2 := HB.out.c5 2 rfl
      dsimp only
      go_wp2_with (first | (refine store_bx HB.out 1 rfl 43 _ _ rfl rfl #[.int .i64 0, .int .i64 0, .string ⟨#[]⟩, .string ⟨#[]⟩, .slice none 0 0] rfl rfl (by kernel_rfl) rfl rfl (by decide) (by decide) ?_; intro w4 hS hK hbS hsS; have HBS := Lib.hid (show Bxs w [(w.heap.size, #[pv m, .int .i64 nx], 88), (w.heap.size + 1, #[.int .i64 0, .int .i64 0, .string ⟨#[]⟩, .string ⟨#[]⟩, .slice none 0 0], 43), (pX, #[.int .i64 2, .int .i64 mo, .string d, .string t, .slice a es.length c], 43)] w4 from hS); clear hS hK hbS hsS; have HB := HBS; clear HBS; clear b0 b1 b2; have b0 := HB.out.c2 0 rfl; have b1 := HB.out.c5 1 rfl; have b2 := HB.out.c5 2 rfl) | fail)
      refine bodyPost_ret_by (results_mid rfl _ _ (w.heap.size + 1) _ _ _ _ _ rfl (HB.out.obj 1 rfl)) rfl ?_
      exact foundy_err 4 HB.out.below HR.out
     | some k2 =>
      rw [hf] at HFd HE2
      have HE3 := Lib.hid (show Fs.walk l 1 ss = Fs.walk l k2 (ss.drop (j + 1)) from HE2.out)
      clear HE2 hf
      dsimp only [Option.getD, Option.isSome] at HFd
      go_wp2_with fail
      refine (HFd.out _ HEn.out).mono ?_
      rintro e w3 ⟨rfl, hb⟩
      have hbk := hb
      have HW1 := Lib.hid (HW1.out.trans (hb.mono HW1.out.size))
      have HB := Lib.hid (HB.out.kept hbk)
      clear b0 b1 b2
      clear hbk
      have b0 := HB.out.c2 0 rfl
      have b1 := HB.out.c5 1 rfl
      have b2 := HB.out.c5 2 rfl
      dsimp only
      go_wp2_with fail
      refine (HN.out k2 w3 HB.out.below).mono ?_
      rintro e w4 ⟨a2, c2, rfl, hE2, hb⟩
      have hbk := hb
      have HW1 := Lib.hid (HW1.out.trans (hb.mono HW1.out.size))
      have HEn := Lib.hid hE2
      clear hE2
      have HB := Lib.hid (HB.out.kept hbk)
      clear b0 b1 b2
      clear hbk
      have b0 := HB.out.c2 0 rfl
      have b1 := HB.out.c5 1 rfl
      have b2 := HB.out.c5 2 rfl
      dsimp only
      go_wp2_with (first | (refine store_bx HB.out 2 rfl 43 _ _ rfl rfl #[.int .i64 (Fs.nodeD l k2).kind, .int .i64 (Fs.nodeD l k2).mode, .string (Fs.nodeD l k2).data, .string (Fs.nodeD l k2).target, .slice a2 (Fs.nodeD l k2).ents.length c2] rfl rfl (by kernel_rfl) rfl rfl (by decide) (by decide) ?_; intro w5 hS hK hbS hsS; have HBS := Lib.hid (show Bxs w [(w.heap.size, #[pv m, .int .i64 nx], 88), (w.heap.size + 1, #[.int .i64 0, .int .i64 0, .string ⟨#[]⟩, .string ⟨#[]⟩, .slice none 0 0], 43), (pX, #[.int .i64 (Fs.nodeD l k2).kind, .int .i64 (Fs.nodeD l k2).mode, .string (Fs.nodeD l k2).data, .string (Fs.nodeD l k2).target, .slice a2 (Fs.nodeD l k2).ents.length c2], 43)] w5 from hS); have HEn := Lib.hid (hK.ents (HB.out.obj 2 rfl) (noEnt43 _ _ _ _ _ _ _) HEn.out); have HW1 := Lib.hid (below_kept HW1.out hK hp1 hsS HB.out.below hbS); clear hS hK hbS hsS; have HB := HBS; clear HBS; clear b0 b1 b2; have b0 := HB.out.c2 0 rfl; have b1 := HB.out.c5 1 rfl; have b2 := HB.out.c5 2 rfl) | fail)
      go_roundw
      case rel => exact ⟨j + 1, k2, a2, c2, by omega, by go_num, rfl, HE3, HB.out, HEn.out, HW1.out⟩
      case measure => simp [intOf]; omega
    ·have HR := Lib.hid (show findR l p = (0, Nd.none0, 10) from HR.out.trans (by rw [HE2.out]; exact (by rw [if_pos hk])))
     clear HE2
     have b0 := HB.out.c2 0 rfl
     have b1 := HB.out.c5 1 rfl
     have b2 := HB.out.c5 2 rfl
     go_wp2_with (first | (refine store_bx HB.out 1 rfl 43 _ _ rfl rfl #[.int .i64 0, .int .i64 0, .string ⟨#[]⟩, .string ⟨#[]⟩, .slice none 0 0] rfl rfl (by kernel_rfl) rfl rfl (by decide) (by decide) ?_; intro w3 hS hK hbS hsS; have HBS := Lib.hid (show Bxs w [(w.heap.size, #[pv m, .int .i64 nx], 88), (w.heap.size + 1, #[.int .i64 0, .int .i64 0, .string ⟨#[]⟩, .string ⟨#[]⟩, .slice none 0 0], 43), (pX, #[.int .i64 k, .int .i64 mo, .string d, .string t, .slice a es.length c], 43)] w3 from hS); clear hS hK hbS hsS; have HB := HBS; clear HBS; clear b0 b1 b2; have b0 := HB.out.c2 0 rfl; have b1 := HB.out.c5 1 rfl; have b2 := HB.out.c5 2 rfl) | fail)
     refine bodyPost_ret_by (results_mid rfl _ _ (w.heap.size + 1) _ _ _ _ _ rfl (HB.out.obj 1 rfl)) rfl ?_
     exact foundy_err 10 HB.out.below HR.out
   ·obtain rfl : j = ln := by omega
    have HR := Lib.hid (show findR l p = (i, Fs.nodeD l i, 0) from HR.out.trans (by rw [HE.out, HCo.out, List.drop_eq_nil_of_le (Nat.le_refl _)]; rfl))
    clear HE
    generalize Fs.nodeD l i = x at *
    obtain ⟨k, mo, d, t, es⟩ := x
    dsimp only at HB HEn HR
    have b0 := HB.out.c2 0 rfl
    have b1 := HB.out.c5 1 rfl
    have b2 := HB.out.c5 2 rfl
    have q1_0 : wr.frozen? ⟨w.heap.size + 1, 0, none⟩ = false := HB.out.free 1 rfl 0
    have q1_1 : wr.frozen? ⟨w.heap.size + 1, 1, none⟩ = false := HB.out.free 1 rfl 1
    have q1_2 : wr.frozen? ⟨w.heap.size + 1, 2, none⟩ = false := HB.out.free 1 rfl 2
    have q1_3 : wr.frozen? ⟨w.heap.size + 1, 3, none⟩ = false := HB.out.free 1 rfl 3
    have q1_4 : wr.frozen? ⟨w.heap.size + 1, 4, none⟩ = false := HB.out.free 1 rfl 4
    go_wp2_with fail
    go_region_law fail
    all_goals
     have HBf := Lib.hid (HB.out.put5 1 rfl (.int .i64 k) (.int .i64 mo) (.string d) (.string t) (.slice a es.length c))
     have HEf := Lib.hid (ents_keep HEn.out (HB.out.obj 1 rfl) (.int .i64 k) (.int .i64 mo) (.string d) (.string t) (.slice a es.length c))
     go_wp2_with fail
     refine bodyPost_ret_by (results_mid rfl _ _ (w.heap.size + 1) _ _ _ _ _ rfl (HBf.out.obj 1 rfl)) rfl ?_
     rw [HR.out]
     exact ⟨a, c, rfl, HEf.out.below (Below.refl _ _).drew, HBf.out.below.drew⟩
end Go.Proofs.YthehblmjloohiaaGreatDoor

namespace Go.Proofs.YthehblmjloohiaaGreatDoor
set_option maxRecDepth 100000
open Go.RowKit
def dat (ss : List ByteArray) : List (List UInt8) := ss.map fun s => s.data.toList
def joinR (ns : List (List UInt8)) : List UInt8 × Int := match Nm.join ns with
 | some p => (p, 0)
 | none => ([], 14)
theorem joinR_no {ns : List (List UInt8)} (h : Nm.join ns = none) : joinR ns = ([], 14) := by unfold joinR; rw [h]
theorem joinR_is {ns : List (List UInt8)} {p : List UInt8} (h : Nm.join ns = some p) : joinR ns = (p, 0) := by unfold joinR; rw [h]
theorem join_many {ns : List (List UInt8)} (h : 8 < ns.length) : Nm.join ns = none := by unfold Nm.join; rw [if_neg (by rintro ⟨h1, _⟩; omega)]
theorem join_ok {ns : List (List UInt8)} (h8 : ns.length ≤ 8) (h : ns.all Nm.right = true) : Nm.join ns = some (Nm.pathOf ns) := by unfold Nm.join; rw [if_pos ⟨h8, h⟩]
theorem right_len {l : List UInt8} (h : Nm.right l = true) : l.length ≤ 16 := by
 unfold Nm.right at h
 simp only [Bool.and_eq_true, decide_eq_true_eq] at h
 exact h.1.1.2
end Go.Proofs.YthehblmjloohiaaGreatDoor

namespace Go.Proofs.YthehblmjloohiaaGreatDoor.P9
set_option maxRecDepth 100000
open Go.Shelf
def ren : Go.Shelf.Ren := ⟨fun | 156 => 212 | 165 => 229 | 166 => 155 | 169 => 157 | 227 => 237 | 228 => 238 | 240 => 182 | 241 => 243 | 276 => 206 | 277 => 247 | 316 => 103 | n => n, fun | 0 => 0 | 3 => 3 | 4 => 4 | 5 => 5 | 9 => 9 | 20 => 20 | 31 => 52 | 37 => 137 | 70 => 209 | 72 => 211 | 75 => 213 | 76 => 215 | 80 => 60 | 116 => 278 | 124 => 289 | 127 => 198 | 164 => 256 | n => n, fun | n => n⟩
theorem lays156 : Go.Proofs.Lays.n156 Tryz.prog ren := {
 mixed := by kernel_rfl
 f156 := Tryz.func212.trans (congrArg some (by kernel_rfl))
 f165 := Tryz.func229.trans (congrArg some (by kernel_rfl))
 f166 := Tryz.func155.trans (congrArg some (by kernel_rfl))
 f169 := Tryz.func157.trans (congrArg some (by kernel_rfl))
 f240 := Tryz.func182.trans (congrArg some (by kernel_rfl))
 f241 := Tryz.func243.trans (congrArg some (by kernel_rfl))
 f276 := Tryz.func206.trans (congrArg some (by kernel_rfl))
 f277 := Tryz.func247.trans (congrArg some (by kernel_rfl))
 t0 := Tryz.underlying0
 a0 := Tryz.isAgg0
 z0 := Tryz.sizeOf0
 v0 := Tryz.zeroValue0
 t3 := Tryz.underlying3
 a3 := Tryz.isAgg3
 z3 := Tryz.sizeOf3
 v3 := Tryz.zeroValue3
 t4 := Tryz.underlying4
 a4 := Tryz.isAgg4
 z4 := Tryz.sizeOf4
 v4 := Tryz.zeroValue4
 t9 := Tryz.underlying9
 a9 := Tryz.isAgg9
 z9 := Tryz.sizeOf9
 v9 := Tryz.zeroValue9
 t20 := Tryz.underlying20
 a20 := Tryz.isAgg20
 z20 := Tryz.sizeOf20
 v20 := Tryz.zeroValue20
 t31 := Tryz.underlying52
 a31 := Tryz.isAgg52
 z31 := Tryz.sizeOf52
 v31 := Tryz.zeroValue52
 t37 := Tryz.underlying137
 a37 := Tryz.isAgg137
 z37 := Tryz.sizeOf137
 v37 := Tryz.zeroValue137
 t70 := Tryz.underlying209
 a70 := Tryz.isAgg209
 z70 := Tryz.sizeOf209
 v70 := Tryz.zeroValue209
 t72 := Tryz.underlying211
 a72 := Tryz.isAgg211
 z72 := Tryz.sizeOf211
 v72 := Tryz.zeroValue211
 t75 := Tryz.underlying213
 a75 := Tryz.isAgg213
 z75 := Tryz.sizeOf213
 v75 := Tryz.zeroValue213
 t76 := Tryz.underlying215
 a76 := Tryz.isAgg215
 z76 := Tryz.sizeOf215
 v76 := Tryz.zeroValue215
 t127 := Tryz.underlying198
 a127 := Tryz.isAgg198
 z127 := Tryz.sizeOf198
 v127 := Tryz.zeroValue198
 t164 := Tryz.underlying256
 a164 := Tryz.isAgg256
 z164 := Tryz.sizeOf256
 v164 := Tryz.zeroValue256 }
theorem lays227 : Go.Proofs.Lays.n227 Tryz.prog ren := {
 mixed := by kernel_rfl
 f227 := Tryz.func237.trans (congrArg some (by kernel_rfl))
 t0 := Tryz.underlying0
 a0 := Tryz.isAgg0
 z0 := Tryz.sizeOf0
 v0 := Tryz.zeroValue0
 t3 := Tryz.underlying3
 a3 := Tryz.isAgg3
 z3 := Tryz.sizeOf3
 v3 := Tryz.zeroValue3
 t4 := Tryz.underlying4
 a4 := Tryz.isAgg4
 z4 := Tryz.sizeOf4
 v4 := Tryz.zeroValue4
 t5 := Tryz.underlying5
 a5 := Tryz.isAgg5
 z5 := Tryz.sizeOf5
 v5 := Tryz.zeroValue5
 t9 := Tryz.underlying9
 a9 := Tryz.isAgg9
 z9 := Tryz.sizeOf9
 v9 := Tryz.zeroValue9
 t116 := Tryz.underlying278
 a116 := Tryz.isAgg278
 z116 := Tryz.sizeOf278 }
theorem lays228 : Go.Proofs.Lays.n228 Tryz.prog ren := {
 mixed := by kernel_rfl
 f228 := Tryz.func238.trans (congrArg some (by kernel_rfl))
 t0 := Tryz.underlying0
 a0 := Tryz.isAgg0
 z0 := Tryz.sizeOf0
 v0 := Tryz.zeroValue0
 t4 := Tryz.underlying4
 a4 := Tryz.isAgg4
 z4 := Tryz.sizeOf4
 v4 := Tryz.zeroValue4
 t5 := Tryz.underlying5
 a5 := Tryz.isAgg5
 z5 := Tryz.sizeOf5
 v5 := Tryz.zeroValue5
 t116 := Tryz.underlying278
 a116 := Tryz.isAgg278
 z116 := Tryz.sizeOf278
 t124 := Tryz.underlying289
 a124 := Tryz.isAgg289
 z124 := Tryz.sizeOf289
 v124 := Tryz.zeroValue289 }
theorem laysM316 : Go.Proofs.LaysM.n316 Tryz.prog ren := {
 mixed := by kernel_rfl
 f316 := Tryz.func103.trans (congrArg some (by kernel_rfl))
 t0 := Tryz.underlying0
 a0 := Tryz.isAgg0
 z0 := Tryz.sizeOf0
 v0 := Tryz.zeroValue0
 t3 := Tryz.underlying3
 a3 := Tryz.isAgg3
 z3 := Tryz.sizeOf3
 v3 := Tryz.zeroValue3
 t4 := Tryz.underlying4
 a4 := Tryz.isAgg4
 z4 := Tryz.sizeOf4
 v4 := Tryz.zeroValue4
 t9 := Tryz.underlying9
 a9 := Tryz.isAgg9
 z9 := Tryz.sizeOf9
 v9 := Tryz.zeroValue9
 t37 := Tryz.underlying137
 a37 := Tryz.isAgg137
 z37 := Tryz.sizeOf137
 v37 := Tryz.zeroValue137
 t127 := Tryz.underlying198
 a127 := Tryz.isAgg198
 z127 := Tryz.sizeOf198
 v127 := Tryz.zeroValue198
 t5 := Tryz.underlying5
 a5 := Tryz.isAgg5
 z5 := Tryz.sizeOf5
 v5 := Tryz.zeroValue5
 i0 := by kernel_rfl
 i3 := by kernel_rfl
 i4 := by kernel_rfl
 i5 := by kernel_rfl
 i9 := by kernel_rfl
 i37 := by kernel_rfl
 i127 := by kernel_rfl }
theorem extra : Builder.Extra Tryz.prog ren := {
 sizeBuilder := by kernel_rfl
 liesBuilder := by kernel_rfl
 t5 := Tryz.underlying5
 a5 := Tryz.isAgg5
 z5 := Tryz.sizeOf5
 v5 := Tryz.zeroValue5
 infoByte := by kernel_rfl
 cellsByte := by kernel_rfl
 sizeByte := by kernel_rfl
 neB5 := by decide }
theorem info68 : (Tryz.prog.info? 278).map (fun i => (i.zero, i.size)) = some (some (.agg (Array.replicate 256 (.bool false))), 256) := by kernel_rfl
end Go.Proofs.YthehblmjloohiaaGreatDoor.P9

namespace Go.Proofs.YthehblmjloohiaaGreatDoor
set_option maxRecDepth 100000
open Go.RowKit
def allr (ns : List (List UInt8)) : Bool := ns.all Nm.right
theorem wrong_any (s : ByteArray) (w : World) (hs : s.size ≤ 140737488355328) : Calls Tryz.prog 210 #[.string s] w fun e w' => e = .returned (.bool (!Nm.right s.data.toList)) ∧ Below w.heap.size w w' := by
 go_enter Tryz.func210, Tryz.ntmps210
 go_wp2_with fail
 refine (right_any s _ hs).mono ?_
 rintro e w1 ⟨rfl, hB⟩
 dsimp only
 go_wp2_with fail
 go_ret
 exact ⟨rfl, hB⟩
structure Rowy (a : Option Addr) (ln : Nat) (ss : List ByteArray) (w : World) : Prop where
 strs : Strs a ln ss w
 size : ∀ i, i < ss.length → (ss.getD i ByteArray.empty).size ≤ 140737488355328
theorem Rowy.below {a : Option Addr} {len : Nat} {ss : List ByteArray} {w w' : World} (h : Rowy a len ss w) (hb : Below w.heap.size w w') : Rowy a len ss w' := ⟨h.strs.below hb, h.size⟩
theorem dat_at (ss : List ByteArray) {k : Nat} (hk : k < ss.length) : (dat ss).getD k [] = (ss.getD k ByteArray.empty).data.toList := by
 unfold dat
 rw [List.getD, List.getD, List.getElem?_map, List.getElem?_eq_getElem hk]; rfl
theorem dat_len (ss : List ByteArray) : (dat ss).length = ss.length := by unfold dat; rw [List.length_map]
theorem rall_take {ns : List (List UInt8)} {k : Nat} (h : (ns.take k).all Nm.right = true) (hk : k < ns.length) (hr : Nm.right (ns.getD k []) = true) : (ns.take (k + 1)).all Nm.right = true := by
 rw [List.take_succ_eq_append_getElem hk, List.all_append, h]
 rw [List.getD, List.getElem?_eq_getElem hk, Option.getD_some] at hr
 simp [hr]
theorem rnot_all {ns : List (List UInt8)} {k : Nat} (hk : k < ns.length) (hr : Nm.right (ns.getD k []) = false) : ns.all Nm.right = false := by
 rw [List.getD, List.getElem?_eq_getElem hk, Option.getD_some] at hr
 rw [Bool.eq_false_iff]
 intro h
 rw [List.all_eq_true.1 h _ (List.getElem_mem hk)] at hr
 cases hr
set_option maxHeartbeats 2000000 in
theorem ixf_any (a : Option Addr) (ln cn : Nat) (ss : List ByteArray) (w : World) (hR : Rowy a ln ss w) (h8 : ln ≤ 8) : Calls Tryz.prog 232 #[.slice a ln cn, .func (.func 210) #[] #[]] w fun e w' => (∃ z : Int, e = .returned (.int .i64 z) ∧ (0 ≤ z ↔ allr (dat ss) = false)) ∧ Below w.heap.size w w' := by
 have HR := Lib.hid hR
 have hcnt := hR.strs.count
 clear hR
 have h8i : (ln : Int) ≤ 8 := by omega
 have eg : ∀ args w, (callFunc 210 args).run Tryz.prog w = .ok (.enter 210 args) w := enters_of Tryz.func210 (by kernel_rfl) rfl
 go_enter Tryz.func232, Tryz.ntmps232
 go_wp2_with fail
 go_loopw [8] (fun v8 wr => ∃ k : Nat, k ≤ ln ∧ v8 = .int .i64 k ∧ Below w.heap.size w wr ∧ Hid (((dat ss).take k).all Nm.right = true)) (fun v8 _ => ln - (intOf v8).toNat)
 case atStart => exact ⟨0, Nat.zero_le _, rfl, Below.refl _ _, rfl⟩
 case round =>
  obtain ⟨k, hk, rfl, hB, HA⟩ := hrel
  have HL := Lib.hid (dat_len ss)
  by_cases hlt : k < ln
  ·have hlti : (k : Int) < (ln : Int) := by omega
   have hk0 : (0 : Int) ≤ (k : Int) := by omega
   obtain ⟨b, off, rfl, hc⟩ := (HR.out.below hB).strs.cell k hlt
   have hsz := HR.out.size k (by omega)
   have HD := Lib.hid (dat_at ss (k := k) (by omega))
   generalize ss.getD k ByteArray.empty = x at *
   have HW := Lib.hid (fun w => wrong_any x w hsz)
   have HBh := Lib.hid hB
   clear hB hsz
   cases hr : Nm.right x.data.toList with
   | true =>
    have HX := Lib.hid hr
    rw [hr] at HW
    clear hr
    go_wp2_with fail
    refine (HW.out _).mono ?_
    rintro e w2 ⟨rfl, hw2⟩
    have HB2 := Lib.hid (HBh.out.trans (hw2.mono HBh.out.size))
    clear hw2
    dsimp only
    go_wp2_with fail
    go_roundw
    case rel => exact ⟨k + 1, by omega, by simp, HB2.out, rall_take HA.out (by rw [HL.out]; omega) (by rw [HD.out]; exact HX.out)⟩
    case measure => simp [intOf]; omega
   | false =>
    have HX := Lib.hid hr
    rw [hr] at HW
    clear hr
    go_wp2_with fail
    refine (HW.out _).mono ?_
    rintro e w2 ⟨rfl, hw2⟩
    have HB2 := Lib.hid (HBh.out.trans (hw2.mono HBh.out.size))
    clear hw2
    dsimp only
    go_wp2_with fail
    go_ret
    exact ⟨⟨_, rfl, by unfold allr; rw [rnot_all (ns := dat ss) (k := k) (by rw [HL.out]; omega) (by rw [HD.out]; exact HX.out)]; simp⟩, HB2.out⟩
  ·have hlti : ¬ (k : Int) < (ln : Int) := by omega
   have HBh := Lib.hid hB
   clear hB
   go_wp2_with fail
   go_ret
   refine ⟨⟨_, rfl, ?_⟩, HBh.out⟩
   have h := HA.out
   rw [List.take_of_length_le (by rw [HL.out]; omega)] at h
   unfold allr
   rw [h]; decide
theorem pcof_any (a : Option Addr) (ln cn : Nat) (ss : List ByteArray) (w : World) (hR : Rowy a ln ss w) (h8 : ln ≤ 8) : Calls Tryz.prog 211 #[.slice a ln cn, .func (.func 210) #[] #[]] w fun e w' => e = .returned (.bool (!allr (dat ss))) ∧ Below w.heap.size w w' := by
 have HI := Lib.hid (ixf_any a ln cn ss w hR h8)
 clear hR h8
 generalize allr (dat ss) = r at *
 go_enter Tryz.func211, Tryz.ntmps211
 go_wp2_with fail
 refine HI.out.mono ?_
 rintro e w1 ⟨⟨z, rfl, hz⟩, hB⟩
 dsimp only
 cases r with
 | false =>
  have h0 : 0 ≤ z := hz.2 rfl
  clear hz
  go_wp2_with fail
  go_ret
  refine ⟨?_, hB⟩
  simp
 | true =>
  have h0 : ¬ 0 ≤ z := fun h => by have := hz.1 h; cases this
  clear hz
  go_wp2_with fail
  go_ret
  refine ⟨?_, hB⟩
  simp
def betw (ns : List (List UInt8)) : List UInt8 := Lib.join ns [47]
theorem path_betw (ns : List (List UInt8)) : Nm.pathOf ns = 47 :: betw ns := by
 unfold betw Nm.pathOf
 cases ns with
 | nil => rfl
 | cons x r =>
  rw [if_neg (by simp), Lib.join_cons]
  rfl
theorem betw_len {ns : List (List UInt8)} (h8 : ns.length ≤ 8) (h : ns.all Nm.right = true) : (betw ns).length ≤ 140 := by
 have e := congrArg List.length (path_betw ns)
 rw [List.length_cons] at e
 have : (Nm.pathOf ns).length ≤ 137 := by
  have hf : ∀ l : List (List UInt8), l.all Nm.right = true → ((l.map (47 :: ·)).flatten).length ≤ 17 * l.length := by
   intro l
   induction l with
   | nil => simp
   | cons x l ih =>
    intro h
    rw [List.all_cons, Bool.and_eq_true] at h
    have h1 := right_len h.1
    have h2 := ih h.2
    simp only [List.map_cons, List.flatten_cons, List.length_append, List.length_cons]
    omega
  have := hf ns h
  unfold Nm.pathOf
  split
  ·simp
  ·omega
 omega
theorem sjoin_any (a : Option Addr) (ln cn : Nat) (ss : List ByteArray) (w : World) (hS : Strs a ln ss w) (hcn : ln ≤ cn) (h8 : ln ≤ 8) (hl : (betw (dat ss)).length ≤ 1000) : Calls Tryz.prog 212 #[.slice a ln cn, .string ⟨#[47]⟩] w fun e w' => e = .returned (.string (lstr (betw (dat ss)))) ∧ Below w.heap.size w w' := by
 by_cases h0 : ln = 0
 ·subst h0
  have hss : ss = [] := List.eq_nil_of_length_eq_zero hS.count.symm
  subst hss
  refine (Any.strings_Join_none P9.lays156 P9.extra a cn ⟨#[47]⟩ w).mono ?_
  rintro e w' ⟨rfl, rfl⟩
  exact ⟨rfl, Below.refl _ _⟩
 ·obtain ⟨b, off, rfl, hc0⟩ := hS.cell 0 (by omega)
  have hcnt := hS.count
  subst hcnt
  have h := Any.strings_Join P9.lays156 P9.extra b off cn ss ⟨#[47]⟩ w ?_ (block_lt_of_cell hc0) (by omega) hcn (by
   show (betw (dat ss)).length ≤ _
   omega)
  ·exact h
  ·intro j x hj
   have hjl : j < ss.length := (List.getElem?_eq_some_iff.1 hj).1
   obtain ⟨b', off', e, hc⟩ := hS.cell j hjl
   cases e
   rw [hc, List.getD, hj]; rfl
set_option maxHeartbeats 2000000 in
theorem join_any (a : Option Addr) (ln cn : Nat) (ss : List ByteArray) (w : World) (hS : Strs a ln ss w) (hln : ln ≤ 140737488355328) (hcn : ln ≤ cn) (hsz : ∀ i, i < ss.length → (ss.getD i ByteArray.empty).size ≤ 140737488355328) : Calls Tryz.prog 187 #[.slice a ln cn] w fun e w' => e = .returned (.tuple #[.string (lstr (joinR (dat ss)).1), .int .i64 (joinR (dat ss)).2]) ∧ Below w.heap.size w w' := by
 have hlni : (ln : Int) ≤ 140737488355328 := by omega
 have hds : (dat ss).length = ln := by rw [dat_len]; exact hS.count.symm
 rcases Nat.lt_or_ge 8 ln with h8 | h8
 ·have h8i : (8 : Int) < (ln : Int) := by omega
  rw [joinR_no (join_many (ns := dat ss) (by omega))]
  clear hds hS hsz
  go_enter Tryz.func187, Tryz.ntmps187
  go_wp2_with fail
  go_ret2
  exact ⟨rfl, Below.refl _ _⟩
 have h8i : ¬ (8 : Int) < (ln : Int) := by omega
 have HF := Lib.hid (pcof_any a ln cn ss w ⟨hS, hsz⟩ h8)
 cases hr : allr (dat ss) with
 | false =>
  rw [joinR_no (by unfold Nm.join; rw [if_neg]; rintro ⟨_, h⟩; unfold allr at hr; rw [hr] at h; cases h)]
  rw [hr] at HF
  clear hds hS hsz hr
  go_enter Tryz.func187, Tryz.ntmps187
  go_wp2_with fail
  refine HF.out.mono ?_
  rintro e w1 ⟨rfl, hB⟩
  dsimp only
  go_wp2_with fail
  go_ret2
  exact ⟨rfl, hB⟩
 | true =>
  have HJ := Lib.hid (fun w1 (hb : Below w.heap.size w w1) => sjoin_any a ln cn ss w1 (hS.below hb) hcn h8 (by have := betw_len (ns := dat ss) (by omega) hr; omega))
  have hbl := betw_len (ns := dat ss) (by omega) hr
  rw [joinR_is (join_ok (by omega) hr), path_betw]
  rw [hr] at HF
  have hsz2 : (lstr (betw (dat ss))).size ≤ 140 := by rw [lstr_size]; exact hbl
  have HE := Lib.hid (lstr_append [47] (betw (dat ss)))
  clear hds hS hsz hr hbl
  generalize betw (dat ss) = t at *
  go_enter Tryz.func187, Tryz.ntmps187
  go_wp2_with fail
  refine HF.out.mono ?_
  rintro e w1 ⟨rfl, hB⟩
  have HB1 := Lib.hid hB
  clear hB
  dsimp only
  go_wp2_with fail
  refine (HJ.out _ HB1.out).mono ?_
  rintro e w2 ⟨rfl, hB2⟩
  have HB2 := Lib.hid (HB1.out.trans (hB2.mono HB1.out.size))
  clear hB2
  dsimp only
  go_wp2_with fail
  go_ret2
  refine ⟨?_, HB2.out⟩
  rw [show lstr (47 :: t) = (⟨#[47]⟩ : ByteArray) ++ lstr t from (lstr_append [47] t).symm]
  rfl
end Go.Proofs.YthehblmjloohiaaGreatDoor

namespace Go.Proofs.YthehblmjloohiaaGreatDoor
set_option maxRecDepth 100000
open Go.RowKit
def parentR (l : List UInt8) : List UInt8 × List UInt8 × Int := match Nm.split l with
 | none => ([], [], 14)
 | some ns => if ns = [] then ([], [], 17) else (Nm.pathOf ns.dropLast, ns.getLastD [], 0)
theorem split_shape {l : List UInt8} {ns : List (List UInt8)} (h : Nm.split l = some ns) : ns.length ≤ 8 ∧ ns.all Nm.right = true := by
 have := Nm.join_split h
 unfold Nm.join at this
 split at this
 ·rename_i hx; exact hx
 ·cases this
theorem dat_lstr (ns : List (List UInt8)) : dat (ns.map lstr) = ns := by
 unfold dat; rw [List.map_map]
 exact List.map_id'' (fun _ => rfl) ns
theorem strs_take {a : Option Addr} {n k : Nat} {ss : List ByteArray} {w : World} (h : Strs a n ss w) (hk : k ≤ n) : Strs a k (ss.take k) w :=
 ⟨by rw [List.length_take, ← h.count]; omega, fun i hi => by
  obtain ⟨b, off, ha, hc⟩ := h.cell i (by omega)
  refine ⟨b, off, ha, ?_⟩
  rw [hc]
  simp [List.getD, hi]⟩
def ParentPost (l : List UInt8) (w : World) (e : Ending) (w' : World) : Prop := e = .returned (.tuple #[.string (lstr (parentR l).1), .string (lstr (parentR l).2.1), .int .i64 (parentR l).2.2]) ∧ Below w.heap.size w w'
theorem parent_post {l : List UInt8} {w w' : World} {r : List UInt8 × List UInt8 × Int} (h : parentR l = r) (hb : Below w.heap.size w w') : ParentPost l w (.returned (.tuple #[.string (lstr r.1), .string (lstr r.2.1), .int .i64 r.2.2])) w' := by
 unfold ParentPost; rw [h]; exact ⟨rfl, hb⟩
end Go.Proofs.YthehblmjloohiaaGreatDoor

namespace Go.Proofs.YthehblmjloohiaaGreatDoor
set_option maxRecDepth 100000
open Go.RowKit
set_option maxHeartbeats 4000000 in
theorem parent_any (p : ByteArray) (w : World) (hp : p.size ≤ 140737488355328) : Calls Tryz.prog 165 #[.string p] w (ParentPost p.data.toList w) := by
 go_enter Tryz.func165, Tryz.ntmps165
 go_wp2_with fail
 refine (split_any p w hp).mono ?_
 rintro e w1 hX
 have HB := Lib.hid hX.below
 cases hsp : Nm.split p.data.toList with
 | none =>
  obtain rfl := hX.no hsp
  have HP := Lib.hid (parent_post (l := p.data.toList) (r := ([], [], 14)) (by unfold parentR; rw [hsp]) HB.out)
  clear hX hsp
  dsimp only
  go_wp2_with fail
  go_ret3
  exact HP.out
 | some ns =>
  obtain ⟨ao, cap, rfl, hT⟩ := hX.yes ns hsp
  obtain ⟨h8, hr⟩ := split_shape hsp
  clear hX
  rcases List.eq_nil_or_concat ns with rfl | ⟨ms, x, rfl⟩
  ·have HP := Lib.hid (parent_post (l := p.data.toList) (r := ([], [], 17)) (by unfold parentR; rw [hsp]; rfl) HB.out)
   clear hsp hT h8 hr
   dsimp only
   rw [show ([] : List (List UInt8)).length = 0 from rfl]
   go_wp2_with fail
   go_ret3
   exact HP.out
  ·rw [List.concat_eq_append] at *
   have hn : (ms ++ [x]).length = ms.length + 1 := by simp
   have HP := Lib.hid (fun (w' : World) (hb : Below w.heap.size w w') => parent_post (l := p.data.toList) (r := (Nm.pathOf ms, x, 0)) (by
    unfold parentR
    rw [hsp]
    show (if _ then _ else _) = _
    rw [if_neg (by simp), List.dropLast_concat, List.getLastD_concat]) hb)
   have hms : Nm.join ms = some (Nm.pathOf ms) := join_ok (by omega) (by rw [List.all_append, Bool.and_eq_true] at hr; exact hr.1)
   have hS := trow_strs hT rfl
   rw [hn] at hT hS ⊢
   have hS2 := strs_take hS (Nat.le_succ _)
   rw [List.map_append, List.take_append_of_le_length (by simp), List.take_of_length_le (by simp)] at hS2
   obtain ⟨b, off, rfl, hc⟩ := hS.cell ms.length (by omega)
   rw [show ((ms ++ [x]).map lstr).getD ms.length ByteArray.empty = lstr x from by simp [List.getD]] at hc
   have hcap : ms.length + 1 ≤ cap := trow_cap hT
   have HJ := Lib.hid (join_any (some ⟨b, off, none⟩) ms.length cap (ms.map lstr) w1 hS2 (by omega) (by omega) (fun i hi => by
    have hi2 : i < ms.length := by simpa using hi
    rw [List.getD, List.getElem?_map, List.getElem?_eq_getElem hi2]
    have hrm : ms.all Nm.right = true := by rw [List.all_append, Bool.and_eq_true] at hr; exact hr.1
    have := right_len (List.all_eq_true.1 hrm _ (List.getElem_mem hi2))
    show (lstr ms[i]).size ≤ _
    rw [lstr_size]; omega))
   rw [dat_lstr, joinR_is hms] at HJ
   dsimp only at HJ
   have hm8 : (ms.length : Int) ≤ 8 := by omega
   have hk1 : (((ms.length + 1 : Nat) : Int) - 1) = (ms.length : Int) := by omega
   have hcapi : (ms.length : Int) + 1 ≤ (cap : Int) := by omega
   clear hsp hT hS hS2 h8 hr hms hn
   generalize Nm.pathOf ms = pp at HP HJ
   generalize ms.length = k at *
   dsimp only
   go_wp2_with fail
   refine HJ.out.mono ?_
   rintro e w2 ⟨rfl, hw2⟩
   have hc2 := (hw2.cell (p := ⟨b, off + k, none⟩) (block_lt_of_cell hc)).trans hc
   have HW2 := Lib.hid hw2
   clear HJ hc hw2
   dsimp only
   go_wp2_with fail
   go_quiet (fail)
   go_wp2_with fail
   go_ret3
   exact HP.out _ (below_draws (HB.out.trans (HW2.out.mono HB.out.size)))
end Go.Proofs.YthehblmjloohiaaGreatDoor
