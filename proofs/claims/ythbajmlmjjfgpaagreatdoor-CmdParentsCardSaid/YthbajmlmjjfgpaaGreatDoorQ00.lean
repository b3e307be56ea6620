/- A part of the proofs. -/
import Derived.Test.YthbajmlmjjfgpaaGreatDoorP01
import Derived.Test.YthbajmlmjjfgpaaGreatDoorA00
set_option maxRecDepth 1000000
set_option maxHeartbeats 16000000
open Go.Lib (hid)
open Go.Proofs.Tryz
namespace Go.Proofs.YthbajmlmjjfgpaaGreatDoor
open Go.RowKit Go.Less
open T8 (pv Rp Dg mget_there)
section
attribute [local go_sem 9000] sem_eql sem_neq run_bytes4
def b8 (k : Int) : UInt8 := UInt8.ofNat (k % 256).toNat
theorem b8_eq (k : Int) : k % 256 = ((b8 k).toNat : Int) := by
 unfold b8
 rw [UInt8.toNat_ofNat']
 have h0 := Int.emod_nonneg k (show (256 : Int) ≠ 0 by decide)
 have h1 := Int.emod_lt_of_pos k (show (0 : Int) < 256 by decide)
 omega
theorem rKeyAny_any (k : Int) (w : World) : Calls prog 33 #[.int .i64 k] w λe w' => ∃ K, e = .returned (.string K) /\ Below w.heap.size w w' := by
 have e0 := b8_eq (k / 16777216)
 have e1 := b8_eq (k / 65536)
 have e2 := b8_eq (k / 256)
 have e3 := b8_eq k
 generalize b8 (k / 16777216) = A at e0
 generalize b8 (k / 65536) = B at e1
 generalize b8 (k / 256) = C at e2
 generalize b8 k = D at e3
 go_enter func33, ntmps33
 go_wp2_with fail
 go_ret
 exact ⟨_, rfl, (Below.refl w.heap.size w).alloc (Nat.le_refl _) _⟩
end
theorem rKeyX_any (k : Int) (w : World) : Calls prog 33 #[.int .i64 k] w λe w' => ∃ K, e = .returned (.string K) /\ (1 <= k /\ k <= 2147483647 -> K = Fs.key k) /\ Below w.heap.size w w' := by
 by_cases h : 1 <= k /\ k <= 2147483647
 ·refine (rKey2_any k w (by omega) (by omega)).mono ?_
  rintro e w' ⟨rfl, hb⟩
  exact ⟨_, rfl, λ_ => rfl, hb⟩
 ·refine (rKeyAny_any k w).mono ?_
  rintro e w' ⟨K, rfl, hb⟩
  exact ⟨K, rfl, λh' => absurd h' h, hb⟩
theorem getX_any {m : Option Nat} {l : List Fs.Item} {w : World} (h : Sv w m l) (K : ByteArray) : Calls prog 32 #[pv m, .string K] w λe w' => ∃ v b, e = .returned (.tuple #[.string v, .bool b]) /\ (∀ i x, 1 <= i /\ i <= 2147483647 -> K = Fs.key i -> Fs.node l i = some x -> v = Fs.txt x) /\ Below w.heap.size w w' := by
 cases hg : Tr.get (Fs.kv l) K with
 | none =>
  refine (mget_no h.rp K hg).mono ?_
  rintro e w' ⟨rfl, hb⟩
  refine ⟨_, _, rfl, λi x hi hk hn => ?_, hb⟩
  subst hk
  rw [get_node h (by omega), hn] at hg
  cases hg
 | some v =>
  refine (mget_there h.rp K v hg).mono ?_
  rintro e w' ⟨rfl, hb⟩
  refine ⟨_, _, rfl, λi x hi hk hn => ?_, hb⟩
  subst hk
  rw [get_node h (by omega), hn] at hg
  injection hg with hg
  exact hg.symm
open T6
theorem cloned_done {par l : List Fs.Item} (h : Okl l) {q : Fs.Cmd} (hk : q.kind = 9) (h0 : (Fs.doC env par l q).2 = 0) :
  ∃ x y, (1 <= q.ino /\ q.ino <= 2147483647) /\ Nd.Right less Nm.right x /\ Fs.node l q.ino = some x /\ Fs.node par q.src = some y /\ 0 <= q.from_ /\ 0 <= q.n /\ q.from_ + q.n <= (y.data.size : Int) /\
   (putR x.data.data.toList q.off ((y.data.data.toList.drop q.from_.toNat).take q.n.toNat)).2 = 0 /\
   Fs.node (Fs.doC env par l q).1 q.ino = some { x with data := lstr (putR x.data.data.toList q.off ((y.data.data.toList.drop q.from_.toNat).take q.n.toNat)).1 } := by
 have hd : Fs.doC env par l q = Fs.alter l q.ino (Fs.bytesR (Fs.cloneR env par q)) := by
  unfold Fs.doC
  rw [if_neg (by omega), if_neg (by omega), if_neg (by omega), if_neg (by omega), if_neg (by omega), if_neg (by omega), if_pos hk]
 rw [hd] at h0 |-
 unfold Fs.alter at h0 |-
 cases hn : Fs.node l q.ino with
 | none => rw [hn] at h0; exact absurd (show (4 : Int) = 0 from h0) (by decide)
 | some x =>
  have hx := h.node hn
  rw [hn] at h0
  dsimp only at h0 |-
  by_cases hb : (Fs.bytesR (Fs.cloneR env par q) x).2 ≠ 0
  ·rw [if_pos hb] at h0; exact absurd h0 hb
  rw [if_neg hb]
  have hb0 := Decidable.of_not_not hb
  clear hb h0
  unfold Fs.bytesR at hb0 |-
  by_cases hf : Fs.fileE x ≠ 0
  ·rw [if_pos hf] at hb0; exact absurd hb0 hf
  rw [if_neg hf] at hb0 |-
  dsimp only at hb0 |-
  clear hf
  unfold Fs.cloneR at hb0 |-
  cases hp : Fs.node par q.src with
  | none => rw [hp] at hb0; exact absurd (show (4 : Int) = 0 from hb0) (by decide)
  | some y =>
   rw [hp] at hb0
   dsimp only at hb0 |-
   by_cases hy : Fs.fileE y ≠ 0
   ·rw [if_pos hy] at hb0; exact absurd hb0 hy
   rw [if_neg hy] at hb0 |-
   have hb1 : (copyR x.data.data.toList q.off y.data.data.toList q.from_ q.n).2 = 0 := hb0
   have hl : (y.data.data.toList.length : Int) = (y.data.size : Int) := by rw [show y.data.data.toList.length = y.data.size from Array.length_toList]
   by_cases hc : q.from_ < 0 \/ q.n < 0 \/ (y.data.data.toList.length : Int) < q.from_ + q.n
   ·unfold copyR at hb1; rw [if_pos hc] at hb1; exact absurd hb1 (by decide)
   have hcp : copyR x.data.data.toList q.off y.data.data.toList q.from_ q.n = putR x.data.data.toList q.off ((y.data.data.toList.drop q.from_.toNat).take q.n.toNat) := by unfold copyR; rw [if_neg hc]
   rw [hcp] at hb1
   refine ⟨x, y, hx.2, hx.1, rfl, rfl, by omega, by omega, by omega, hb1, ?_⟩
   show Fs.node (Fs.insL l q.ino { x with data := lstr (copyR x.data.data.toList q.off y.data.data.toList q.from_ q.n).1 }) q.ino = _
   rw [Fs.node_insL h.inos, if_pos rfl, hcp]
end Go.Proofs.YthbajmlmjjfgpaaGreatDoor
namespace Go.Proofs.YthbajmlmjjfgpaaGreatDoor
open Go.RowKit Go.Less Go.Maps
open T8 (pv Dg)
open T6
theorem sem_eqself (t : TypeId) (a : ByteArray) : binOp .eql t (.string a) (.string a) = pure (.bool true) := by rw [sem_eql, alike_self]
theorem Bxs.turned {g : Nat} {w W W' : World} {L : List Bo} (h : Bxs w L W) (ht : Turn g W W') (hg : w.heap.size <= g) (hne : ∀ (i : Nat) (b : Bo), L[i]? = some b -> b.1 ≠ g) : Bxs w L W' :=
 ⟨λi b hi => ht.obj (h.at_ i b hi) (hne i b hi), h.lo, h.apart, turn_below h.below ht hg⟩
theorem one_ne {p g : Nat} {cs : Array Value} {t : TypeId} (h : p ≠ g) (i : Nat) (b : Bo) (hi : [(p, cs, t)][i]? = some b) : b.1 ≠ g := by
 match i, hi with
 | 0, hi => injection hi with hi; subst hi; exact h
 | i + 1, hi => simp at hi
theorem Fo.keptBox {p : Nat} {T : TypeId} {W W' : World} {g : Nat} {f : Fs.FS} (h : Fo W g f) (hk : Kept p T W W') (hD : Dg W') (h1 : T ≠ 110) : Fo W' g f := by
 obtain ⟨m, h2, h3⟩ := h
 exact ⟨m, hk.block h2 h1, h3.kept hk hD⟩
theorem Stg.keptBox {p0 : Nat} {T : TypeId} {W W' : World} {g p : Nat} {f : Fs.FS} {l : List Fs.Item} (h : Stg W g p f l) (hk : Kept p0 T W W') (hD : Dg W') (h1 : T ≠ 110) (h2 : T ≠ 117) : Stg W' g p f l := by
 obtain ⟨⟨m, h3, h4⟩, h5, h6, h7⟩ := h
 exact ⟨⟨m, hk.block h3 h2, h4.kept hk hD⟩, h5.keptBox hk hD h1, h6, h7⟩
attribute [local go_sem 9000] sem_eql sem_neq
attribute [local go_sem 9500] sem_eqself
theorem cmdParents_any (a : Option Addr) (n cap : Nat) (l : List Fs.Op) (a2 : Option Addr) (n2 cap2 : Nat) (l2 : List Fs.Cmd) (k0 c0 c1 c2 c3 c4 : Int) (b0 b1 : ByteArray) (w : World) (hS : Opr a n l w) (hS2 : Cpr a2 n2 l2 w) (hn : n <= 140737488355328) (hn2 : n2 <= 140737488355328) (hq : CmdOk ⟨k0, c0, c1, c2, c3, c4, b0, b1⟩) (hD : Dg w) (hT : Tn w) :
  Calls prog 6 #[.slice a n cap, .slice a2 n2 cap2, .agg #[.int .i64 k0, .int .i64 c0, .int .i64 c1, .int .i64 c2, .int .i64 c3, .int .i64 c4, .string b0, .string b1]] w λe w' => e = .returned (.bool true) /\ Below w.heap.size w w' := by
 have HB := hid (show Bxs w [(w.heap.size, #[.int .i64 k0, .int .i64 c0, .int .i64 c1, .int .i64 c2, .int .i64 c3, .int .i64 c4, .string b0, .string b1], 23)] (w.alloc (.cells #[.int .i64 k0, .int .i64 c0, .int .i64 c1, .int .i64 c2, .int .i64 c3, .int .i64 c4, .string b0, .string b1] 23)) from Bxs.one w _ _)
 have HAw := hid (λW (hb : Below w.heap.size w W) => awake13_any W (hD.below hb) (hT.below hb))
 have HSr := hid (λW (hb : Below w.heap.size w W) => hS.below hb)
 have HSq := hid (λW (hb : Below w.heap.size w W) => hS2.below hb)
 have HDg := hid (λW (hb : Below w.heap.size w W) => hD.below hb)
 have HN2 := hid hS2.count
 have HN := hid hS.count
 have HOk := hid hS2.ok
 have HFw := hid (λW (hb : Below w.heap.size w W) => few_any a n cap l W (hS.below hb) hn)
 have HFx := hid (λW (hb : Below w.heap.size w W) => few13_any a2 n2 cap2 l2 W (hS2.below hb) hn2)
 have HQk := hid (show CmdOk ⟨9, c0, c1, c2, c3, c4, b0, b1⟩ from ⟨hq.ino0, hq.ino1, hq.src0, hq.src1, hq.off, hq.from_, hq.n, hq.name, hq.data⟩)
 clear hS hS2 hD hT hq
 cases hfew : few11 l with
 | false =>
  rw [hfew] at HFw
  go_enter func6, ntmps6
  go_wp2_with fail
  generalize w.alloc (.cells #[.int .i64 k0, .int .i64 c0, .int .i64 c1, .int .i64 c2, .int .i64 c3, .int .i64 c4, .string b0, .string b1] 23) = W0 at HB |-
  refine (HAw.out W0 HB.out.below).mono ?_
  rintro e w1 ⟨rfl, hb⟩
  have HB := hid (HB.out.kept hb)
  clear hb HAw
  dsimp only
  go_wp2_with fail
  refine (HFw.out w1 HB.out.below).mono ?_
  rintro e w2 ⟨rfl, hb⟩
  have HB := hid (HB.out.kept hb)
  clear hb HFw
  dsimp only
  go_wp2_with fail
  go_ret
  exact ⟨rfl, HB.out.below⟩
 | true =>
 rw [hfew] at HFw
 cases hfew2 : few13 l2 with
 | false =>
  rw [hfew2] at HFx
  go_enter func6, ntmps6
  go_wp2_with fail
  generalize w.alloc (.cells #[.int .i64 k0, .int .i64 c0, .int .i64 c1, .int .i64 c2, .int .i64 c3, .int .i64 c4, .string b0, .string b1] 23) = W0 at HB |-
  refine (HAw.out W0 HB.out.below).mono ?_
  rintro e w1 ⟨rfl, hb⟩
  have HB := hid (HB.out.kept hb)
  clear hb HAw
  dsimp only
  go_wp2_with fail
  refine (HFw.out w1 HB.out.below).mono ?_
  rintro e w2 ⟨rfl, hb⟩
  have HB := hid (HB.out.kept hb)
  clear hb HFw
  dsimp only
  go_wp2_with fail
  refine (HFx.out w2 HB.out.below).mono ?_
  rintro e w3 ⟨rfl, hb⟩
  have HB := hid (HB.out.kept hb)
  clear hb HFx
  dsimp only
  go_wp2_with fail
  go_ret
  exact ⟨rfl, HB.out.below⟩
 | true =>
  rw [hfew2] at HFx
  have hln := few_len hfew
  have hln2 := few13_len hfew2
  have hnl : n <= 120 := by rw [HN.out]; exact hln
  have hn2l : n2 <= 150 := by rw [HN2.out]; exact hln2
  have hn2i : (n2 : Int) <= 150 := by omega
  have HDn := hid (λW (hb : Below w.heap.size w W) => done_any a n cap l W (HSr.out W hb) (by omega) (HDg.out W hb))
  obtain ⟨hG, hnx⟩ := done_all (l := l) (by omega)
  generalize doneF Fs.new l = f at *
  have HP := hid (Okc.of hG.toHalf (by omega))
  have HNs := hid (λq W (h : Fo W q f) => cNew_any h HP.out)
  have HMp := hid (λg p L W (h : Stg W g p f L) => cMap_any h)
  have HGx := hid (λm L W (h : Sv W m L) K => getX_any h K)
  have HKx := hid (λW => rKeyX_any c0 W)
  have HNd := hid (λq W (h : Fo W q f) => qNode_any h c1)
  have HC := hid (λk (hk : k < n2) W (hb : Below w.heap.size w W) => (HSq.out W hb).cell k hk)
  clear hfew hfew2 hn hn2 hln hln2 hG hnx HSr HSq HN hnl
  go_enter func6, ntmps6
  go_wp2_with fail
  generalize w.alloc (.cells #[.int .i64 k0, .int .i64 c0, .int .i64 c1, .int .i64 c2, .int .i64 c3, .int .i64 c4, .string b0, .string b1] 23) = W0 at HB |-
  refine (HAw.out W0 HB.out.below).mono ?_
  rintro e w1 ⟨rfl, hb⟩
  have HB := hid (HB.out.kept hb)
  clear hb HAw
  dsimp only
  go_wp2_with fail
  refine (HFw.out w1 HB.out.below).mono ?_
  rintro e w2 ⟨rfl, hb⟩
  have HB := hid (HB.out.kept hb)
  clear hb HFw
  dsimp only
  go_wp2_with fail
  refine (HFx.out w2 HB.out.below).mono ?_
  rintro e w3 ⟨rfl, hb⟩
  have HB := hid (HB.out.kept hb)
  clear hb HFx
  dsimp only
  go_wp2_with fail
  refine (HDn.out w3 HB.out.below).mono ?_
  rintro e w4 ⟨gf, rfl, hF, hg, hb⟩
  have HB := hid (HB.out.kept hb)
  have HFf := hid hF
  clear hF hg hb HDn
  dsimp only
  go_wp2_with fail
  refine (HNs.out gf w4 HFf.out).mono ?_
  rintro e w5 ⟨gs, p, rfl, hS, hg, -, hb⟩
  have HGs := hid (Nat.le_trans HB.out.below.size hg)
  have HGn := hid (show w.heap.size ≠ gs from by have := lt_of_obj (HB.out.obj 0 rfl); omega)
  have HGf := hid (show gf ≠ gs from by have := HFf.out.lt; omega)
  have HB := hid (HB.out.kept hb)
  have HFf := hid (HFf.out.below hb)
  have HSs := hid hS
  clear hS hg hb HNs
  dsimp only
  go_wp2_with fail
  go_loopw [9] (λx9 wr => ∃ (k : Nat), k <= n2 /\ x9 = .int .i64 k /\ Stg wr gs p f (doneC f.l f.l (l2.take k)) /\ Fo wr gf f /\ Bxs w [(w.heap.size, #[.int .i64 k0, .int .i64 c0, .int .i64 c1, .int .i64 c2, .int .i64 c3, .int .i64 c4, .string b0, .string b1], 23)] wr) (λx9 _ => n2 - (intOf x9).toNat)
  case atStart => exact ⟨0, Nat.zero_le _, rfl, HSs.out, HFf.out, HB.out⟩
  case round =>
   clear HSs HB HFf
   obtain ⟨k, hk, rfl, hS, hF, hB⟩ := hrel
   have HSs := hid hS
   have HFf := hid hF
   have HB := hid hB
   clear hS hF hB
   by_cases hlt : k < n2
   ·have k0i : (k : Int) < (n2 : Int) := by omega
    have hk0 : (0 : Int) <= (k : Int) := by omega
    have hkl : k < l2.length := by rw [<- HN2.out]; exact hlt
    obtain ⟨b, off, rfl, hc⟩ := HC.out k hlt w (Below.refl _ _)
    have HCt := hid (λW (hb : Below w.heap.size w W) => cmd_cells (cmds_at hc (W := W) hb))
    have HM := hid (doneC_more (par := f.l) (l := f.l) hkl)
    have hok := cmds_ok HOk.out hkl
    have HDo := hid (λg p W (h : Stg W g p f (doneC f.l f.l (l2.take k))) => cDo_any h (l2.getD k cmd0) hok)
    generalize doneC f.l f.l (l2.take k) = L at *
    generalize l2.getD k cmd0 = q at *
    obtain ⟨L2, hL2⟩ : ∃ L2, doneC f.l f.l (l2.take (k + 1)) = L2 := ⟨_, rfl⟩
    have HL2 := hid hL2
    rw [hL2] at HM
    clear hL2
    rw [<- HM.out] at HDo
    generalize (Fs.doC env f.l L q).2 = cd at *
    obtain ⟨q0, q1, q2, q3, q4, q5, q6, q7⟩ := q
    have hcc := HCt.out wr HB.out.below
    clear hc hok HM
    go_wp2_with fail
    refine (HDo.out gs p wr HSs.out).mono ?_
    rintro e w6 ⟨rfl, hS6, hT6⟩
    have HFf := hid (HSs.out.fo hT6 HFf.out)
    have HB := hid (HB.out.turned hT6 HGs.out (one_ne HGn.out))
    have HSs := hid hS6
    clear hS6 hT6 hcc
    dsimp only
    go_wp2_with fail
    go_roundw
    case rel => exact ⟨k + 1, by omega, by go_num, by rw [HL2.out]; exact HSs.out, HFf.out, HB.out⟩
    case measure => simp [intOf]; omega
   ·obtain rfl : k = n2 := by omega
    have hge : ¬ ((k : Int) < (k : Int)) := by omega
    have hOkL := doneC_ok (par := f.l) HP.out (l2.take k)
    generalize doneC f.l f.l (l2.take k) = L at *
    have HOkL := hid hOkL
    have HDo := hid (λW (h : Stg W gs p f L) => cDo_any h ⟨9, c0, c1, c2, c3, c4, b0, b1⟩ HQk.out)
    have HCd := hid (λh0 => cloned_done (par := f.l) hOkL.toOkl (q := ⟨9, c0, c1, c2, c3, c4, b0, b1⟩) rfl h0)
    have HOk2 := hid (hOkL.doC (par := f.l) ⟨9, c0, c1, c2, c3, c4, b0, b1⟩)
    obtain ⟨⟨L2, cd⟩, hR⟩ : ∃ R, Fs.doC env f.l L ⟨9, c0, c1, c2, c3, c4, b0, b1⟩ = R := ⟨_, rfl⟩
    rw [hR] at HDo HCd HOk2
    dsimp only at HDo HCd HOk2
    clear hOkL hR hlt hk
    go_wp2_with fail
    have HSy := hid (show ∀ W, Below wr.heap.size wr W -> W.cell? ⟨w.heap.size, 1, none⟩ = some (.int .i64 c0) /\ Below wr.heap.size wr W from λW hw => ⟨(HB.out.kept hw).cell 0 rfl 1, hw⟩)
    have HSs0 := hid (λW (hw : Below wr.heap.size wr W) => HSs.out.below hw)
    have hBd := (Below.refl wr.heap.size wr).drew
    go_region_held3 (λW => W.cell? ⟨w.heap.size, 1, none⟩ = some (.int .i64 c0) /\ Below wr.heap.size wr W)
     (first | exact HSy.out _ (by assumption) | assumption)
     (first
      | (go_at_call 22; (with_reducible refine (HMp.out gs p _ _ (HSs0.out _ (bnd2 (by assumption)))).mono ?_); rintro e wa ⟨ma, rfl, hva, rfl⟩)
      | (go_at_call 33; (with_reducible refine (HKx.out _).mono ?_); rintro e wb ⟨K1, rfl, hK1, hwb⟩; have hbb := T8.btrans hwb (bnd2 (by assumption)); have hvb := hva.below hwb)
      | (go_at_call 32; (with_reducible refine (HGx.out _ _ _ hvb K1).mono ?_); rintro e wc1 ⟨v1, bb1, rfl, hv1, hwc⟩; have hbc := T8.btrans hwc (bnd2 (by assumption))))
    have HB := hid (HB.out.kept hbc)
    have HSs := hid (HSs0.out _ hbc)
    have HFf := hid (HFf.out.below hbc)
    have Hv1 := hid (λx hi hn => hv1 c0 x hi (hK1 hi) hn)
    clear hv1 hK1 hbc hwc hbb hwb hvb hva hBd HSy HSs0
    have hx := HB.out.c8 0 rfl
    have fz := HB.out.free 0 rfl 0
    have HB2 := hid (show Bxs w [(w.heap.size, #[.int .i64 9, .int .i64 c0, .int .i64 c1, .int .i64 c2, .int .i64 c3, .int .i64 c4, .string b0, .string b1], 23)] (wc1.setCell ⟨w.heap.size, 0, none⟩ (.int .i64 9)) from HB.out.put 0 rfl 0 (.int .i64 9))
    have hy := HB2.out.c8 0 rfl
    have HKb := hid (Kept.cell (HB.out.obj 0 rfl) (by decide) (by decide) 0 (.int .i64 9))
    have HSs := hid (HSs.out.keptBox HKb.out (HDg.out _ HB2.out.below) (by decide) (by decide))
    have HFf := hid (HFf.out.keptBox HKb.out (HDg.out _ HB2.out.below) (by decide))
    clear HKb HB
    go_wp2_with fail
    generalize wc1.setCell ⟨w.heap.size, 0, none⟩ (.int .i64 9) = W6 at HB2 hy HSs HFf |-
    refine (HDo.out W6 HSs.out).mono ?_
    rintro e w7 ⟨rfl, hS7, hT7⟩
    have HFf := hid (HSs.out.fo hT7 HFf.out)
    have HB := hid (HB2.out.turned hT7 HGs.out (one_ne HGn.out))
    have HSs := hid hS7
    clear hS7 hT7 hx hy fz HB2 HDo
    dsimp only
    by_cases hcd : cd = 0
    ·subst hcd
     obtain ⟨x, y, hin, hxR, hn1, hp, hf0, hn0, hfn, hput, hn2⟩ := HCd.out rfl
     have hzR := (HOk2.out.node hn2).1
     obtain rfl := Hv1.out x hin hn1
     clear HCd HOk2 HOkL Hv1 hn1
     have HIn := hid hin
     have HN2b := hid hn2
     clear hin hn2
     go_wp2_with fail
     have HSy := hid (show ∀ W, Below w7.heap.size w7 W -> W.cell? ⟨w.heap.size, 1, none⟩ = some (.int .i64 c0) /\ Below w7.heap.size w7 W from λW hw => ⟨(HB.out.kept hw).cell 0 rfl 1, hw⟩)
     have HSs0 := hid (λW (hw : Below w7.heap.size w7 W) => HSs.out.below hw)
     have hBd := (Below.refl w7.heap.size w7).drew
     go_region_held3 (λW => W.cell? ⟨w.heap.size, 1, none⟩ = some (.int .i64 c0) /\ Below w7.heap.size w7 W)
      (first | exact HSy.out _ (by assumption) | assumption)
      (first
       | (go_at_call 22; (with_reducible refine (HMp.out gs p _ _ (HSs0.out _ (bnd2 (by assumption)))).mono ?_); rintro e wa ⟨ma, rfl, hva, rfl⟩)
       | (go_at_call 33; (with_reducible refine (HKx.out _).mono ?_); rintro e wb ⟨K2, rfl, hK2, hwb⟩; have hbb := T8.btrans hwb (bnd2 (by assumption)); have hvb := hva.below hwb)
       | (go_at_call 32; (with_reducible refine (HGx.out _ _ _ hvb K2).mono ?_); rintro e wc2 ⟨v2, bb2, rfl, hv2, hwc⟩; have hbc := T8.btrans hwc (bnd2 (by assumption))))
     have HB := hid (HB.out.kept hbc)
     have HSs := hid (HSs0.out _ hbc)
     have HFf := hid (HFf.out.below hbc)
     have Hv2 := hid (λx hi hn => hv2 c0 x hi (hK2 hi) hn)
     clear hv2 hK2 hbc hwc hbb hwb hvb hva hBd HSy HSs0
     obtain rfl := Hv2.out _ HIn.out HN2b.out
     clear Hv2 HIn HN2b HMp HGx HKx
     obtain ⟨xk, xm, xd, xt, xe⟩ := x
     obtain ⟨yk, ym, yd, yt, ye⟩ := y
     have hf0 : 0 <= c3 := hf0
     have hn0 : 0 <= c4 := hn0
     have hfn : c3 + c4 <= (yd.size : Int) := hfn
     have hp : Fs.node f.l c1 = some ⟨yk, ym, yd, yt, ye⟩ := hp
     obtain ⟨fr, rfl⟩ : ∃ fr : Nat, c3 = fr := ⟨c3.toNat, by omega⟩
     obtain ⟨nn, rfl⟩ : ∃ nn : Nat, c4 = nn := ⟨c4.toNat, by omega⟩
     obtain ⟨m, hm⟩ : ∃ m, fr + nn = m := ⟨_, rfl⟩
     have hsub : (yd.extract fr m).data.toList = (yd.data.toList.drop fr).take nn := by rw [<- hm, cut_text yd fr nn (by omega)]; rfl
     obtain ⟨⟨zl, zc⟩, hzz⟩ : ∃ r, putR xd.data.toList c2 ((yd.data.toList.drop fr).take nn) = r := ⟨_, rfl⟩
     have hput : zc = 0 := by
      have h : (putR xd.data.toList c2 ((yd.data.toList.drop fr).take nn)).2 = 0 := hput
      rw [hzz] at h; exact h
     subst hput
     have hzR : Nd.Right less Nm.right ⟨xk, xm, lstr zl, xt, xe⟩ := by
      have h : Nd.Right less Nm.right ⟨xk, xm, lstr (putR xd.data.toList c2 ((yd.data.toList.drop fr).take nn)).1, xt, xe⟩ := hzR
      rw [hzz] at h; exact h
     rw [show (Fs.txt { kind := xk, mode := xm, data := lstr (putR xd.data.toList c2 ((yd.data.toList.drop ((fr : Int)).toNat).take ((nn : Int)).toNat)).1, target := xt, ents := xe }) = Fs.txt ⟨xk, xm, lstr zl, xt, xe⟩ from by rw [Int.toNat_natCast, Int.toNat_natCast, hzz]]
     have hds := data_size hxR
     have hdy : yd.size <= 4096 := data_size (HP.out.node hp).1
     have hPo := HQk.out.off
     have hPt : ∀ W, Calls prog 36 #[.string xd, .int .i64 c2, .string (yd.extract fr m)] W (λe w' => e = .returned (.tuple #[.string (lstr zl), .int .i64 0]) /\ Below W.heap.size W w') := λW => by
      have h := T6.put_any xd c2 (yd.extract fr m) W (Nat.le_trans hds (by decide)) (by rw [ByteArray.size_extract]; omega) hPo
      rw [hsub, hzz] at h
      exact h
     have HPt := hid hPt
     have HPa := hid (λW => (show Calls prog 34 #[.string (Fs.txt ⟨xk, xm, xd, xt, xe⟩)] W (Noded (⟨xk, xm, xd, xt, xe⟩, 0) W) from by have h := refParse_any (Fs.txt ⟨xk, xm, xd, xt, xe⟩) W (Nat.le_trans (txt_size hxR) (by decide)); rw [parse_txt hxR] at h; exact h))
     have HPb := hid (λW => (show Calls prog 34 #[.string (Fs.txt ⟨xk, xm, lstr zl, xt, xe⟩)] W (Noded (⟨xk, xm, lstr zl, xt, xe⟩, 0) W) from by have h := refParse_any (Fs.txt ⟨xk, xm, lstr zl, xt, xe⟩) W (Nat.le_trans (txt_size hzR) (by decide)); rw [parse_txt hzR] at h; exact h))
     have HNe := hid (λW (h : Fo W gf f) => (show Calls prog 35 #[ptg gf, .int .i64 c1] W (λe w' => ∃ ea ec, e = .returned (.tuple #[nv yk ym yd yt ea ye.length ec, .bool true]) /\ Ents ea ye.length ye w' /\ Below W.heap.size W w') from by have h1 := HNd.out gf W h; unfold Node11 Fs.nodeD at h1; rw [hp] at h1; exact h1))
     have hyl : (yd.size : Int) <= 4096 := by omega
     have q1 : ¬ ((fr : Int) < 0) := by omega
     have q2 : ¬ ((nn : Int) < 0) := by omega
     have q3 : IntKind.i64.wrap ((yd.size : Int) - (nn : Int)) = (yd.size : Int) - (nn : Int) := IntWalk.i64_in _ (by omega)
     have q4 : ¬ ((yd.size : Int) - (nn : Int) < (fr : Int)) := by omega
     have hmi : (fr : Int) + (nn : Int) = (m : Int) := by omega
     have q5 : IntKind.i64.wrap ((fr : Int) + (nn : Int)) = (m : Int) := by rw [hmi]; exact IntWalk.i64_in _ (by omega)
     have q6 : (0 : Int) <= (fr : Int) := by omega
     have q13 : IntKind.i64.wrap (m : Int) = (m : Int) := IntWalk.i64_in _ (by omega)
     have q7 : (fr : Int) <= (m : Int) := by omega
     have q8 : (m : Int) <= (yd.size : Int) := by omega
     have q9 : fr <= m := by omega
     have q10 : m <= yd.size := by omega
     have q11 : ¬ (m : Int) < (fr : Int) := by omega
     have q12 : ¬ (yd.size : Int) < (m : Int) := by omega
     generalize Fs.txt ⟨xk, xm, xd, xt, xe⟩ = T1 at *
     generalize Fs.txt ⟨xk, xm, lstr zl, xt, xe⟩ = T2 at *
     generalize lstr zl = zd at *
     clear hmi hf0 hn0 hfn hp hm hsub hzz hzR hxR hds hdy hPo hPt hyl HNd
     go_wp2_with fail
     refine (HPa.out _).mono ?_
     rintro e w8 ⟨a1, e1, rfl, -, hb8⟩
     have HB := hid ((HB.out.kept hb8).more #[.int .i64 xk, .int .i64 xm, .string xd, .string xt, .slice a1 xe.length e1] 67 rfl)
     have HFf := hid ((HFf.out.below hb8).below (below_one w8 (.cells #[.int .i64 xk, .int .i64 xm, .string xd, .string xt, .slice a1 xe.length e1] 67)))
     clear hb8 HPa
     dsimp only
     go_wp2_with fail
     generalize w8.alloc (.cells #[.int .i64 xk, .int .i64 xm, .string xd, .string xt, .slice a1 xe.length e1] 67) = W8 at HB HFf |-
     generalize w8.heap.size = p8 at HB |-
     refine (HPb.out W8).mono ?_
     rintro e w9 ⟨a2, e2, rfl, -, hb9⟩
     have HB := hid ((HB.out.kept hb9).more #[.int .i64 xk, .int .i64 xm, .string zd, .string xt, .slice a2 xe.length e2] 67 rfl)
     have HFf := hid ((HFf.out.below hb9).below (below_one w9 (.cells #[.int .i64 xk, .int .i64 xm, .string zd, .string xt, .slice a2 xe.length e2] 67)))
     clear hb9 HPb
     dsimp only
     have hx9 := HB.out.c8 0 rfl
     go_wp2_with fail
     generalize w9.alloc (.cells #[.int .i64 xk, .int .i64 xm, .string zd, .string xt, .slice a2 xe.length e2] 67) = W9 at HB HFf hx9 |-
     generalize w9.heap.size = p9 at HB |-
     refine (HNe.out W9 HFf.out).mono ?_
     rintro e w10 ⟨a3, e3, rfl, -, hb10⟩
     have HB := hid ((HB.out.kept hb10).more #[.int .i64 yk, .int .i64 ym, .string yd, .string yt, .slice a3 ye.length e3] 67 rfl)
     clear hb10 HNe hx9 HFf HSs
     dsimp only
     have hx := HB.out.c8 0 rfl
     have hz := HB.out.c5 3 rfl
     go_wp2_with fail
     clear hx hz
     generalize w10.alloc (.cells #[.int .i64 yk, .int .i64 ym, .string yd, .string yt, .slice a3 ye.length e3] 67) = W10 at HB |-
     generalize w10.heap.size = p10 at HB |-
     have HSx := hid (show ∀ W, Below W10.heap.size W10 W -> (W.cell? ⟨w.heap.size, 3, none⟩ = some (.int .i64 c2) /\ W.cell? ⟨w.heap.size, 4, none⟩ = some (.int .i64 fr) /\ W.cell? ⟨w.heap.size, 5, none⟩ = some (.int .i64 nn) /\ W.cell? ⟨p8, 2, none⟩ = some (.string xd) /\ W.cell? ⟨p10, 2, none⟩ = some (.string yd)) /\ Below W10.heap.size W10 W from λW hw => by
      have h := HB.out.kept hw
      exact ⟨⟨h.cell 0 rfl 3, h.cell 0 rfl 4, h.cell 0 rfl 5, h.cell 1 rfl 2, h.cell 3 rfl 2⟩, hw⟩)
     have hBd := (Below.refl W10.heap.size W10).drew
     go_region_held3 (λW => (W.cell? ⟨w.heap.size, 3, none⟩ = some (.int .i64 c2) /\ W.cell? ⟨w.heap.size, 4, none⟩ = some (.int .i64 fr) /\ W.cell? ⟨w.heap.size, 5, none⟩ = some (.int .i64 nn) /\ W.cell? ⟨p8, 2, none⟩ = some (.string xd) /\ W.cell? ⟨p10, 2, none⟩ = some (.string yd)) /\ Below W10.heap.size W10 W)
      (first | exact HSx.out _ (by assumption) | assumption)
      (first | (go_at_call 36; (with_reducible refine (HPt.out _).mono ?_); rintro e w11 ⟨rfl, hw11⟩; have hb11 := T8.btrans hw11 (bnd2 (by assumption))))
     have HB := hid (HB.out.kept hb11)
     clear hb11 hw11 HSx hBd HPt
     have hz1 := HB.out.c5 1 rfl
     have hz2 := HB.out.c5 2 rfl
     go_wp2_with fail
     go_ret
     exact ⟨rfl, HB.out.below⟩
    ·have he0 : (cd == 0) = false := by simpa using hcd
     clear HCd HOk2 HOkL Hv1 hcd
     go_wp2_with fail
     go_ret
     exact ⟨rfl, HB.out.below⟩
end Go.Proofs.YthbajmlmjjfgpaaGreatDoor
