/- The document's Print. -/
import Derived.Test.YteieehjggiiljaaRefNode
import Derived.Test.YteieehjggiiljaaNum
import Derived.Deep.RegionHeld3
namespace Go.Proofs.Yteieehjggiiljaa
set_option maxRecDepth 100000
open Go.RowKit Go.Less
attribute [local go_sem 9000] sem_eql sem_neq sem_lss sem_leq sem_gtr sem_geq
/-- What Print answers. -/
def prt (x : Nd.Node) : ByteArray × Int := if Nd.right less Nm.right x = true then (lstr (Nd.text x), 0) else (⟨#[]⟩, 2)
def Printed (x : Nd.Node) (w : World) (e : Ending) (w' : World) : Prop := e = .returned (.tuple #[.string (prt x).1, .int .i64 (prt x).2]) ∧ Below w.heap.size w w'
theorem nm_len {l : List UInt8} (h : Nm.right l = true) : l.length ≤ 16 := by
  unfold Nm.right at h
  simp only [Bool.and_eq_true, decide_eq_true_eq] at h
  omega
/-- A text's head. -/
def hdr (k m : Int) (d t : ByteArray) : ByteArray := numStr k.toNat 1 ++ numStr m.toNat 2 ++ d ++ t
/-- The text so far. -/
def acc (k m : Int) (d t : ByteArray) (l : List En) : ByteArray := hdr k m d t ++ lstr (l.map Nd.entText).flatten
theorem acc_nil (k m : Int) (d t : ByteArray) : acc k m d t [] = hdr k m d t := by
  unfold acc
  rw [List.map_nil, List.flatten_nil]
  apply ByteArray.ext
  rw [ByteArray.data_append]
  show _ ++ #[] = _
  simp
theorem acc_snoc (k m : Int) (d t : ByteArray) (l : List En) (x : En) : acc k m d t (l ++ [x]) = acc k m d t l ++ numStr x.1.size 1 ++ x.1 ++ numStr x.2.toNat 4 := by
  unfold acc
  apply ByteArray.ext
  apply Array.ext'
  simp only [ByteArray.data_append, Array.toList_append, numStr_data, num_one, num_four, lstr_data, List.map_append, List.flatten_append, List.map_cons, List.map_nil, List.flatten_cons, List.flatten_nil, Nd.entText, Nd.bs, List.append_nil, List.append_assoc, List.cons_append, List.nil_append]
theorem acc_text (k m : Int) (d t : ByteArray) (l : List En) : acc k m d t l = lstr (Nd.text ⟨k, m, d, t, l⟩) := by
  unfold acc hdr
  apply ByteArray.ext
  apply Array.ext'
  simp only [ByteArray.data_append, Array.toList_append, numStr_data, num_one, num_two, lstr_data, Nd.text, Nd.bs, List.append_assoc, List.cons_append, List.nil_append]
theorem bsize_append (a b : ByteArray) : (a ++ b).size = a.size + b.size := ByteArray.size_append
theorem hdr_size (k m : Int) (d t : ByteArray) : (hdr k m d t).size = 3 + d.size + t.size := by
  unfold hdr
  rw [bsize_append, bsize_append, bsize_append, numStr_size, numStr_size]
theorem acc_size {k m : Int} {d t : ByteArray} {l : List En} (h : ∀ x ∈ l, x.1.size ≤ 16 ∧ 0 ≤ x.2) : (acc k m d t l).size ≤ 3 + d.size + t.size + 21 * l.length := by
  induction l using Nd.snoc_rec with
  | nil => rw [acc_nil, hdr_size]; simp
  | append_singleton l x ih =>
    have hx := h x (by simp)
    have := ih (fun y hy => h y (by simp [hy]))
    rw [acc_snoc, bsize_append, bsize_append, bsize_append, numStr_size, numStr_size, List.length_append, List.length_singleton]
    omega
/-- The box of the node as it is held, behind a world. -/
structure PB (w w1 : World) (k m : Int) (d t : ByteArray) (W : World) : Prop where
  c0 : W.cell? ⟨w.heap.size, 0, none⟩ = some (.int .i64 k)
  c1 : W.cell? ⟨w.heap.size, 1, none⟩ = some (.int .i64 m)
  c2 : W.cell? ⟨w.heap.size, 2, none⟩ = some (.string d)
  c3 : W.cell? ⟨w.heap.size, 3, none⟩ = some (.string t)
  below : Below w1.heap.size w1 W
theorem PB.kept {w w1 : World} {k m : Int} {d t : ByteArray} {W W' : World} (h : PB w w1 k m d t W) (hb : Below W.heap.size W W') : PB w w1 k m d t W' :=
  ⟨(hb.cell (block_lt_of_cell h.c0)).trans h.c0, (hb.cell (block_lt_of_cell h.c1)).trans h.c1, (hb.cell (block_lt_of_cell h.c2)).trans h.c2, (hb.cell (block_lt_of_cell h.c3)).trans h.c3, h.below.trans (hb.mono h.below.size)⟩
theorem PB.drew {w w1 : World} {k m : Int} {d t : ByteArray} {W : World} (h : PB w w1 k m d t W) : PB w w1 k m d t W.drew := ⟨h.c0, h.c1, h.c2, h.c3, h.below.drew⟩
theorem getPB {w w1 : World} {k m : Int} {d t : ByteArray} {W : World} (h : W.cell? ⟨w.heap.size, 0, none⟩ = some (.int .i64 k) ∧ W.cell? ⟨w.heap.size, 1, none⟩ = some (.int .i64 m) ∧ W.cell? ⟨w.heap.size, 2, none⟩ = some (.string d) ∧ W.cell? ⟨w.heap.size, 3, none⟩ = some (.string t) ∧ PB w w1 k m d t W) : PB w w1 k m d t W := h.2.2.2.2
theorem PB.all {w w1 : World} {k m : Int} {d t : ByteArray} {W : World} (h : PB w w1 k m d t W) : W.cell? ⟨w.heap.size, 0, none⟩ = some (.int .i64 k) ∧ W.cell? ⟨w.heap.size, 1, none⟩ = some (.int .i64 m) ∧ W.cell? ⟨w.heap.size, 2, none⟩ = some (.string d) ∧ W.cell? ⟨w.heap.size, 3, none⟩ = some (.string t) ∧ PB w w1 k m d t W := ⟨h.c0, h.c1, h.c2, h.c3, h⟩
theorem kpos {x : Nd.Node} (h : Nd.Right less Nm.right x) : 0 ≤ x.kind ∧ x.kind ≤ 3 := by
  rcases h.kinds with ⟨h, _⟩ | ⟨h, _⟩ | ⟨h, _⟩ <;> omega
theorem dsz {x : Nd.Node} (h : Nd.Right less Nm.right x) : x.data.size ≤ 4096 ∧ x.target.size ≤ 64 := by
  rcases h.kinds with ⟨_, h1, _, h2⟩ | ⟨_, h1, h2⟩ | ⟨_, h1, _, _, h2⟩
  · rw [h1]; exact ⟨h2, Nat.zero_le _⟩
  · rw [h1, h2]; exact ⟨Nat.zero_le _, Nat.zero_le _⟩
  · rw [h1]; exact ⟨Nat.zero_le _, h2⟩
theorem esz {x : Nd.Node} (h : Nd.Right less Nm.right x) : ∀ e ∈ x.ents, e.1.size ≤ 16 ∧ 0 ≤ e.2 ∧ e.2 ≤ 2147483647 := fun e he => by
  have h1 := h.ok e he
  have h2 := nm_len h1.1
  rw [Nd.len_bs] at h2
  exact ⟨h2, by omega, h1.2.2⟩
/-- An entry, the row that holds it, behind a world. -/
structure PE (w w1 : World) (a : Option Addr) (n cap b o : Nat) (y : ByteArray) (i : Int) (W : World) : Prop where
  c4 : W.cell? ⟨w.heap.size, 4, none⟩ = some (.slice a n cap)
  ce : W.cell? ⟨b, o, none⟩ = some (.string y)
  ci : W.cell? ⟨b, o + 1, none⟩ = some (.int .i64 i)
  below : Below w1.heap.size w1 W
theorem PE.kept {w w1 : World} {a : Option Addr} {n cap b o : Nat} {y : ByteArray} {i : Int} {W W' : World} (h : PE w w1 a n cap b o y i W) (hb : Below W.heap.size W W') : PE w w1 a n cap b o y i W' :=
  ⟨(hb.cell (block_lt_of_cell h.c4)).trans h.c4, (hb.cell (block_lt_of_cell h.ce)).trans h.ce, (hb.cell (block_lt_of_cell h.ci)).trans h.ci, h.below.trans (hb.mono h.below.size)⟩
theorem getPE {w w1 : World} {a : Option Addr} {n cap b o : Nat} {y : ByteArray} {i : Int} {W : World} (h : W.cell? ⟨w.heap.size, 4, none⟩ = some (.slice a n cap) ∧ W.cell? ⟨b, o, none⟩ = some (.string y) ∧ W.cell? ⟨b, o + 1, none⟩ = some (.int .i64 i) ∧ PE w w1 a n cap b o y i W) : PE w w1 a n cap b o y i W := h.2.2.2
theorem PE.all {w w1 : World} {a : Option Addr} {n cap b o : Nat} {y : ByteArray} {i : Int} {W : World} (h : PE w w1 a n cap b o y i W) : W.cell? ⟨w.heap.size, 4, none⟩ = some (.slice a n cap) ∧ W.cell? ⟨b, o, none⟩ = some (.string y) ∧ W.cell? ⟨b, o + 1, none⟩ = some (.int .i64 i) ∧ PE w w1 a n cap b o y i W := ⟨h.c4, h.ce, h.ci, h⟩
set_option maxHeartbeats 4000000 in
theorem refPrint_any (k m : Int) (d t : ByteArray) (a : Option Addr) (n cap : Nat) (l : List En) (w : World) (hE : Ents a n l w) (hn : n ≤ 1000000) (hs : ∀ j, j < n → (l.getD j z0).1.size ≤ 100000) :
    Calls Try.prog 10 #[nv k m d t a n cap] w (Printed ⟨k, m, d, t, l⟩ w) := by
  have HNL := Lib.hid hE.count
  have HE := Lib.hid (fun W (hb : Below w.heap.size w W) => hE.below hb)
  have HB0 := Lib.hid (show ∀ x : Obj, Below w.heap.size w (w.alloc x) from fun x => (Below.refl _ w).alloc (Nat.le_refl _) _)
  have HN := Lib.hid (refNode_any k m d t a n cap l (w.alloc (.cells #[.int .i64 k, .int .i64 m, .string d, .string t, .slice a n cap] 24)) (hE.below ((Below.refl _ w).alloc (Nat.le_refl _) _)) hn hs)
  unfold Samed at HN
  have HBX := Lib.hid (heap_alloc_new w (.cells #[.int .i64 k, .int .i64 m, .string d, .string t, .slice a n cap] 24))
  clear hE hs
  cases hr : ndr k m d t l
  · rw [hr] at HN
    have HR := Lib.hid (show prt ⟨k, m, d, t, l⟩ = (⟨#[]⟩, 2) by unfold prt; rw [if_neg]; intro h; unfold ndr at hr; rw [hr] at h; cases h)
    clear hr
    go_enter Try.func10, Try.ntmps10
    go_wp2_with fail
    refine HN.out.mono ?_
    rintro e w1 ⟨rfl, hb1⟩
    have HB := Lib.hid ((HB0.out _).trans (hb1.mono (HB0.out _).size))
    clear hb1
    dsimp only
    go_wp2_with fail
    go_ret2
    show Printed _ w _ _
    unfold Printed
    rw [HR.out]
    exact ⟨rfl, HB.out⟩
  · rw [hr] at HN
    have hR := (Nd.right_iff _).1 hr
    have HR := Lib.hid (show prt ⟨k, m, d, t, l⟩ = (acc k m d t l, 0) by unfold prt; rw [if_pos (show Nd.right less Nm.right _ = true from hr), acc_text])
    have HSZ := Lib.hid (esz hR)
    have HD := Lib.hid (dsz hR)
    have hk := kpos hR
    have hd := dsz hR
    have hm0 := hR.m0
    have hm1 := hR.m1
    have hl64 := hR.len
    dsimp only at hk hd hm0 hm1 hl64 HSZ HD
    obtain ⟨kn, rfl⟩ : ∃ kn : Nat, k = kn := ⟨k.toNat, by omega⟩
    obtain ⟨mn, rfl⟩ : ∃ mn : Nat, m = mn := ⟨m.toNat, by omega⟩
    have HN1 := Lib.hid (fun W => number_any kn (kn : Int) 1 W rfl (by omega) (by omega) (by omega))
    have HN2 := Lib.hid (fun W => number_any mn (mn : Int) 2 W rfl (by omega) (by omega) (by omega))
    have HH := Lib.hid (show numStr kn 1 ++ numStr mn 2 ++ d ++ t = acc (kn : Int) (mn : Int) d t (l.take 0) by rw [List.take_zero, acc_nil]; rfl)
    rw [show (1 : Int).toNat = 1 from rfl] at HN1
    rw [show (2 : Int).toNat = 2 from rfl] at HN2
    have z1 := numStr_size kn 1
    have z2 := numStr_size mn 2
    generalize numStr kn 1 = N1 at HN1 HH z1
    generalize numStr mn 2 = N2 at HN2 HH z2
    have s1 : ¬ 9223372036854775807 < N1.size + N2.size := by omega
    have s2 : ¬ 9223372036854775807 < N1.size + N2.size + d.size := by omega
    have s3 : ¬ 9223372036854775807 < N1.size + N2.size + d.size + t.size := by omega
    have hln : n ≤ 64 := by have := HNL.out; omega
    clear hr hR z1 z2 hm0 hm1 hl64
    go_enter Try.func10, Try.ntmps10
    go_wp2_with fail
    refine HN.out.mono ?_
    rintro e w1 ⟨rfl, hb1⟩
    have HX1 := Lib.hid ((hb1.block _ (lt_of_obj HBX.out)).trans HBX.out)
    have HB1 := Lib.hid ((HB0.out _).trans (hb1.mono (HB0.out _).size))
    clear hb1
    have hP : PB w w1 kn mn d t w1.drew := ⟨cell_obj HX1.out 0, cell_obj HX1.out 1, cell_obj HX1.out 2, cell_obj HX1.out 3, (Below.refl _ _).drew⟩
    have HP := Lib.hid hP
    clear hP
    dsimp only
    go_wp2_with fail
    go_region_held3 (fun W => W.cell? ⟨w.heap.size, 0, none⟩ = some (.int .i64 (kn : Int)) ∧ W.cell? ⟨w.heap.size, 1, none⟩ = some (.int .i64 (mn : Int)) ∧ W.cell? ⟨w.heap.size, 2, none⟩ = some (.string d) ∧ W.cell? ⟨w.heap.size, 3, none⟩ = some (.string t) ∧ PB w w1 kn mn d t W)
      (first | exact HP.out.all | exact pB.out.all | exact pA.out.all | assumption)
      (first
        | (go_at_call 24; (with_reducible refine (HN1.out _).mono ?_); rintro e wA ⟨rfl, hA⟩; have pA := Lib.hid (PB.kept (getPB (by assumption)) hA); clear hA)
        | (go_at_call 24; (with_reducible refine (HN2.out _).mono ?_); rintro e wB ⟨rfl, hB⟩; have pB := Lib.hid (PB.kept (getPB (by assumption)) hB); clear hB))
    have HB3 := Lib.hid pB.out.below
    have HC4 := Lib.hid (show ∀ W, Below w1.heap.size w1 W → W.cell? ⟨w.heap.size, 4, none⟩ = some (.slice a n cap) from fun W hb => (hb.cell (p := ⟨w.heap.size, 4, none⟩) (lt_of_obj HX1.out)).trans (cell_obj HX1.out 4))
    clear HP pA pB HN HN1 HN2 HBX hd hk
    go_wp2_with fail
    go_loopw [4, 5] (fun sv i wr => (∃ j : Nat, j ≤ n ∧ i = .int .i64 j ∧ sv = .string (acc kn mn d t (l.take j))) ∧ wr.cell? ⟨w.heap.size, 4, none⟩ = some (.slice a n cap) ∧ Below w1.heap.size w1 wr) (fun _ i _ => n - (intOf i).toNat)
    case atStart => exact ⟨⟨0, Nat.zero_le _, rfl, by rw [← HH.out]⟩, HC4.out _ HB3.out, HB3.out⟩
    case round =>
      obtain ⟨⟨j, hj, rfl, rfl⟩, c4, hb⟩ := hrel
      by_cases hlt : j < n
      · have j0 : (j : Int) < (n : Int) := by omega
        have hj0 : (0 : Int) ≤ (j : Int) := by omega
        have hjl : j < l.length := by rw [← HNL.out]; exact hlt
        obtain ⟨b, off, rfl, ce, ci⟩ := (HE.out _ (HB1.out.trans (hb.mono HB1.out.size))).cell j hlt
        have hz := HSZ.out (l.getD j z0) (by rw [List.getD, List.getElem?_eq_getElem hjl]; exact List.getElem_mem hjl)
        have HT := Lib.hid (take_snoc hjl z0)
        have HA := Lib.hid (acc_snoc kn mn d t (l.take j) (l.getD j z0))
        rw [← HT.out] at HA
        have hsz : (acc kn mn d t (l.take j)).size ≤ 10000 := by
          have h1 := acc_size (k := kn) (m := mn) (d := d) (t := t) (l := l.take j) (fun x hx => ⟨(HSZ.out x (List.mem_of_mem_take hx)).1, (HSZ.out x (List.mem_of_mem_take hx)).2.1⟩)
          rw [List.length_take] at h1
          have h2 := HD.out
          omega
        generalize l.getD j z0 = x at ce ci hz HA
        obtain ⟨y, i⟩ := x
        dsimp only at ce ci hz HA
        obtain ⟨q, rfl⟩ : ∃ q : Nat, i = q := ⟨i.toNat, by omega⟩
        rw [Int.toNat_natCast] at HA
        have HM1 := Lib.hid (fun W => number_any y.size (y.size : Int) 1 W rfl (by omega) (by omega) (by omega))
        have HM2 := Lib.hid (fun W => number_any q (q : Int) 4 W rfl (by omega) (by omega) (by omega))
        rw [show (1 : Int).toNat = 1 from rfl] at HM1
        rw [show (4 : Int).toNat = 4 from rfl] at HM2
        have z1 := numStr_size y.size 1
        have z2 := numStr_size q 4
        generalize numStr y.size 1 = M1 at HM1 HA z1
        generalize numStr q 4 = M2 at HM2 HA z2
        generalize acc kn mn d t (l.take j) = A at *
        have t1 : ¬ 9223372036854775807 < A.size + M1.size := by omega
        have t2 : ¬ 9223372036854775807 < A.size + M1.size + y.size := by omega
        have t3 : ¬ 9223372036854775807 < A.size + M1.size + y.size + M2.size := by omega
        have hP : PE w w1 (some ⟨b, off, none⟩) n cap b (off + j * 2) y q wr.drew := ⟨c4, ce, ci, hb.drew⟩
        have HP := Lib.hid hP
        clear hP hz hsz z1 z2 hjl
        go_wp2_with fail
        go_region_held3 (fun W => W.cell? ⟨w.heap.size, 4, none⟩ = some (.slice (some ⟨b, off, none⟩) n cap) ∧ W.cell? ⟨b, off + j * 2, none⟩ = some (.string y) ∧ W.cell? ⟨b, off + j * 2 + 1, none⟩ = some (.int .i64 (q : Int)) ∧ PE w w1 (some ⟨b, off, none⟩) n cap b (off + j * 2) y q W)
          (first | exact HP.out.all | exact pB.out.all | exact pA.out.all | assumption)
          (first
            | (go_at_call 24; (with_reducible refine (HM1.out _).mono ?_); rintro e wA ⟨rfl, hA⟩; have pA := Lib.hid (PE.kept (getPE (by assumption)) hA); clear hA)
            | (go_at_call 24; (with_reducible refine (HM2.out _).mono ?_); rintro e wB ⟨rfl, hB⟩; have pB := Lib.hid (PE.kept (getPE (by assumption)) hB); clear hB))
        go_wp2_with fail
        go_roundw
        case rel => exact ⟨⟨j + 1, by omega, by go_num, by rw [HA.out]⟩, pB.out.c4, pB.out.below⟩
        case measure => simp [intOf]; omega
      · obtain rfl : j = n := by omega
        have HR2 := Lib.hid (show acc kn mn d t (l.take j) = acc kn mn d t l by rw [HNL.out, List.take_length])
        have HB := Lib.hid (HB1.out.trans (hb.mono HB1.out.size))
        clear hb
        go_wp2_with fail
        go_ret2
        show Printed _ w _ _
        unfold Printed
        rw [HR.out, ← HR2.out]
        exact ⟨rfl, HB.out⟩
end Go.Proofs.Yteieehjggiiljaa
