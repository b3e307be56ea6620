/- The program's Print. -/
import Derived.Test.YteieehjggiiljaaText
import Derived.Test.YteieehjggiiljaaRt
import Derived.Test.YteieehjggiiljaaFindP
namespace Go.Proofs.Yteieehjggiiljaa
set_option maxRecDepth 100000
open Go.RowKit Go.Less
attribute [local go_sem 9000] sem_eql sem_neq sem_lss sem_leq sem_gtr sem_geq sem_shr64 run_c8
theorem run_bytes3 (w : World) (a b c : UInt8) : (convert 51 9 (.slice (some ⟨w.heap.size, 0, none⟩) 3 3)).run Try.prog (w.alloc (.cells #[.int .u8 (a.toNat : Int), .int .u8 (b.toNat : Int), .int .u8 (c.toNat : Int)] 5)) = .ok (.string ⟨#[a, b, c]⟩) (w.alloc (.cells #[.int .u8 (a.toNat : Int), .int .u8 (b.toNat : Int), .int .u8 (c.toNat : Int)] 5)) := by
  rw [run_convert_bytes_arg (P := Try.prog) (w.alloc (.cells #[.int .u8 (a.toNat : Int), .int .u8 (b.toNat : Int), .int .u8 (c.toNat : Int)] 5)) 51 5 Try.underlying51 Try.underlying5 w.heap.size 0 3 3 [(a.toNat : Int), b.toNat, c.toNat] rfl ?_ 9 Try.underlying9]
  · simp [strOfNums]
  · intro i hi
    rw [Nat.zero_add, World.cell?_alloc_new]
    match i, hi with
    | 0, _ => rfl
    | 1, _ => rfl
    | 2, _ => rfl
attribute [local go_sem 9000] run_bytes3
theorem head_is (k m : Nat) (d t : ByteArray) (l : List En) : (⟨#[u8z (k : Int), u8z (shn (m : Int) 8), u8z (m : Int)]⟩ : ByteArray) ++ d ++ t ++ lstr (flat l) = acc k m d t l := by
  unfold acc hdr flat
  apply ByteArray.ext
  apply Array.ext'
  simp only [ByteArray.data_append, Array.toList_append, numStr_data, num_one, num_two, lstr_data, u8z_sh, u8z_nat, Int.toNat_natCast, List.append_assoc, List.cons_append, List.nil_append]
theorem getPF3 {w : World} {cs : Array Value} {u v x : Value} {W : World} (h : W.cell? ⟨w.heap.size, 2, none⟩ = some u ∧ W.cell? ⟨w.heap.size, 3, none⟩ = some v ∧ W.cell? ⟨w.heap.size, 4, none⟩ = some x ∧ PF w cs W) : PF w cs W := h.2.2.2
theorem PF.all3 {w : World} {v0 v1 v2 v3 v4 : Value} {W : World} (h : PF w #[v0, v1, v2, v3, v4] W) : W.cell? ⟨w.heap.size, 2, none⟩ = some v2 ∧ W.cell? ⟨w.heap.size, 3, none⟩ = some v3 ∧ W.cell? ⟨w.heap.size, 4, none⟩ = some v4 ∧ PF w #[v0, v1, v2, v3, v4] W :=
  ⟨cell_obj h.box 2, cell_obj h.box 3, cell_obj h.box 4, h⟩
set_option maxHeartbeats 4000000 in
theorem print_any (k m : Int) (d t : ByteArray) (a : Option Addr) (n cap : Nat) (l : List En) (w : World) (hE : Ents a n l w) (hn : n ≤ 1000000) (hs : ∀ j, j < n → (l.getD j z0).1.size ≤ 100000) :
    Calls Try.prog 9 #[nv k m d t a n cap] w (Printed ⟨k, m, d, t, l⟩ w) := by
  have HNL := Lib.hid hE.count
  have HB0 := Lib.hid (show ∀ x : Obj, Below w.heap.size w (w.alloc x) from fun x => (Below.refl _ w).alloc (Nat.le_refl _) _)
  have HN := Lib.hid (node_any k m d t a n cap l (w.alloc (.cells #[.int .i64 k, .int .i64 m, .string d, .string t, .slice a n cap] 24)) (hE.below ((Below.refl _ w).alloc (Nat.le_refl _) _)) hn hs)
  unfold Samed at HN
  have HBX := Lib.hid (heap_alloc_new w (.cells #[.int .i64 k, .int .i64 m, .string d, .string t, .slice a n cap] 24))
  have HE := Lib.hid (fun W (hb : Below w.heap.size w W) => hE.below hb)
  clear hE hs
  cases hr : ndr k m d t l
  · rw [hr] at HN
    have HR := Lib.hid (show prt ⟨k, m, d, t, l⟩ = (⟨#[]⟩, 2) by unfold prt; rw [if_neg]; intro h; unfold ndr at hr; rw [hr] at h; cases h)
    clear hr
    go_enter Try.func9, Try.ntmps9
    go_wp2_with fail
    refine HN.out.mono ?_
    rintro e w1 ⟨rfl, hb1⟩
    have HB := Lib.hid ((HB0.out _).trans (hb1.mono (HB0.out _).size))
    clear hb1
    dsimp only
    go_wp2_with fail
    go_ret2
    show Printed _ w _ _
    unfold Printed
    rw [HR.out]
    exact ⟨rfl, HB.out⟩
  · rw [hr] at HN
    have hR := (Nd.right_iff _).1 hr
    have HR := Lib.hid (show prt ⟨k, m, d, t, l⟩ = (acc k m d t l, 0) by unfold prt; rw [if_pos (show Nd.right less Nm.right _ = true from hr), acc_text])
    have HSZ := Lib.hid (esz hR)
    have hk := kpos hR
    have hd := dsz hR
    have hm0 := hR.m0
    have hl64 := hR.len
    dsimp only at hk hd hm0 hl64 HSZ
    obtain ⟨kn, rfl⟩ : ∃ kn : Nat, k = kn := ⟨k.toNat, by omega⟩
    obtain ⟨mn, rfl⟩ : ∃ mn : Nat, m = mn := ⟨m.toNat, by omega⟩
    have HH := Lib.hid (head_is kn mn d t l)
    have hln : n ≤ 64 := by have := HNL.out; omega
    have HT := Lib.hid (fun W (hb : Below w.heap.size w W) => entriesText_any a n cap l W (HE.out W hb) hln HSZ.out)
    have hfl : (lstr (flat l)).size ≤ 2000 := by
      have h1 := flat_len (l := l) (fun x hx => (HSZ.out x hx).1)
      rw [lstr_size]; omega
    generalize lstr (flat l) = FL at HH HT hfl
    have s1 : ¬ 9223372036854775807 < 3 + d.size := by omega
    have s2 : ¬ 9223372036854775807 < 3 + d.size + t.size := by omega
    have s3 : ¬ 9223372036854775807 < 3 + d.size + t.size + FL.size := by omega
    clear hr hR hm0 hl64
    go_enter Try.func9, Try.ntmps9
    go_wp2_with fail
    refine HN.out.mono ?_
    rintro e w1 ⟨rfl, hb1⟩
    have HX1 := Lib.hid ((hb1.block _ (lt_of_obj HBX.out)).trans HBX.out)
    have HB1 := Lib.hid ((HB0.out _).trans (hb1.mono (HB0.out _).size))
    have x0 : w1.cell? ⟨w.heap.size, 0, none⟩ = some (.int .i64 (kn : Int)) := cell_obj HX1.out 0
    have x1 : w1.cell? ⟨w.heap.size, 1, none⟩ = some (.int .i64 (mn : Int)) := cell_obj HX1.out 1
    clear hb1 HN HBX
    dsimp only
    go_wp2_with fail
    have h3 : (⟨#[u8z (kn : Int), u8z (shn (mn : Int) 8), u8z (mn : Int)]⟩ : ByteArray).size = 3 := rfl
    have HP := Lib.hid (show PF w #[.int .i64 (kn : Int), .int .i64 (mn : Int), .string d, .string t, .slice a n cap] ((w1.alloc (.cells #[.int .u8 ((u8z (kn : Int)).toNat : Int), .int .u8 ((u8z (shn (mn : Int) 8)).toNat : Int), .int .u8 ((u8z (mn : Int)).toNat : Int)] 5)).drew) from
      PF.kept (w := w) ⟨HX1.out, HB1.out⟩ ((below_one w1 _).drew))
    generalize (⟨#[u8z (kn : Int), u8z (shn (mn : Int) 8), u8z (mn : Int)]⟩ : ByteArray) = H at HH h3 ⊢
    clear x0 x1
    go_region_held3 (fun W => W.cell? ⟨w.heap.size, 2, none⟩ = some (.string d) ∧ W.cell? ⟨w.heap.size, 3, none⟩ = some (.string t) ∧ W.cell? ⟨w.heap.size, 4, none⟩ = some (.slice a n cap) ∧ PF w #[.int .i64 (kn : Int), .int .i64 (mn : Int), .string d, .string t, .slice a n cap] W)
      (first | exact HP.out.all3 | exact pA.out.all3 | assumption)
      (first
        | (go_at_call 23; (with_reducible refine (HT.out _ (PF.below (getPF3 (by assumption)))).mono ?_); rintro e wA ⟨rfl, hA⟩; have pA := Lib.hid (PF.kept (getPF3 (by assumption)) hA); clear hA))
    go_wp2_with fail
    go_ret2
    show Printed _ w _ _
    unfold Printed
    rw [HR.out, ← HH.out]
    exact ⟨rfl, pA.out.below⟩
end Go.Proofs.Yteieehjggiiljaa
