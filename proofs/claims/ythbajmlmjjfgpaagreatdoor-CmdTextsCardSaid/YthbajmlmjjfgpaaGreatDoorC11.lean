/- A part of the proofs. -/
import Derived.Test.YthbajmlmjjfgpaaGreatDoorC10
set_option maxRecDepth 1000000
set_option maxHeartbeats 16000000
open Go.Lib (hid)
open Go.Proofs.Tryz
namespace Go.Proofs.YthbajmlmjjfgpaaGreatDoor
open Go.RowKit Go.Less
attribute [local go_sem 9000] sem_eql sem_neq sem_lss sem_leq sem_gtr sem_geq sem_shr64 run_c8
theorem run_bytes3 (w : World) (a b c : UInt8) : (convert 91 9 (.slice (some ⟨w.heap.size, 0, none⟩) 3 3)).run prog (w.alloc (.cells #[.int .u8 (a.toNat : Int), .int .u8 (b.toNat : Int), .int .u8 (c.toNat : Int)] 5)) = .ok (.string ⟨#[a, b, c]⟩) (w.alloc (.cells #[.int .u8 (a.toNat : Int), .int .u8 (b.toNat : Int), .int .u8 (c.toNat : Int)] 5)) := by
 rw [run_convert_bytes_arg (P := prog) (w.alloc (.cells #[.int .u8 (a.toNat : Int), .int .u8 (b.toNat : Int), .int .u8 (c.toNat : Int)] 5)) 91 5 underlying91 underlying5 w.heap.size 0 3 3 [(a.toNat : Int), b.toNat, c.toNat] rfl ?_ 9 underlying9]
 ·simp [strOfNums]
 ·intro i hi
  rw [Nat.zero_add, World.cell?_alloc_new]
  match i, hi with
  | 0, _ => rfl
  | 1, _ => rfl
  | 2, _ => rfl
attribute [local go_sem 9000] run_bytes3
theorem head_is (k m : Nat) (d t : ByteArray) (l : List En) : (⟨#[u8z (k : Int), u8z (shn (m : Int) 8), u8z (m : Int)]⟩ : ByteArray) ++ d ++ t ++ lstr (flat l) = acc k m d t l := by
 unfold acc hdr flat
 apply ByteArray.ext
 apply Array.ext'
 simp only [ByteArray.data_append, Array.toList_append, numStr_data, num_one, num_two, lstr_data, u8z_sh, u8z_nat, Int.toNat_natCast, List.append_assoc, List.cons_append, List.nil_append]
theorem getPF3 {w : World} {cs : Array Value} {u v x : Value} {W : World} (h : W.cell? ⟨w.heap.size, 2, none⟩ = some u /\ W.cell? ⟨w.heap.size, 3, none⟩ = some v /\ W.cell? ⟨w.heap.size, 4, none⟩ = some x /\ PF w cs W) : PF w cs W := h.2.2.2
theorem PF.all3 {w : World} {v0 v1 v2 v3 v4 : Value} {W : World} (h : PF w #[v0, v1, v2, v3, v4] W) : W.cell? ⟨w.heap.size, 2, none⟩ = some v2 /\ W.cell? ⟨w.heap.size, 3, none⟩ = some v3 /\ W.cell? ⟨w.heap.size, 4, none⟩ = some v4 /\ PF w #[v0, v1, v2, v3, v4] W :=
 ⟨cell_obj h.box 2, cell_obj h.box 3, cell_obj h.box 4, h⟩
theorem print_any (k m : Int) (d t : ByteArray) (a : Option Addr) (n cap : Nat) (l : List En) (w : World) (hE : Ents a n l w) (hn : n <= 1000000) (hs : ∀ j, j < n -> (l.getD j z0).1.size <= 100000) :
  Calls prog 132 #[nv k m d t a n cap] w (Printed ⟨k, m, d, t, l⟩ w) := by
 have HNL := hid hE.count
 have HB0 := hid (show ∀ x : Obj, Below w.heap.size w (w.alloc x) from λx => (Below.refl _ w).alloc (Nat.le_refl _) _)
 have HN := hid (node_any k m d t a n cap l (w.alloc (.cells #[.int .i64 k, .int .i64 m, .string d, .string t, .slice a n cap] 67)) (hE.below ((Below.refl _ w).alloc (Nat.le_refl _) _)) hn hs)
 unfold Samed at HN
 have HBX := hid (heap_alloc_new w (.cells #[.int .i64 k, .int .i64 m, .string d, .string t, .slice a n cap] 67))
 have HE := hid (λW (hb : Below w.heap.size w W) => hE.below hb)
 clear hE hs
 cases hr : ndr k m d t l
 ·rw [hr] at HN
  have HR := hid (show prt ⟨k, m, d, t, l⟩ = (⟨#[]⟩, 2) by unfold prt; rw [if_neg]; intro h; unfold ndr at hr; rw [hr] at h; cases h)
  clear hr
  go_enter func132, ntmps132
  go_wp2_with fail
  refine HN.out.mono ?_
  rintro e w1 ⟨rfl, hb1⟩
  have HB := hid ((HB0.out _).trans (hb1.mono (HB0.out _).size))
  clear hb1
  dsimp only
  go_wp2_with fail
  go_ret2
  show Printed _ w _ _
  unfold Printed
  rw [HR.out]
  exact ⟨rfl, HB.out⟩
 ·rw [hr] at HN
  have hR := (Nd.right_iff _).1 hr
  have HR := hid (show prt ⟨k, m, d, t, l⟩ = (acc k m d t l, 0) by unfold prt; rw [if_pos (show Nd.right less Nm.right _ = true from hr), acc_text])
  have HSZ := hid (esz hR)
  have hk := kpos hR
  have hd := dsz hR
  have hm0 := hR.m0
  have hl64 := hR.len
  dsimp only at hk hd hm0 hl64 HSZ
  obtain ⟨kn, rfl⟩ : ∃ kn : Nat, k = kn := ⟨k.toNat, by omega⟩
  obtain ⟨mn, rfl⟩ : ∃ mn : Nat, m = mn := ⟨m.toNat, by omega⟩
  have HH := hid (head_is kn mn d t l)
  have hln : n <= 64 := by have := HNL.out; omega
  have HT := hid (λW (hb : Below w.heap.size w W) => entriesText_any a n cap l W (HE.out W hb) hln HSZ.out)
  have hfl : (lstr (flat l)).size <= 2000 := by
   have h1 := flat_len (l := l) (λx hx => (HSZ.out x hx).1)
   rw [lstr_size]; omega
  generalize lstr (flat l) = FL at HH HT hfl
  have s1 : ¬ 9223372036854775807 < 3 + d.size := by omega
  have s2 : ¬ 9223372036854775807 < 3 + d.size + t.size := by omega
  have s3 : ¬ 9223372036854775807 < 3 + d.size + t.size + FL.size := by omega
  clear hr hR hm0 hl64
  go_enter func132, ntmps132
  go_wp2_with fail
  refine HN.out.mono ?_
  rintro e w1 ⟨rfl, hb1⟩
  have HX1 := hid ((hb1.block _ (lt_of_obj HBX.out)).trans HBX.out)
  have HB1 := hid ((HB0.out _).trans (hb1.mono (HB0.out _).size))
  have x0 : w1.cell? ⟨w.heap.size, 0, none⟩ = some (.int .i64 (kn : Int)) := cell_obj HX1.out 0
  have x1 : w1.cell? ⟨w.heap.size, 1, none⟩ = some (.int .i64 (mn : Int)) := cell_obj HX1.out 1
  clear hb1 HN HBX
  dsimp only
  go_wp2_with fail
  have h3 : (⟨#[u8z (kn : Int), u8z (shn (mn : Int) 8), u8z (mn : Int)]⟩ : ByteArray).size = 3 := rfl
  have HP := hid (show PF w #[.int .i64 (kn : Int), .int .i64 (mn : Int), .string d, .string t, .slice a n cap] ((w1.alloc (.cells #[.int .u8 ((u8z (kn : Int)).toNat : Int), .int .u8 ((u8z (shn (mn : Int) 8)).toNat : Int), .int .u8 ((u8z (mn : Int)).toNat : Int)] 5)).drew) from
   PF.kept (w := w) ⟨HX1.out, HB1.out⟩ ((below_one w1 _).drew))
  generalize (⟨#[u8z (kn : Int), u8z (shn (mn : Int) 8), u8z (mn : Int)]⟩ : ByteArray) = H at HH h3 |-
  clear x0 x1
  go_region_held3 (λW => W.cell? ⟨w.heap.size, 2, none⟩ = some (.string d) /\ W.cell? ⟨w.heap.size, 3, none⟩ = some (.string t) /\ W.cell? ⟨w.heap.size, 4, none⟩ = some (.slice a n cap) /\ PF w #[.int .i64 (kn : Int), .int .i64 (mn : Int), .string d, .string t, .slice a n cap] W)
   (first | exact HP.out.all3 | exact pA.out.all3 | assumption)
   (first
    | (go_at_call 169; (with_reducible refine (HT.out _ (PF.below (getPF3 (by assumption)))).mono ?_); rintro e wA ⟨rfl, hA⟩; have pA := hid (PF.kept (getPF3 (by assumption)) hA); clear hA))
  go_wp2_with fail
  go_ret2
  show Printed _ w _ _
  unfold Printed
  rw [HR.out, <- HH.out]
  exact ⟨rfl, pA.out.below⟩
end Go.Proofs.YthbajmlmjjfgpaaGreatDoor
namespace Nd
def val (l : List UInt8) : Nat := l.foldl (λa c => a * 256 + c.toNat) 0
theorem val_snoc (l : List UInt8) (c : UInt8) : val (l ++ [c]) = val l * 256 + c.toNat := by unfold val; rw [List.foldl_append]; rfl
theorem val_lt (l : List UInt8) : val l < 256 ^ l.length := by
 induction l using snoc_rec with
 | nil => decide
 | append_singleton l c ih =>
  have := c.toNat_lt
  rw [val_snoc, List.length_append, List.length_singleton, Nat.pow_succ]
  omega
theorem v4_val {l : List UInt8} (h : l.length = 4) : v4 l = val l := by
 match l, h with
 | [a, b, c, d], _ => simp [v4, val]
structure EAt (r : List UInt8) (i : Nat) (es : List En) : Prop where
 le : i <= r.length
 all : ents r = (ents (r.drop i)).map (es ++ ·)
theorem EAt.start (r : List UInt8) : EAt r 0 [] := ⟨Nat.zero_le _, by rw [List.drop_zero]; cases ents r <;> simp⟩
theorem EAt.stop {r : List UInt8} {i : Nat} {es : List En} (h : EAt r i es) (hi : i < r.length) (hb : r.length < i + 1 + (r.getD i 0).toNat + 4) : ents r = none := by
 rw [h.all, List.drop_eq_getElem_cons hi, ents]
 rw [List.getD, List.getElem?_eq_getElem hi, Option.getD_some] at hb
 rw [if_neg (by rw [List.length_drop]; omega)]; rfl
theorem EAt.more {r : List UInt8} {i : Nat} {es : List En} (h : EAt r i es) (hi : i < r.length) (hb : i + 1 + (r.getD i 0).toNat + 4 <= r.length) :
  EAt r (i + (r.getD i 0).toNat + 5) (es ++ [(Nd.mk ((r.drop (i + 1)).take (r.getD i 0).toNat), (val ((r.drop (i + 1 + (r.getD i 0).toNat)).take 4) : Int))]) := by
 refine ⟨by omega, ?_⟩
 have hall := h.all
 rw [List.drop_eq_getElem_cons hi, ents] at hall
 have e : r[i] = r.getD i 0 := by rw [List.getD, List.getElem?_eq_getElem hi]; rfl
 rw [e, if_pos (by rw [List.length_drop]; omega), List.drop_drop, List.drop_drop] at hall
 rw [hall, v4_val (by rw [List.length_take, List.length_drop]; omega), show i + 1 + ((r.getD i 0).toNat + 4) = i + (r.getD i 0).toNat + 5 by omega]
 cases ents (r.drop (i + (r.getD i 0).toNat + 5)) <;> simp
theorem EAt.done {r : List UInt8} {i : Nat} {es : List En} (h : EAt r i es) (hi : i = r.length) : ents r = some es := by
 rw [h.all, hi, List.drop_length, ents]; simp
theorem EAt.long {r : List UInt8} {i : Nat} {es es' : List En} (h : EAt r i es) (hi : i < r.length) (hs : ents r = some es') : es.length < es'.length := by
 rw [h.all, List.drop_eq_getElem_cons hi, ents] at hs
 split at hs
 ·cases hd : ents ((r.drop (i + 1)).drop (r[i].toNat + 4)) with
  | none => rw [hd] at hs; cases hs
  | some z => rw [hd] at hs; simp at hs; rw [<- hs]; simp
 ·cases hs
section
variable {lt : ByteArray -> ByteArray -> Bool} {nm : List UInt8 -> Bool}
theorem parse_short {l : List UInt8} (h : l.length < 3) : parse lt nm l = none := by
 match l, h with
 | [], _ => rfl
 | [_], _ => rfl
 | [_, _], _ => rfl
theorem parse_is {l : List UInt8} (h : 3 <= l.length) : parse lt nm l =
  match (if (l.getD 0 0).toNat = 2 then ents (l.drop 3) else some []) with
  | none => none
  | some es => if right lt nm (nodeOf (l.getD 0 0) (l.getD 1 0) (l.getD 2 0) (l.drop 3) es) = true then some (nodeOf (l.getD 0 0) (l.getD 1 0) (l.getD 2 0) (l.drop 3) es) else none := by
 match l, h with
 | a :: b :: c :: r, _ => rfl
theorem parse_no {l : List UInt8} (h : 3 <= l.length) (hk : (l.getD 0 0).toNat = 2) (he : ents (l.drop 3) = none) : parse lt nm l = none := by
 rw [parse_is h, if_pos hk, he]
theorem parse_yes {l : List UInt8} (h : 3 <= l.length) {es : List En} (he : (if (l.getD 0 0).toNat = 2 then ents (l.drop 3) else some []) = some es) :
  parse lt nm l = if right lt nm (nodeOf (l.getD 0 0) (l.getD 1 0) (l.getD 2 0) (l.drop 3) es) = true then some (nodeOf (l.getD 0 0) (l.getD 1 0) (l.getD 2 0) (l.drop 3) es) else none := by
 rw [parse_is h, he]
end
end Nd
namespace Go.Proofs.YthbajmlmjjfgpaaGreatDoor
open Go.RowKit Go.Less
attribute [local go_sem 9000] sem_eql sem_neq sem_lss sem_leq sem_gtr sem_geq
def parseR (s : List UInt8) : Nd.Node × Int := match Nd.parse less Nm.right s with
 | none => (Nd.none0, 2)
 | some x => (x, 0)
def ndOf (s : List UInt8) (es : List En) : Nd.Node := Nd.nodeOf (s.getD 0 0) (s.getD 1 0) (s.getD 2 0) (s.drop 3) es
theorem parseR_none {s : List UInt8} (h : Nd.parse less Nm.right s = none) : parseR s = (Nd.none0, 2) := by unfold parseR; rw [h]
theorem parseR_yes {s : List UInt8} (h : 3 <= s.length) {es : List En} (he : (if (s.getD 0 0).toNat = 2 then Nd.ents (s.drop 3) else some []) = some es) : parseR s = if Nd.right less Nm.right (ndOf s es) = true then (ndOf s es, 0) else (Nd.none0, 2) := by
 unfold parseR
 rw [Nd.parse_yes h he]
 unfold ndOf
 by_cases h2 : Nd.right less Nm.right (Nd.nodeOf (s.getD 0 0) (s.getD 1 0) (s.getD 2 0) (List.drop 3 s) es) = true
 ·rw [if_pos h2, if_pos h2]
 ·rw [if_neg h2, if_neg h2]
structure Pat (w : World) (k m : Int) (d t : ByteArray) (l : List En) (v : Value) (wr : World) : Prop where
 own : Own (w.heap.size + 2) v l wr
 box : wr.heap[w.heap.size + 1]? = some (.cells #[.int .i64 k, .int .i64 m, .string d, .string t, v] 67 (0, 0))
 res : wr.heap[w.heap.size]? = some (.cells zc 67 (0, 0))
 big : w.heap.size + 2 <= wr.heap.size
 below : Below w.heap.size w wr
theorem Pat.kept {w : World} {k m : Int} {d t : ByteArray} {l : List En} {v : Value} {wr W : World} (h : Pat w k m d t l v wr) (hb : Below wr.heap.size wr W) : Pat w k m d t l v W :=
 ⟨owned_below h.own hb, (hb.block _ (lt_of_obj h.box)).trans h.box, (hb.block _ (lt_of_obj h.res)).trans h.res, Nat.le_trans h.big hb.size, h.below.trans (hb.mono h.below.size)⟩
theorem pat_start (w : World) (k m : Int) (d t : ByteArray) : Pat w k m d t [] (.slice none 0 0) (((w.alloc (.cells #[.int .i64 0, .int .i64 0, .string ⟨#[]⟩, .string ⟨#[]⟩, .slice none 0 0] 67)).alloc (.cells #[.int .i64 k, .int .i64 m, .string d, .string t, .slice none 0 0] 67)).drew) :=
 ⟨own_nil _ _, two1 _ _ _, two0 _ _ _, two2 _ _ _, (((Below.refl _ w).alloc (Nat.le_refl _) _).alloc (by simp) _).drew⟩
theorem pat_more {w wr w4 : World} {k m : Int} {d t : ByteArray} {l : List En} {v v4 : Value} {x : En} {o : Obj} (h : Pat w k m d t l v wr) (hO : Own (w.heap.size + 2) v l (wr.alloc o)) (hg : (wr.alloc o).grownBy w4 v.ownBlock)
  (hown : Own (w.heap.size + 2) v4 (l ++ [x]) w4) : Pat w k m d t (l ++ [x]) v4 (w4.setCell ⟨w.heap.size + 1, 4, none⟩ v4) := by
 have hA := (Below.refl wr.heap.size wr).alloc (Nat.le_refl _) o
 have big := h.big
 have hne : ∀ y, y < w.heap.size + 2 -> some y ≠ v.ownBlock := λy hy e => by have := owns_lt hO y e.symm; omega
 have hbig : wr.heap.size <= (wr.alloc o).heap.size := hA.size
 have hs : (wr.alloc o).heap.size <= w4.heap.size := hg.size
 have hbx := grown_obj hg ((hA.block _ (lt_of_obj h.box)).trans h.box) (hne _ (by omega))
 have hrs := grown_obj hg ((hA.block _ (lt_of_obj h.res)).trans h.res) (hne _ (by omega))
 refine ⟨own_set hown (by omega) 4 _, by simpa using heap_setCell_same w4 (w.heap.size + 1) 4 _ 67 v4 hbx, ?_, ?_, ?_⟩
 ·rw [heap_setCell_other w4 ⟨w.heap.size + 1, 4, none⟩ w.heap.size _ (by show w.heap.size ≠ w.heap.size + 1; omega)]; exact hrs
 ·have : (w4.setCell ⟨w.heap.size + 1, 4, none⟩ v4).heap.size = w4.heap.size := by simp [World.setCell]
  omega
 ·refine Below.setCell ?_ (Nat.le_succ _) _
  exact (h.below.trans (hA.mono h.below.size)).grown hg (Nat.le_trans h.below.size hbig) (λj hj => by have := owns_lt hO j hj; omega)
theorem pat_mid {w wr w4 : World} {k m : Int} {d t : ByteArray} {l : List En} {v : Value} {o : Obj} (h : Pat w k m d t l v wr) (hO : Own (w.heap.size + 2) v l (wr.alloc o)) (hg : (wr.alloc o).grownBy w4 v.ownBlock) :
  w4.heap[w.heap.size + 1]? = some (.cells #[.int .i64 k, .int .i64 m, .string d, .string t, v] 67 (0, 0)) := by
 have hA := (Below.refl wr.heap.size wr).alloc (Nat.le_refl _) o
 exact grown_obj hg ((hA.block _ (lt_of_obj h.box)).trans h.box) (λe => by have := owns_lt hO _ e.symm; omega)
def vl (l : List UInt8) : Int := (Nd.val l : Int)
theorem vl_lo (l : List UInt8) : 0 <= vl l := Int.natCast_nonneg _
theorem vl_more {l : List UInt8} {z : Nat} (h : z < l.length) {c : UInt8} (hc : c = l.getD z 0) : vl (l.take (z + 1)) = vl (l.take z) * 256 + (c.toNat : Int) := by
 subst hc
 unfold vl
 rw [List.take_succ_eq_append_getElem h, Nd.val_snoc, List.getD, List.getElem?_eq_getElem h]
 simp
theorem vl_hi {l : List UInt8} {z : Nat} (h : z < 4) : vl (l.take z) < 16777216 := by
 unfold vl
 have h1 := Nd.val_lt (l.take z)
 have h2 : 256 ^ (l.take z).length <= 256 ^ 3 := Nat.pow_le_pow_right (by decide) (by rw [List.length_take]; omega)
 omega
theorem rest_is (x : ByteArray) (h : 3 <= x.size) : x.extract 3 x.size = lstr (x.data.toList.drop 3) := by
 have e := cut_text x 3 (x.size - 3) (by omega)
 rw [show 3 + (x.size - 3) = x.size by omega] at e
 rw [e, List.take_of_length_le (by rw [List.length_drop]; exact Nat.le_of_eq (congrArg (· - 3) Array.length_toList))]
theorem c_of (w : World) (c : UInt8) : (convert 5 3 (.int .u8 (c.toNat : Int))).run prog w = .ok (.int .i64 (c.toNat : Int)) w := by
 have h : (convert 5 3 (.int .u8 (c.toNat : Int))).run prog w = .ok (.int .i64 (IntKind.i64.wrap (c.toNat : Int))) w := by rfl
 have := c.toNat_lt
 rw [h, IntWalk.i64_in _ (by omega)]
attribute [local go_sem 9000] c_of
theorem refParse_any (s : ByteArray) (w : World) (hs : s.size <= 100000) : Calls prog 34 #[.string s] w (Noded (parseR s.data.toList) w) := by
 have HL := hid (show s.data.toList.length = s.size from Array.length_toList)
 rcases Nat.lt_or_ge s.size 3 with h3 | h3
 ·have h3i : (s.size : Int) < 3 := by omega
  have HR := hid (parseR_none (s := s.data.toList) (Nd.parse_short (by rw [HL.out]; exact h3)))
  clear h3
  go_enter func34, ntmps34
  go_wp2_with fail
  refine bodyPost_ret_by (results_nd rfl _ _ w.heap.size _ _ _ _ _ rfl (heap_alloc_new _ _)) rfl ⟨none, 0, by rw [HR.out]; rfl, by rw [HR.out]; exact ents_nil _, (Below.refl _ w).alloc (Nat.le_refl _) _⟩
 ·have h3i : ¬ (s.size : Int) < 3 := by omega
  have h0 : 0 < s.size := by omega
  have h1 : 1 < s.size := by omega
  have h2 : 2 < s.size := by omega
  have HA0 := hid (b_at s h0)
  have HA1 := hid (b_at s h1)
  have HA2 := hid (b_at s h2)
  have HY := hid (λes he => parseR_yes (s := s.data.toList) (by rw [HL.out]; exact h3) (es := es) he)
  have HNo := hid (λhk he => parseR_none (Nd.parse_no (lt := less) (nm := Nm.right) (l := s.data.toList) (by rw [HL.out]; exact h3) hk he))
  have hz1 := s[1].toNat_lt
  have hz2 := s[2].toNat_lt
  have i1 : (1 : Int) < (s.size : Int) := by omega
  have i2 : (2 : Int) < (s.size : Int) := by omega
  have hw1 : IntKind.i64.wrap ((s[1].toNat : Int) * 256) = (s[1].toNat : Int) * 256 := IntWalk.i64_in _ (by omega)
  have hw2 : IntKind.i64.wrap ((s[1].toNat : Int) * 256 + (s[2].toNat : Int)) = (s[1].toNat : Int) * 256 + (s[2].toNat : Int) := IntWalk.i64_in _ (by omega)
  by_cases k2 : s[0].toNat = 2
  ·have HND := hid (show ∀ es, ndOf s.data.toList es = ⟨2, ((s[1].toNat : Int) * 256 + (s[2].toNat : Int)), ⟨#[]⟩, ⟨#[]⟩, es⟩ from λes => by
    unfold ndOf Nd.nodeOf; rw [<- HA0.out, <- HA1.out, <- HA2.out, k2, if_neg (by omega), if_neg (by omega)]; rfl)
   have HVA := hid (show ∀ es, Nd.ents (s.data.toList.drop 3) = some es -> parseR s.data.toList = if Nd.right less Nm.right ⟨2, ((s[1].toNat : Int) * 256 + (s[2].toNat : Int)), ⟨#[]⟩, ⟨#[]⟩, es⟩ = true then (⟨2, ((s[1].toNat : Int) * 256 + (s[2].toNat : Int)), ⟨#[]⟩, ⟨#[]⟩, es⟩, 0) else (Nd.none0, 2) from λes he => by rw [<- HND.out]; exact HY.out es (by rw [if_pos (by rw [<- HA0.out]; exact k2), he]))
   have HVN := hid (show Nd.ents (s.data.toList.drop 3) = none -> parseR s.data.toList = (Nd.none0, 2) from λhe => HNo.out (by rw [<- HA0.out]; exact k2) he)
   clear HNo HY HND HA0 HA1 HA2
   go_enter func34, ntmps34
   go_wp2_with fail
   go_region
   go_wp2_with fail
   go_loopw [5] (λv wr => ∃ (p : Nat) (es : List En) (u : Value), v = .int .i64 (p : Int) /\ 3 <= p /\ p <= s.size /\ Hid (Nd.EAt (s.data.toList.drop 3) (p - 3) es /\ es.length <= p /\ ∀ x ∈ es, x.1.size <= 300) /\ Pat w 2 ((s[1].toNat : Int) * 256 + (s[2].toNat : Int)) ⟨#[]⟩ ⟨#[]⟩ es u wr) (λv _ => s.size - (intOf v).toNat)
   case atStart => exact ⟨3, [], _, rfl, Nat.le_refl _, h3, ⟨Nd.EAt.start _, Nat.zero_le _, λx hx => by cases hx⟩, pat_start w _ _ _ _⟩
   case round =>
    obtain ⟨p, es, u, rfl, hp3, hps, HE, hp⟩ := hrel
    have HP := hid hp
    obtain ⟨ao, cp, rfl⟩ := owns_form hp.own
    clear hp
    by_cases hlt : p < s.size
    ·have p0 : (p : Int) < (s.size : Int) := by omega
     have hp0 : (0 : Int) <= (p : Int) := by omega
     have HL3 := hid (show (s.data.toList.drop 3).length = s.size - 3 by rw [List.length_drop, HL.out])
     have HC := hid (show (s.data.toList.drop 3).getD (p - 3) 0 = s[p] by
      rw [b_at s hlt, List.getD, List.getD, List.getElem?_drop, show 3 + (p - 3) = p by omega])
     have hq8 := s[p].toNat_lt
     have hx := HP.out.box
     have x0 : wr.cell? ⟨w.heap.size + 1, 0, none⟩ = some (.int .i64 2) := cell_obj hx 0
     have x4 : wr.cell? ⟨w.heap.size + 1, 4, none⟩ = some (.slice ao es.length cp) := cell_obj hx 4
     clear hx
     have hw3 : IntKind.i64.wrap ((p : Int) + 1) = (p : Int) + 1 := IntWalk.i64_in _ (by omega)
     have hw4 : IntKind.i64.wrap ((p : Int) + 1 + (s[p].toNat : Int)) = (p : Int) + 1 + (s[p].toNat : Int) := IntWalk.i64_in _ (by omega)
     have hw5 : IntKind.i64.wrap ((p : Int) + 1 + (s[p].toNat : Int) + 4) = (p : Int) + 1 + (s[p].toNat : Int) + 4 := IntWalk.i64_in _ (by omega)
     by_cases hov : s.size < p + 1 + s[p].toNat + 4
     ·have HR := hid (HVN.out (HE.out.1.stop (by rw [HL3.out]; omega) (by rw [HL3.out, HC.out]; omega)))
      have hovi : (s.size : Int) < (p : Int) + 1 + (s[p].toNat : Int) + 4 := by omega
      have hr := HP.out.res
      have r0 : wr.cell? ⟨w.heap.size, 0, none⟩ = some (.int .i64 0) := cell_obj hr 0
      have r1 : wr.cell? ⟨w.heap.size, 1, none⟩ = some (.int .i64 0) := cell_obj hr 1
      have r2 : wr.cell? ⟨w.heap.size, 2, none⟩ = some (.string ⟨#[]⟩) := cell_obj hr 2
      have r3 : wr.cell? ⟨w.heap.size, 3, none⟩ = some (.string ⟨#[]⟩) := cell_obj hr 3
      have r4 : wr.cell? ⟨w.heap.size, 4, none⟩ = some (.slice none 0 0) := cell_obj hr 4
      have q0 := free_obj hr 0
      have q1 := free_obj hr 1
      have q2 := free_obj hr 2
      have q3 := free_obj hr 3
      have q4 := free_obj hr 4
      clear hr HVA HVN hov
      go_wp2_with fail
      refine bodyPost_ret_by (results_nd rfl _ _ w.heap.size _ _ _ _ _ rfl (set5 _ _ _ _ _ HP.out.res)) rfl ⟨none, 0, by rw [HR.out]; rfl, by rw [HR.out]; exact ents_nil _, below5 HP.out.below (Nat.le_refl _) _ _ _ _ _⟩
     ·have hovi : ¬ (s.size : Int) < (p : Int) + 1 + (s[p].toNat : Int) + 4 := by omega
      have HM := hid (HE.out.1.more (by rw [HL3.out]; omega) (by rw [HL3.out, HC.out]; omega))
      rw [HC.out, List.drop_drop, List.drop_drop, show 3 + (p - 3 + 1) = p + 1 by omega, show 3 + (p - 3 + 1 + s[p].toNat) = p + 1 + s[p].toNat by omega] at HM
      have HCut := hid (cut_text s (p + 1) s[p].toNat (by omega))
      have HBy := hid (show ∀ z, (h : p + 1 + s[p].toNat + z < s.size) -> s[p + 1 + s[p].toNat + z] = s.data.toList.getD (p + 1 + s[p].toNat + z) 0 from λz h => b_at s h)
      have hsz5 : p + 1 + s[p].toNat + 4 <= s.size := by omega
      generalize hqe : s[p].toNat = q at *
      clear hov HC
      go_wp2_with fail
      go_loopw [7, 8] (λv7 v8 w2 => (∃ z : Nat, z <= 4 /\ v8 = .int .i64 z /\ v7 = .int .i64 (vl ((s.data.toList.drop (p + 1 + q)).take z))) /\ w2 = wr) (λ_ v _ => 4 - (intOf v).toNat)
      case atStart => exact ⟨⟨0, Nat.zero_le _, rfl, rfl⟩, rfl⟩
      case round =>
       obtain ⟨⟨z, hz, rfl, rfl⟩, rfl⟩ := hrel
       have z0i : (0 : Int) <= (z : Int) := by omega
       by_cases hz4 : z < 4
       ·have hz4i : (z : Int) < 4 := by omega
        have HB := hid (HBy.out z (by omega))
        have hi1 : ((p : Int) + 1 + (q : Int) + (z : Int)) < (s.size : Int) := by omega
        have hi0 : (0 : Int) <= ((p : Int) + 1 + (q : Int) + (z : Int)) := by omega
        have hin : ((p : Int) + 1 + (q : Int) + (z : Int)).toNat = p + 1 + q + z := by omega
        have hio : p + 1 + q + z < s.data.size := by show p + 1 + q + z < s.size; omega
        have hw6 : IntKind.i64.wrap ((p : Int) + 1 + (q : Int) + (z : Int)) = (p : Int) + 1 + (q : Int) + (z : Int) := IntWalk.i64_in _ (by omega)
        have hc8 := s[p + 1 + q + z].toNat_lt
        have HT := hid (vl_more (l := s.data.toList.drop (p + 1 + q)) (z := z) (by rw [List.length_drop, HL.out]; omega) (c := s[p + 1 + q + z]) (by rw [HB.out, List.getD, List.getD, List.getElem?_drop]))
        have hv0 := vl_lo ((s.data.toList.drop (p + 1 + q)).take z)
        have hv1 := vl_hi (l := s.data.toList.drop (p + 1 + q)) (z := z) hz4
        generalize vl ((s.data.toList.drop (p + 1 + q)).take z) = V at *
        have hw7 : IntKind.i64.wrap (V * 256) = V * 256 := IntWalk.i64_in _ (by omega)
        have hw8 : IntKind.i64.wrap (V * 256 + (s[p + 1 + q + z].toNat : Int)) = V * 256 + (s[p + 1 + q + z].toNat : Int) := IntWalk.i64_in _ (by omega)
        clear HB
        go_wp2_with fail
        go_roundw
        case rel => exact ⟨⟨z + 1, by omega, by go_num, by rw [HT.out]⟩, by first | rfl | trivial⟩
        case measure => simp [intOf]; omega
       ·obtain rfl : z = 4 := by omega
        have HVl := hid (show vl ((s.data.toList.drop (p + 1 + q)).take 4) = (Nd.val ((s.data.toList.drop (p + 1 + q)).take 4) : Int) from rfl)
        generalize vl ((s.data.toList.drop (p + 1 + q)).take 4) = V at *
        have hb1 : (0 : Int) <= (p : Int) + 1 := by omega
        have hb2 : (p : Int) + 1 <= (p : Int) + 1 + (q : Int) := by omega
        have hb3 : (p : Int) + 1 + (q : Int) <= (s.size : Int) := by omega
        have hb4 : ((p : Int) + 1).toNat = p + 1 := by omega
        have hb5 : ((p : Int) + 1 + (q : Int)).toNat = p + 1 + q := by omega
        have hw9 : IntKind.i64.wrap ((p : Int) + (q : Int)) = (p : Int) + (q : Int) := IntWalk.i64_in _ (by omega)
        have hw10 : IntKind.i64.wrap ((p : Int) + (q : Int) + 5) = (p : Int) + (q : Int) + 5 := IntWalk.i64_in _ (by omega)
        have HPd := hid (HP.out.kept ((Below.refl wr.heap.size wr).drew))
        have HLen := hid (show es.length <= 200000 by have := HE.out.2.1; omega)
        generalize hy : s.extract (p + 1) (p + 1 + q) = y at *
        have y4 : (wr.alloc (.cells #[.string y, .int .i64 V] 146)).cell? ⟨w.heap.size + 1, 4, none⟩ = some (.slice ao es.length cp) := ((below_one wr _).cell (p := ⟨w.heap.size + 1, 4, none⟩) (block_lt_of_cell x4)).trans x4
        have HO3 := hid (owned_below HPd.out.own (below_one wr.drew (.cells #[.string y, .int .i64 V] 146)))
        have HN3 := hid (heap_alloc_new wr.drew (.cells #[.string y, .int .i64 V] 146))
        have HZ := hid (Nat.le_trans HPd.out.big (below_one wr.drew (.cells #[.string y, .int .i64 V] 146)).size)
        clear hz hz4 HVA HVN
        go_wp2_with fail
        go_region_law (first
         | (refine step_ent rfl _ _ rfl (w.heap.size + 2) _ es (by rfl) HO3.out wr.drew.heap.size (y, V) (by rfl) HN3.out (Nat.le_trans HLen.out (by decide)) HZ.out ?_; intro ao4 cap4 w4 hown4 hgrow4; have HP4 := hid (pat_more HPd.out HO3.out hgrow4 (by simpa [Own] using hown4)); have hm := pat_mid HPd.out HO3.out hgrow4; have ck4 := cell_obj hm 4; have fk4 := free_obj hm 4; clear hown4 hgrow4 hm)
         |fail)
        all_goals
         go_wp2_with fail
         go_roundw
         case rel =>
          refine ⟨p + q + 5, es ++ [(y, V)], _, by simp, by omega, by omega, ?_, by simpa using HP4.out⟩
          have hm := HM.out
          rw [show p - 3 + q + 5 = p + q + 5 - 3 by omega, show Nd.mk ((s.data.toList.drop (p + 1)).take q) = y from HCut.out.symm, <- HVl.out] at hm
          refine ⟨hm, by rw [List.length_append, List.length_singleton]; have := HE.out.2.1; omega, λx hx => ?_⟩
          rcases List.mem_append.1 hx with h | h
          ·exact HE.out.2.2 x h
          ·rw [List.mem_singleton.1 h]
           show y.size <= 300
           rw [HCut.out, lstr_size, List.length_take]; omega
         case measure => simp [intOf]; omega
    ·obtain rfl : p = s.size := by omega
     have HV := hid (HVA.out es (HE.out.1.done (by rw [List.length_drop, HL.out])))
     have hel := HE.out.2.1
     have HN := hid (refNode_any 2 ((s[1].toNat : Int) * 256 + (s[2].toNat : Int)) ⟨#[]⟩ ⟨#[]⟩ ao es.length cp es wr (own_ents HP.out.own) (by omega) (λj hj => by rw [List.getD, List.getElem?_eq_getElem hj]; exact Nat.le_trans (HE.out.2.2 _ (List.getElem_mem hj)) (by decide)))
     unfold Samed at HN
     clear hel HVA HVN
     have hx := HP.out.box
     have x0 : wr.cell? ⟨w.heap.size + 1, 0, none⟩ = some (.int .i64 2) := cell_obj hx 0
     have x1 : wr.cell? ⟨w.heap.size + 1, 1, none⟩ = some (.int .i64 ((s[1].toNat : Int) * 256 + (s[2].toNat : Int))) := cell_obj hx 1
     have x2 : wr.cell? ⟨w.heap.size + 1, 2, none⟩ = some (.string ⟨#[]⟩) := cell_obj hx 2
     have x3 : wr.cell? ⟨w.heap.size + 1, 3, none⟩ = some (.string ⟨#[]⟩) := cell_obj hx 3
     have x4 : wr.cell? ⟨w.heap.size + 1, 4, none⟩ = some (.slice ao es.length cp) := cell_obj hx 4
     clear hx
     cases hrt : ndr 2 ((s[1].toNat : Int) * 256 + (s[2].toNat : Int)) ⟨#[]⟩ ⟨#[]⟩ es
     ·rw [hrt] at HN
      have HR := hid (show parseR s.data.toList = (Nd.none0, 2) by rw [HV.out, if_neg]; intro h; unfold ndr at hrt; rw [hrt] at h; cases h)
      clear HV hrt
      go_wp2_with fail
      refine HN.out.mono ?_
      rintro e w2 ⟨rfl, hw2⟩
      have HP2 := hid (HP.out.kept hw2)
      clear hw2 x0 x1 x2 x3 x4
      have hr := HP2.out.res
      have r0 : w2.cell? ⟨w.heap.size, 0, none⟩ = some (.int .i64 0) := cell_obj hr 0
      have r1 : w2.cell? ⟨w.heap.size, 1, none⟩ = some (.int .i64 0) := cell_obj hr 1
      have r2 : w2.cell? ⟨w.heap.size, 2, none⟩ = some (.string ⟨#[]⟩) := cell_obj hr 2
      have r3 : w2.cell? ⟨w.heap.size, 3, none⟩ = some (.string ⟨#[]⟩) := cell_obj hr 3
      have r4 : w2.cell? ⟨w.heap.size, 4, none⟩ = some (.slice none 0 0) := cell_obj hr 4
      have q0 := free_obj hr 0
      have q1 := free_obj hr 1
      have q2 := free_obj hr 2
      have q3 := free_obj hr 3
      have q4 := free_obj hr 4
      clear hr
      dsimp only
      go_wp2_with fail
      refine bodyPost_ret_by (results_nd rfl _ _ w.heap.size _ _ _ _ _ rfl (set5 _ _ _ _ _ HP2.out.res)) rfl ⟨none, 0, by rw [HR.out]; rfl, by rw [HR.out]; exact ents_nil _, below5 HP2.out.below (Nat.le_refl _) _ _ _ _ _⟩
     ·rw [hrt] at HN
      have HR := hid (show parseR s.data.toList = (⟨2, ((s[1].toNat : Int) * 256 + (s[2].toNat : Int)), ⟨#[]⟩, ⟨#[]⟩, es⟩, 0) by rw [HV.out, if_pos (show Nd.right less Nm.right _ = true from hrt)])
      clear HV hrt
      go_wp2_with fail
      refine HN.out.mono ?_
      rintro e w2 ⟨rfl, hw2⟩
      have HP2 := hid (HP.out.kept hw2)
      clear hw2 x0 x1 x2 x3 x4
      have hx := HP2.out.box
      have hr := HP2.out.res
      have r0 : w2.cell? ⟨w.heap.size, 0, none⟩ = some (.int .i64 0) := cell_obj hr 0
      have r1 : w2.cell? ⟨w.heap.size, 1, none⟩ = some (.int .i64 0) := cell_obj hr 1
      have r2 : w2.cell? ⟨w.heap.size, 2, none⟩ = some (.string ⟨#[]⟩) := cell_obj hr 2
      have r3 : w2.cell? ⟨w.heap.size, 3, none⟩ = some (.string ⟨#[]⟩) := cell_obj hr 3
      have r4 : w2.cell? ⟨w.heap.size, 4, none⟩ = some (.slice none 0 0) := cell_obj hr 4
      have q0 := free_obj hr 0
      have q1 := free_obj hr 1
      have q2 := free_obj hr 2
      have q3 := free_obj hr 3
      have q4 := free_obj hr 4
      have x0 : w2.cell? ⟨w.heap.size + 1, 0, none⟩ = some (.int .i64 2) := cell_obj hx 0
      have x1 : w2.cell? ⟨w.heap.size + 1, 1, none⟩ = some (.int .i64 ((s[1].toNat : Int) * 256 + (s[2].toNat : Int))) := cell_obj hx 1
      have x2 : w2.cell? ⟨w.heap.size + 1, 2, none⟩ = some (.string ⟨#[]⟩) := cell_obj hx 2
      have x3 : w2.cell? ⟨w.heap.size + 1, 3, none⟩ = some (.string ⟨#[]⟩) := cell_obj hx 3
      have x4 : w2.cell? ⟨w.heap.size + 1, 4, none⟩ = some (.slice ao es.length cp) := cell_obj hx 4
      clear hx hr
      dsimp only
      go_wp2_with fail
      refine bodyPost_ret_by (results_nd rfl _ _ w.heap.size _ _ _ _ _ rfl (set5 _ _ _ _ _ HP2.out.res)) rfl ⟨ao, cp, by rw [HR.out]; rfl, by rw [HR.out]; exact own_ents (own_set5 HP2.out.own (by omega) _ _ _ _ _), below5 HP2.out.below (Nat.le_refl _) _ _ _ _ _⟩
  by_cases k1 : s[0].toNat = 1
  ·have HND := hid (show ndOf s.data.toList [] = ⟨1, ((s[1].toNat : Int) * 256 + (s[2].toNat : Int)), s.extract 3 s.size, ⟨#[]⟩, []⟩ by
    rw [rest_is s (by omega)]; unfold ndOf Nd.nodeOf; rw [<- HA0.out, <- HA1.out, <- HA2.out, k1, if_pos rfl, if_neg (by omega)]; rfl)
   have HV := hid (show parseR s.data.toList = if Nd.right less Nm.right ⟨1, ((s[1].toNat : Int) * 256 + (s[2].toNat : Int)), (s.extract 3 s.size), ⟨#[]⟩, []⟩ = true then (⟨1, ((s[1].toNat : Int) * 256 + (s[2].toNat : Int)), (s.extract 3 s.size), ⟨#[]⟩, []⟩, 0) else (Nd.none0, 2) by rw [<- HND.out]; exact HY.out [] (by rw [if_neg (by rw [<- HA0.out]; omega)]))
   clear HNo HY HND HA0 HA1 HA2
   go_enter func34, ntmps34
   go_wp2_with fail
   go_region
   go_wp2_with fail
   go_loopw [5] (λv wr => v = .int .i64 3 /\ Pat w 1 ((s[1].toNat : Int) * 256 + (s[2].toNat : Int)) (s.extract 3 s.size) ⟨#[]⟩ [] (.slice none 0 0) wr) (λ_ _ => 0)
   case atStart => exact ⟨rfl, pat_start w _ _ _ _⟩
   case round =>
    obtain ⟨rfl, hp⟩ := hrel
    have HP := hid hp
    have HN := hid (refNode_any 1 ((s[1].toNat : Int) * 256 + (s[2].toNat : Int)) (s.extract 3 s.size) ⟨#[]⟩ none 0 0 [] wr (ents_nil _) (Nat.zero_le _) (λj hj => by omega))
    unfold Samed at HN
    clear hp
    have hx := HP.out.box
    have x0 : wr.cell? ⟨w.heap.size + 1, 0, none⟩ = some (.int .i64 1) := cell_obj hx 0
    have x1 : wr.cell? ⟨w.heap.size + 1, 1, none⟩ = some (.int .i64 ((s[1].toNat : Int) * 256 + (s[2].toNat : Int))) := cell_obj hx 1
    have x2 : wr.cell? ⟨w.heap.size + 1, 2, none⟩ = some (.string (s.extract 3 s.size)) := cell_obj hx 2
    have x3 : wr.cell? ⟨w.heap.size + 1, 3, none⟩ = some (.string ⟨#[]⟩) := cell_obj hx 3
    have x4 : wr.cell? ⟨w.heap.size + 1, 4, none⟩ = some (.slice none 0 0) := cell_obj hx 4
    clear hx
    cases hrt : ndr 1 ((s[1].toNat : Int) * 256 + (s[2].toNat : Int)) (s.extract 3 s.size) ⟨#[]⟩ []
    ·rw [hrt] at HN
     have HR := hid (show parseR s.data.toList = (Nd.none0, 2) by rw [HV.out, if_neg]; intro h; unfold ndr at hrt; rw [hrt] at h; cases h)
     clear HV hrt
     go_wp2_with fail
     refine HN.out.mono ?_
     rintro e w2 ⟨rfl, hw2⟩
     have HP2 := hid (HP.out.kept hw2)
     clear hw2 x0 x1 x2 x3 x4
     have hr := HP2.out.res
     have r0 : w2.cell? ⟨w.heap.size, 0, none⟩ = some (.int .i64 0) := cell_obj hr 0
     have r1 : w2.cell? ⟨w.heap.size, 1, none⟩ = some (.int .i64 0) := cell_obj hr 1
     have r2 : w2.cell? ⟨w.heap.size, 2, none⟩ = some (.string ⟨#[]⟩) := cell_obj hr 2
     have r3 : w2.cell? ⟨w.heap.size, 3, none⟩ = some (.string ⟨#[]⟩) := cell_obj hr 3
     have r4 : w2.cell? ⟨w.heap.size, 4, none⟩ = some (.slice none 0 0) := cell_obj hr 4
     have q0 := free_obj hr 0
     have q1 := free_obj hr 1
     have q2 := free_obj hr 2
     have q3 := free_obj hr 3
     have q4 := free_obj hr 4
     clear hr
     dsimp only
     go_wp2_with fail
     refine bodyPost_ret_by (results_nd rfl _ _ w.heap.size _ _ _ _ _ rfl (set5 _ _ _ _ _ HP2.out.res)) rfl ⟨none, 0, by rw [HR.out]; rfl, by rw [HR.out]; exact ents_nil _, below5 HP2.out.below (Nat.le_refl _) _ _ _ _ _⟩
    ·rw [hrt] at HN
     have HR := hid (show parseR s.data.toList = (⟨1, ((s[1].toNat : Int) * 256 + (s[2].toNat : Int)), (s.extract 3 s.size), ⟨#[]⟩, []⟩, 0) by rw [HV.out, if_pos (show Nd.right less Nm.right _ = true from hrt)])
     clear HV hrt
     go_wp2_with fail
     refine HN.out.mono ?_
     rintro e w2 ⟨rfl, hw2⟩
     have HP2 := hid (HP.out.kept hw2)
     clear hw2 x0 x1 x2 x3 x4
     have hx := HP2.out.box
     have hr := HP2.out.res
     have r0 : w2.cell? ⟨w.heap.size, 0, none⟩ = some (.int .i64 0) := cell_obj hr 0
     have r1 : w2.cell? ⟨w.heap.size, 1, none⟩ = some (.int .i64 0) := cell_obj hr 1
     have r2 : w2.cell? ⟨w.heap.size, 2, none⟩ = some (.string ⟨#[]⟩) := cell_obj hr 2
     have r3 : w2.cell? ⟨w.heap.size, 3, none⟩ = some (.string ⟨#[]⟩) := cell_obj hr 3
     have r4 : w2.cell? ⟨w.heap.size, 4, none⟩ = some (.slice none 0 0) := cell_obj hr 4
     have q0 := free_obj hr 0
     have q1 := free_obj hr 1
     have q2 := free_obj hr 2
     have q3 := free_obj hr 3
     have q4 := free_obj hr 4
     have x0 : w2.cell? ⟨w.heap.size + 1, 0, none⟩ = some (.int .i64 1) := cell_obj hx 0
     have x1 : w2.cell? ⟨w.heap.size + 1, 1, none⟩ = some (.int .i64 ((s[1].toNat : Int) * 256 + (s[2].toNat : Int))) := cell_obj hx 1
     have x2 : w2.cell? ⟨w.heap.size + 1, 2, none⟩ = some (.string (s.extract 3 s.size)) := cell_obj hx 2
     have x3 : w2.cell? ⟨w.heap.size + 1, 3, none⟩ = some (.string ⟨#[]⟩) := cell_obj hx 3
     have x4 : w2.cell? ⟨w.heap.size + 1, 4, none⟩ = some (.slice none 0 0) := cell_obj hx 4
     clear hx hr
     dsimp only
     go_wp2_with fail
     refine bodyPost_ret_by (results_nd rfl _ _ w.heap.size _ _ _ _ _ rfl (set5 _ _ _ _ _ HP2.out.res)) rfl ⟨none, 0, by rw [HR.out]; rfl, by rw [HR.out]; exact own_ents (own_set5 HP2.out.own (by omega) _ _ _ _ _), below5 HP2.out.below (Nat.le_refl _) _ _ _ _ _⟩
  by_cases k3 : s[0].toNat = 3
  ·have HND := hid (show ndOf s.data.toList [] = ⟨3, ((s[1].toNat : Int) * 256 + (s[2].toNat : Int)), ⟨#[]⟩, s.extract 3 s.size, []⟩ by
    rw [rest_is s (by omega)]; unfold ndOf Nd.nodeOf; rw [<- HA0.out, <- HA1.out, <- HA2.out, k3, if_neg (by omega), if_pos rfl]; rfl)
   have HV := hid (show parseR s.data.toList = if Nd.right less Nm.right ⟨3, ((s[1].toNat : Int) * 256 + (s[2].toNat : Int)), ⟨#[]⟩, (s.extract 3 s.size), []⟩ = true then (⟨3, ((s[1].toNat : Int) * 256 + (s[2].toNat : Int)), ⟨#[]⟩, (s.extract 3 s.size), []⟩, 0) else (Nd.none0, 2) by rw [<- HND.out]; exact HY.out [] (by rw [if_neg (by rw [<- HA0.out]; omega)]))
   clear HNo HY HND HA0 HA1 HA2
   go_enter func34, ntmps34
   go_wp2_with fail
   go_region
   go_wp2_with fail
   go_loopw [5] (λv wr => v = .int .i64 3 /\ Pat w 3 ((s[1].toNat : Int) * 256 + (s[2].toNat : Int)) ⟨#[]⟩ (s.extract 3 s.size) [] (.slice none 0 0) wr) (λ_ _ => 0)
   case atStart => exact ⟨rfl, pat_start w _ _ _ _⟩
   case round =>
    obtain ⟨rfl, hp⟩ := hrel
    have HP := hid hp
    have HN := hid (refNode_any 3 ((s[1].toNat : Int) * 256 + (s[2].toNat : Int)) ⟨#[]⟩ (s.extract 3 s.size) none 0 0 [] wr (ents_nil _) (Nat.zero_le _) (λj hj => by omega))
    unfold Samed at HN
    clear hp
    have hx := HP.out.box
    have x0 : wr.cell? ⟨w.heap.size + 1, 0, none⟩ = some (.int .i64 3) := cell_obj hx 0
    have x1 : wr.cell? ⟨w.heap.size + 1, 1, none⟩ = some (.int .i64 ((s[1].toNat : Int) * 256 + (s[2].toNat : Int))) := cell_obj hx 1
    have x2 : wr.cell? ⟨w.heap.size + 1, 2, none⟩ = some (.string ⟨#[]⟩) := cell_obj hx 2
    have x3 : wr.cell? ⟨w.heap.size + 1, 3, none⟩ = some (.string (s.extract 3 s.size)) := cell_obj hx 3
    have x4 : wr.cell? ⟨w.heap.size + 1, 4, none⟩ = some (.slice none 0 0) := cell_obj hx 4
    clear hx
    cases hrt : ndr 3 ((s[1].toNat : Int) * 256 + (s[2].toNat : Int)) ⟨#[]⟩ (s.extract 3 s.size) []
    ·rw [hrt] at HN
     have HR := hid (show parseR s.data.toList = (Nd.none0, 2) by rw [HV.out, if_neg]; intro h; unfold ndr at hrt; rw [hrt] at h; cases h)
     clear HV hrt
     go_wp2_with fail
     refine HN.out.mono ?_
     rintro e w2 ⟨rfl, hw2⟩
     have HP2 := hid (HP.out.kept hw2)
     clear hw2 x0 x1 x2 x3 x4
     have hr := HP2.out.res
     have r0 : w2.cell? ⟨w.heap.size, 0, none⟩ = some (.int .i64 0) := cell_obj hr 0
     have r1 : w2.cell? ⟨w.heap.size, 1, none⟩ = some (.int .i64 0) := cell_obj hr 1
     have r2 : w2.cell? ⟨w.heap.size, 2, none⟩ = some (.string ⟨#[]⟩) := cell_obj hr 2
     have r3 : w2.cell? ⟨w.heap.size, 3, none⟩ = some (.string ⟨#[]⟩) := cell_obj hr 3
     have r4 : w2.cell? ⟨w.heap.size, 4, none⟩ = some (.slice none 0 0) := cell_obj hr 4
     have q0 := free_obj hr 0
     have q1 := free_obj hr 1
     have q2 := free_obj hr 2
     have q3 := free_obj hr 3
     have q4 := free_obj hr 4
     clear hr
     dsimp only
     go_wp2_with fail
     refine bodyPost_ret_by (results_nd rfl _ _ w.heap.size _ _ _ _ _ rfl (set5 _ _ _ _ _ HP2.out.res)) rfl ⟨none, 0, by rw [HR.out]; rfl, by rw [HR.out]; exact ents_nil _, below5 HP2.out.below (Nat.le_refl _) _ _ _ _ _⟩
    ·rw [hrt] at HN
     have HR := hid (show parseR s.data.toList = (⟨3, ((s[1].toNat : Int) * 256 + (s[2].toNat : Int)), ⟨#[]⟩, (s.extract 3 s.size), []⟩, 0) by rw [HV.out, if_pos (show Nd.right less Nm.right _ = true from hrt)])
     clear HV hrt
     go_wp2_with fail
     refine HN.out.mono ?_
     rintro e w2 ⟨rfl, hw2⟩
     have HP2 := hid (HP.out.kept hw2)
     clear hw2 x0 x1 x2 x3 x4
     have hx := HP2.out.box
     have hr := HP2.out.res
     have r0 : w2.cell? ⟨w.heap.size, 0, none⟩ = some (.int .i64 0) := cell_obj hr 0
     have r1 : w2.cell? ⟨w.heap.size, 1, none⟩ = some (.int .i64 0) := cell_obj hr 1
     have r2 : w2.cell? ⟨w.heap.size, 2, none⟩ = some (.string ⟨#[]⟩) := cell_obj hr 2
     have r3 : w2.cell? ⟨w.heap.size, 3, none⟩ = some (.string ⟨#[]⟩) := cell_obj hr 3
     have r4 : w2.cell? ⟨w.heap.size, 4, none⟩ = some (.slice none 0 0) := cell_obj hr 4
     have q0 := free_obj hr 0
     have q1 := free_obj hr 1
     have q2 := free_obj hr 2
     have q3 := free_obj hr 3
     have q4 := free_obj hr 4
     have x0 : w2.cell? ⟨w.heap.size + 1, 0, none⟩ = some (.int .i64 3) := cell_obj hx 0
     have x1 : w2.cell? ⟨w.heap.size + 1, 1, none⟩ = some (.int .i64 ((s[1].toNat : Int) * 256 + (s[2].toNat : Int))) := cell_obj hx 1
     have x2 : w2.cell? ⟨w.heap.size + 1, 2, none⟩ = some (.string ⟨#[]⟩) := cell_obj hx 2
     have x3 : w2.cell? ⟨w.heap.size + 1, 3, none⟩ = some (.string (s.extract 3 s.size)) := cell_obj hx 3
     have x4 : w2.cell? ⟨w.heap.size + 1, 4, none⟩ = some (.slice none 0 0) := cell_obj hx 4
     clear hx hr
     dsimp only
     go_wp2_with fail
     refine bodyPost_ret_by (results_nd rfl _ _ w.heap.size _ _ _ _ _ rfl (set5 _ _ _ _ _ HP2.out.res)) rfl ⟨none, 0, by rw [HR.out]; rfl, by rw [HR.out]; exact own_ents (own_set5 HP2.out.own (by omega) _ _ _ _ _), below5 HP2.out.below (Nat.le_refl _) _ _ _ _ _⟩
  have k1i : ¬ (s[0].toNat : Int) = 1 := by omega
  have k2i : ¬ (s[0].toNat : Int) = 2 := by omega
  have k3i : ¬ (s[0].toNat : Int) = 3 := by omega
  have HND := hid (show ndOf s.data.toList [] = ⟨(s[0].toNat : Int), ((s[1].toNat : Int) * 256 + (s[2].toNat : Int)), ⟨#[]⟩, ⟨#[]⟩, []⟩ by
   unfold ndOf Nd.nodeOf; rw [<- HA0.out, <- HA1.out, <- HA2.out, if_neg k1, if_neg k3]; rfl)
  have HV := hid (show parseR s.data.toList = if Nd.right less Nm.right ⟨(s[0].toNat : Int), ((s[1].toNat : Int) * 256 + (s[2].toNat : Int)), ⟨#[]⟩, ⟨#[]⟩, []⟩ = true then (⟨(s[0].toNat : Int), ((s[1].toNat : Int) * 256 + (s[2].toNat : Int)), ⟨#[]⟩, ⟨#[]⟩, []⟩, 0) else (Nd.none0, 2) by rw [<- HND.out]; exact HY.out [] (by rw [if_neg (by rw [<- HA0.out]; omega)]))
  clear HNo HY HND HA0 HA1 HA2
  go_enter func34, ntmps34
  go_wp2_with fail
  go_region
  go_wp2_with fail
  go_loopw [5] (λv wr => v = .int .i64 3 /\ Pat w (s[0].toNat : Int) ((s[1].toNat : Int) * 256 + (s[2].toNat : Int)) ⟨#[]⟩ ⟨#[]⟩ [] (.slice none 0 0) wr) (λ_ _ => 0)
  case atStart => exact ⟨rfl, pat_start w _ _ _ _⟩
  case round =>
   obtain ⟨rfl, hp⟩ := hrel
   have HP := hid hp
   have HN := hid (refNode_any (s[0].toNat : Int) ((s[1].toNat : Int) * 256 + (s[2].toNat : Int)) ⟨#[]⟩ ⟨#[]⟩ none 0 0 [] wr (ents_nil _) (Nat.zero_le _) (λj hj => by omega))
   unfold Samed at HN
   clear hp
   have hx := HP.out.box
   have x0 : wr.cell? ⟨w.heap.size + 1, 0, none⟩ = some (.int .i64 (s[0].toNat : Int)) := cell_obj hx 0
   have x1 : wr.cell? ⟨w.heap.size + 1, 1, none⟩ = some (.int .i64 ((s[1].toNat : Int) * 256 + (s[2].toNat : Int))) := cell_obj hx 1
   have x2 : wr.cell? ⟨w.heap.size + 1, 2, none⟩ = some (.string ⟨#[]⟩) := cell_obj hx 2
   have x3 : wr.cell? ⟨w.heap.size + 1, 3, none⟩ = some (.string ⟨#[]⟩) := cell_obj hx 3
   have x4 : wr.cell? ⟨w.heap.size + 1, 4, none⟩ = some (.slice none 0 0) := cell_obj hx 4
   clear hx
   cases hrt : ndr (s[0].toNat : Int) ((s[1].toNat : Int) * 256 + (s[2].toNat : Int)) ⟨#[]⟩ ⟨#[]⟩ []
   ·rw [hrt] at HN
    have HR := hid (show parseR s.data.toList = (Nd.none0, 2) by rw [HV.out, if_neg]; intro h; unfold ndr at hrt; rw [hrt] at h; cases h)
    clear HV hrt
    go_wp2_with fail
    refine HN.out.mono ?_
    rintro e w2 ⟨rfl, hw2⟩
    have HP2 := hid (HP.out.kept hw2)
    clear hw2 x0 x1 x2 x3 x4
    have hr := HP2.out.res
    have r0 : w2.cell? ⟨w.heap.size, 0, none⟩ = some (.int .i64 0) := cell_obj hr 0
    have r1 : w2.cell? ⟨w.heap.size, 1, none⟩ = some (.int .i64 0) := cell_obj hr 1
    have r2 : w2.cell? ⟨w.heap.size, 2, none⟩ = some (.string ⟨#[]⟩) := cell_obj hr 2
    have r3 : w2.cell? ⟨w.heap.size, 3, none⟩ = some (.string ⟨#[]⟩) := cell_obj hr 3
    have r4 : w2.cell? ⟨w.heap.size, 4, none⟩ = some (.slice none 0 0) := cell_obj hr 4
    have q0 := free_obj hr 0
    have q1 := free_obj hr 1
    have q2 := free_obj hr 2
    have q3 := free_obj hr 3
    have q4 := free_obj hr 4
    clear hr
    dsimp only
    go_wp2_with fail
    refine bodyPost_ret_by (results_nd rfl _ _ w.heap.size _ _ _ _ _ rfl (set5 _ _ _ _ _ HP2.out.res)) rfl ⟨none, 0, by rw [HR.out]; rfl, by rw [HR.out]; exact ents_nil _, below5 HP2.out.below (Nat.le_refl _) _ _ _ _ _⟩
   ·rw [hrt] at HN
    have HR := hid (show parseR s.data.toList = (⟨(s[0].toNat : Int), ((s[1].toNat : Int) * 256 + (s[2].toNat : Int)), ⟨#[]⟩, ⟨#[]⟩, []⟩, 0) by rw [HV.out, if_pos (show Nd.right less Nm.right _ = true from hrt)])
    clear HV hrt
    go_wp2_with fail
    refine HN.out.mono ?_
    rintro e w2 ⟨rfl, hw2⟩
    have HP2 := hid (HP.out.kept hw2)
    clear hw2 x0 x1 x2 x3 x4
    have hx := HP2.out.box
    have hr := HP2.out.res
    have r0 : w2.cell? ⟨w.heap.size, 0, none⟩ = some (.int .i64 0) := cell_obj hr 0
    have r1 : w2.cell? ⟨w.heap.size, 1, none⟩ = some (.int .i64 0) := cell_obj hr 1
    have r2 : w2.cell? ⟨w.heap.size, 2, none⟩ = some (.string ⟨#[]⟩) := cell_obj hr 2
    have r3 : w2.cell? ⟨w.heap.size, 3, none⟩ = some (.string ⟨#[]⟩) := cell_obj hr 3
    have r4 : w2.cell? ⟨w.heap.size, 4, none⟩ = some (.slice none 0 0) := cell_obj hr 4
    have q0 := free_obj hr 0
    have q1 := free_obj hr 1
    have q2 := free_obj hr 2
    have q3 := free_obj hr 3
    have q4 := free_obj hr 4
    have x0 : w2.cell? ⟨w.heap.size + 1, 0, none⟩ = some (.int .i64 (s[0].toNat : Int)) := cell_obj hx 0
    have x1 : w2.cell? ⟨w.heap.size + 1, 1, none⟩ = some (.int .i64 ((s[1].toNat : Int) * 256 + (s[2].toNat : Int))) := cell_obj hx 1
    have x2 : w2.cell? ⟨w.heap.size + 1, 2, none⟩ = some (.string ⟨#[]⟩) := cell_obj hx 2
    have x3 : w2.cell? ⟨w.heap.size + 1, 3, none⟩ = some (.string ⟨#[]⟩) := cell_obj hx 3
    have x4 : w2.cell? ⟨w.heap.size + 1, 4, none⟩ = some (.slice none 0 0) := cell_obj hx 4
    clear hx hr
    dsimp only
    go_wp2_with fail
    refine bodyPost_ret_by (results_nd rfl _ _ w.heap.size _ _ _ _ _ rfl (set5 _ _ _ _ _ HP2.out.res)) rfl ⟨none, 0, by rw [HR.out]; rfl, by rw [HR.out]; exact own_ents (own_set5 HP2.out.own (by omega) _ _ _ _ _), below5 HP2.out.below (Nat.le_refl _) _ _ _ _ _⟩
end Go.Proofs.YthbajmlmjjfgpaaGreatDoor
