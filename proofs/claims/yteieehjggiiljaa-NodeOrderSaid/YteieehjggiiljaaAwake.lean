/- The law's awake. -/
import Derived.Test.YteieehjggiiljaaWith
import Derived.Test.YteieehjggiiljaaSame
import Derived.Test.YteieehjggiiljaaPrintP
import Derived.Test.YteieehjggiiljaaParseP
import Derived.Test.YteieehjggiiljaaFew
namespace Go.Proofs.Yteieehjggiiljaa
set_option maxRecDepth 100000
open Go.RowKit Go.Less
attribute [local go_sem 9000] sem_eql sem_neq
abbrev ea : En := (⟨#[97]⟩, 2)
theorem one_small : ∀ j, j < 1 → (([ea] : List En).getD j z0).1.size ≤ 100000 := fun j hj => by
  match j, hj with
  | 0, _ => decide
theorem d_with1 : Nd.withE less Nm.right ⟨2, 493, ⟨#[]⟩, ⟨#[]⟩, []⟩ ⟨#[97]⟩ 2 = (⟨2, 493, ⟨#[]⟩, ⟨#[]⟩, [(⟨#[97]⟩, 2)]⟩, 0) := by decide +kernel
theorem d_with2 : Nd.withE less Nm.right ⟨2, 493, ⟨#[]⟩, ⟨#[]⟩, [(⟨#[97]⟩, 2)]⟩ ⟨#[97]⟩ 3 = (Nd.none0, 5) := by decide +kernel
theorem d_wout : Nd.withoutE ⟨2, 493, ⟨#[]⟩, ⟨#[]⟩, [(⟨#[97]⟩, 2)]⟩ ⟨#[97]⟩ = (⟨2, 493, ⟨#[]⟩, ⟨#[]⟩, []⟩, 0) := by decide +kernel
theorem d_right1 : ndr 2 493 ⟨#[]⟩ ⟨#[]⟩ [] = true := by decide +kernel
theorem d_right2 : ndr 0 0 ⟨#[]⟩ ⟨#[]⟩ [] = false := by decide +kernel
theorem d_righty : ndr 2 493 ⟨#[]⟩ ⟨#[]⟩ [ea] = true := by decide +kernel
theorem d_text : Nd.text ⟨2, 493, ⟨#[]⟩, ⟨#[]⟩, [(⟨#[97]⟩, 2)]⟩ = [2, 1, 237, 1, 97, 0, 0, 0, 2] := by decide +kernel
theorem nm256 : ∀ l, Nm.right l = true → l.length < 256 := fun l h => Nat.lt_of_le_of_lt (nm_len h) (by decide)
theorem d_print : prt ⟨2, 493, ⟨#[]⟩, ⟨#[]⟩, [(⟨#[97]⟩, 2)]⟩ = (⟨#[2, 1, 237, 1, 97, 0, 0, 0, 2]⟩, 0) := by
  unfold prt
  rw [if_pos (show Nd.right less Nm.right _ = true from d_righty), d_text]; rfl
theorem d_parse : parseR [2, 1, 237, 1, 97, 0, 0, 0, 2] = (⟨2, 493, ⟨#[]⟩, ⟨#[]⟩, [(⟨#[97]⟩, 2)]⟩, 0) := by
  unfold parseR
  rw [← d_text, Nd.parse_text nm256 ((Nd.right_iff _).1 d_righty)]
section
variable {a a' : Option Addr} {c c' : Nat}
theorem aw_with1 (w : World) (h : Ents none 0 [] w) : Calls Try.prog 15 #[nv 2 493 ⟨#[]⟩ ⟨#[]⟩ none 0 0, .string ⟨#[97]⟩, .int .i64 2] w fun e w' => ∃ a c, e = .returned (.tuple #[nv 2 493 ⟨#[]⟩ ⟨#[]⟩ a 1 c, .int .i64 0]) ∧ Ents a 1 [ea] w' ∧ Below w.heap.size w w' := by
  have H := with_any 2 493 ⟨#[]⟩ ⟨#[]⟩ none 0 0 [] ⟨#[97]⟩ 2 w h (by decide) (fun j hj => by omega) (by decide) (by decide) (by decide)
  rw [d_with1] at H; exact H
theorem aw_with2 (w : World) (h : Ents a 1 [ea] w) : Calls Try.prog 15 #[nv 2 493 ⟨#[]⟩ ⟨#[]⟩ a 1 c, .string ⟨#[97]⟩, .int .i64 3] w fun e w' => ∃ a c, e = .returned (.tuple #[nv 0 0 ⟨#[]⟩ ⟨#[]⟩ a 0 c, .int .i64 5]) ∧ Ents a 0 [] w' ∧ Below w.heap.size w w' := by
  have H := with_any 2 493 ⟨#[]⟩ ⟨#[]⟩ a 1 c [ea] ⟨#[97]⟩ 3 w h (by decide) one_small (by decide) (by decide) (by decide)
  rw [d_with2] at H; exact H
theorem aw_wout (w : World) (h : Ents a 1 [ea] w) : Calls Try.prog 17 #[nv 2 493 ⟨#[]⟩ ⟨#[]⟩ a 1 c, .string ⟨#[97]⟩] w fun e w' => ∃ a c, e = .returned (.tuple #[nv 2 493 ⟨#[]⟩ ⟨#[]⟩ a 0 c, .int .i64 0]) ∧ Ents a 0 [] w' ∧ Below w.heap.size w w' := by
  have H := without_any 2 493 ⟨#[]⟩ ⟨#[]⟩ a 1 c [ea] ⟨#[97]⟩ w h (by decide) one_small (by decide) (by decide)
  rw [d_wout] at H; exact H
theorem aw_print (w : World) (h : Ents a 1 [ea] w) : Calls Try.prog 9 #[nv 2 493 ⟨#[]⟩ ⟨#[]⟩ a 1 c] w fun e w' => e = .returned (.tuple #[.string ⟨#[2, 1, 237, 1, 97, 0, 0, 0, 2]⟩, .int .i64 0]) ∧ Below w.heap.size w w' := by
  have H := print_any 2 493 ⟨#[]⟩ ⟨#[]⟩ a 1 c [ea] w h (by decide) one_small
  unfold Printed at H
  rw [d_print] at H; exact H
theorem aw_parse (w : World) : Calls Try.prog 11 #[.string ⟨#[2, 1, 237, 1, 97, 0, 0, 0, 2]⟩] w fun e w' => ∃ a c, e = .returned (.tuple #[nv 2 493 ⟨#[]⟩ ⟨#[]⟩ a 1 c, .int .i64 0]) ∧ Ents a 1 [ea] w' ∧ Below w.heap.size w w' := by
  have H := parse_any ⟨#[2, 1, 237, 1, 97, 0, 0, 0, 2]⟩ w (by decide)
  rw [show (⟨#[2, 1, 237, 1, 97, 0, 0, 0, 2]⟩ : ByteArray).data.toList = [2, 1, 237, 1, 97, 0, 0, 0, 2] from rfl, d_parse] at H; exact H
theorem aw_find (w : World) (h : Ents a 1 [ea] w) : Calls Try.prog 13 #[nv 2 493 ⟨#[]⟩ ⟨#[]⟩ a 1 c, .string ⟨#[97]⟩] w fun e w' => e = .returned (.tuple #[.int .i64 2, .bool true]) ∧ Below w.heap.size w w' := by
  have H := find_any 2 493 ⟨#[]⟩ ⟨#[]⟩ a 1 c [ea] ⟨#[97]⟩ w h (by decide)
  unfold Found at H
  rw [show Nd.find [ea] ⟨#[97]⟩ = some 2 from by decide +kernel] at H; exact H
theorem aw_same1 (w : World) (h : Ents a 1 [ea] w) (h' : Ents a' 1 [ea] w) : Calls Try.prog 21 #[nv 2 493 ⟨#[]⟩ ⟨#[]⟩ a 1 c, nv 2 493 ⟨#[]⟩ ⟨#[]⟩ a' 1 c'] w fun e w' => e = .returned (.bool true) ∧ Below w.heap.size w w' := by
  have H := same_any 2 493 ⟨#[]⟩ ⟨#[]⟩ a 1 c [ea] 2 493 ⟨#[]⟩ ⟨#[]⟩ a' 1 c' [ea] w h h' (by decide) (by decide)
  unfold Samed at H
  rw [show sameN 2 493 ⟨#[]⟩ ⟨#[]⟩ [ea] 2 493 ⟨#[]⟩ ⟨#[]⟩ [ea] = true from by decide +kernel] at H; exact H
theorem aw_same2 (w : World) (h : Ents a 0 [] w) (h' : Ents none 0 [] w) : Calls Try.prog 21 #[nv 2 493 ⟨#[]⟩ ⟨#[]⟩ a 0 c, nv 2 493 ⟨#[]⟩ ⟨#[]⟩ none 0 0] w fun e w' => e = .returned (.bool true) ∧ Below w.heap.size w w' := by
  have H := same_any 2 493 ⟨#[]⟩ ⟨#[]⟩ a 0 c [] 2 493 ⟨#[]⟩ ⟨#[]⟩ none 0 0 [] w h h' (by decide) (by decide)
  unfold Samed at H
  rw [show sameN 2 493 ⟨#[]⟩ ⟨#[]⟩ [] 2 493 ⟨#[]⟩ ⟨#[]⟩ [] = true from by decide +kernel] at H; exact H
theorem aw_right1 (w : World) (h : Ents none 0 [] w) : Calls Try.prog 19 #[nv 2 493 ⟨#[]⟩ ⟨#[]⟩ none 0 0] w fun e w' => e = .returned (.bool true) ∧ Below w.heap.size w w' := by
  have H := node_any 2 493 ⟨#[]⟩ ⟨#[]⟩ none 0 0 [] w h (by decide) (fun j hj => by omega)
  unfold Samed at H
  rw [d_right1] at H; exact H
theorem aw_right2 (w : World) : Calls Try.prog 19 #[nv 0 0 ⟨#[]⟩ ⟨#[]⟩ none 0 0] w fun e w' => e = .returned (.bool false) ∧ Below w.heap.size w w' := by
  have H := node_any 0 0 ⟨#[]⟩ ⟨#[]⟩ none 0 0 [] w (ents_nil w) (by decide) (fun j hj => by omega)
  unfold Samed at H
  rw [d_right2] at H; exact H
end
set_option maxHeartbeats 8000000 in
theorem awake_any (w : World) : Calls Try.prog 7 #[] w fun e w' => e = .returned (.bool true) ∧ Below w.heap.size w w' := by
  have HX := Lib.hid (nb_new (k := 2) (m := 493) (d := ⟨#[]⟩) (t := ⟨#[]⟩) (c := 0) (ents_nil w))
  have HB := Lib.hid (below_one w (.cells #[.int .i64 2, .int .i64 493, .string ⟨#[]⟩, .string ⟨#[]⟩, .slice none 0 0] 24))
  have t1 : Less.alike ⟨#[2, 1, 237, 1, 97, 0, 0, 0, 2]⟩ ⟨#[2, 1, 237, 1, 97, 0, 0, 0, 2]⟩ = true := by decide
  go_enter Try.func7, Try.ntmps7
  go_wp2_with fail
  generalize w.alloc (.cells #[.int .i64 2, .int .i64 493, .string ⟨#[]⟩, .string ⟨#[]⟩, .slice none 0 0] 24) = S at HX HB ⊢
  refine (aw_with1 _ HX.out.ents).mono ?_
  rintro e w1 ⟨ay, cy, rfl, hey, hb⟩
  have hbs := hb
  have HX := Lib.hid (HX.out.kept hbs)
  have HB := Lib.hid (HB.out.trans (hbs.mono HB.out.size))
  clear hb hbs
  have HEY := Lib.hid hey
  clear hey
  dsimp only
  go_wp2_with fail
  refine (aw_print _ (nb_new HEY.out).ents).mono ?_
  rintro e w2 ⟨rfl, hb⟩
  have hbs := (below_one w1 (.cells #[.int .i64 2, .int .i64 493, .string ⟨#[]⟩, .string ⟨#[]⟩, .slice ay 1 cy] 24)).trans (hb.mono (below_one w1 (.cells #[.int .i64 2, .int .i64 493, .string ⟨#[]⟩, .string ⟨#[]⟩, .slice ay 1 cy] 24)).size)
  have HX := Lib.hid (HX.out.kept hbs)
  have HY := Lib.hid ((nb_new (k := 2) (m := 493) (d := ⟨#[]⟩) (t := ⟨#[]⟩) (c := cy) HEY.out).kept hb)
  have HB := Lib.hid (HB.out.trans (hbs.mono HB.out.size))
  clear hb hbs
  dsimp only
  go_wp2_with fail
  refine (aw_parse _).mono ?_
  rintro e w3 ⟨az, cz, rfl, hez, hb⟩
  have hbs := hb
  have HX := Lib.hid (HX.out.kept hbs)
  have HY := Lib.hid (HY.out.kept hbs)
  have HB := Lib.hid (HB.out.trans (hbs.mono HB.out.size))
  clear hb hbs
  have HEZ := Lib.hid hez
  clear hez
  dsimp only
  go_wp2_with fail
  refine (aw_find _ (nb_new HEZ.out).ents).mono ?_
  rintro e w4 ⟨rfl, hb⟩
  have hbs := (below_one w3 (.cells #[.int .i64 2, .int .i64 493, .string ⟨#[]⟩, .string ⟨#[]⟩, .slice az 1 cz] 24)).trans (hb.mono (below_one w3 (.cells #[.int .i64 2, .int .i64 493, .string ⟨#[]⟩, .string ⟨#[]⟩, .slice az 1 cz] 24)).size)
  have HX := Lib.hid (HX.out.kept hbs)
  have HY := Lib.hid (HY.out.kept hbs)
  have HZ := Lib.hid ((nb_new (k := 2) (m := 493) (d := ⟨#[]⟩) (t := ⟨#[]⟩) (c := cz) HEZ.out).kept hb)
  have HB := Lib.hid (HB.out.trans (hbs.mono HB.out.size))
  clear hb hbs
  dsimp only
  have hz0 : w4.cell? ⟨w3.heap.size, 0, none⟩ = some (.int .i64 2) := cell_obj HZ.out.box 0
  have hz1 : w4.cell? ⟨w3.heap.size, 1, none⟩ = some (.int .i64 493) := cell_obj HZ.out.box 1
  have hz2 : w4.cell? ⟨w3.heap.size, 2, none⟩ = some (.string ⟨#[]⟩) := cell_obj HZ.out.box 2
  have hz3 : w4.cell? ⟨w3.heap.size, 3, none⟩ = some (.string ⟨#[]⟩) := cell_obj HZ.out.box 3
  have hz4 : w4.cell? ⟨w3.heap.size, 4, none⟩ = some (.slice az 1 cz) := cell_obj HZ.out.box 4
  go_wp2_with fail
  refine (aw_wout _ HZ.out.ents).mono ?_
  rintro e w5 ⟨aq, cq, rfl, heq, hb⟩
  have hbs := hb
  have HX := Lib.hid (HX.out.kept hbs)
  have HY := Lib.hid (HY.out.kept hbs)
  have HZ := Lib.hid (HZ.out.kept hbs)
  have HB := Lib.hid (HB.out.trans (hbs.mono HB.out.size))
  clear hb hbs hz0 hz1 hz2 hz3 hz4
  have HEQ := Lib.hid heq
  clear heq
  dsimp only
  have hyne : w1.heap.size ≠ w5.heap.size := Nat.ne_of_lt (lt_of_obj HY.out.box)
  have hynf : w5.heap.size ≠ w1.heap.size := Ne.symm hyne
  have hy0 : (w5.alloc (.cells #[.int .i64 2, .int .i64 493, .string ⟨#[]⟩, .string ⟨#[]⟩, .slice aq 0 cq] 24)).cell? ⟨w1.heap.size, 0, none⟩ = some (.int .i64 2) := cell_obj (HY.out.kept (below_one w5 _)).box 0
  have hy1 : (w5.alloc (.cells #[.int .i64 2, .int .i64 493, .string ⟨#[]⟩, .string ⟨#[]⟩, .slice aq 0 cq] 24)).cell? ⟨w1.heap.size, 1, none⟩ = some (.int .i64 493) := cell_obj (HY.out.kept (below_one w5 _)).box 1
  have hy2 : (w5.alloc (.cells #[.int .i64 2, .int .i64 493, .string ⟨#[]⟩, .string ⟨#[]⟩, .slice aq 0 cq] 24)).cell? ⟨w1.heap.size, 2, none⟩ = some (.string ⟨#[]⟩) := cell_obj (HY.out.kept (below_one w5 _)).box 2
  have hy3 : (w5.alloc (.cells #[.int .i64 2, .int .i64 493, .string ⟨#[]⟩, .string ⟨#[]⟩, .slice aq 0 cq] 24)).cell? ⟨w1.heap.size, 3, none⟩ = some (.string ⟨#[]⟩) := cell_obj (HY.out.kept (below_one w5 _)).box 3
  have hy4 : (w5.alloc (.cells #[.int .i64 2, .int .i64 493, .string ⟨#[]⟩, .string ⟨#[]⟩, .slice aq 0 cq] 24)).cell? ⟨w1.heap.size, 4, none⟩ = some (.slice ay 1 cy) := cell_obj (HY.out.kept (below_one w5 _)).box 4
  go_wp2_with fail
  refine (aw_with2 _ (HY.out.ents.below (below_one _ _))).mono ?_
  rintro e w6 ⟨an, cn_, rfl, hen, hb⟩
  have hbs := (below_one w5 (.cells #[.int .i64 2, .int .i64 493, .string ⟨#[]⟩, .string ⟨#[]⟩, .slice aq 0 cq] 24)).trans (hb.mono (below_one w5 (.cells #[.int .i64 2, .int .i64 493, .string ⟨#[]⟩, .string ⟨#[]⟩, .slice aq 0 cq] 24)).size)
  have HX := Lib.hid (HX.out.kept hbs)
  have HY := Lib.hid (HY.out.kept hbs)
  have HZ := Lib.hid (HZ.out.kept hbs)
  have HQ := Lib.hid ((nb_new (k := 2) (m := 493) (d := ⟨#[]⟩) (t := ⟨#[]⟩) (c := cq) HEQ.out).kept hb)
  have HB := Lib.hid (HB.out.trans (hbs.mono HB.out.size))
  clear hb hbs hyne hynf hy0 hy1 hy2 hy3 hy4
  have HEN := Lib.hid hen
  clear hen
  dsimp only
  have hyne : w1.heap.size ≠ w6.heap.size := Nat.ne_of_lt (lt_of_obj HY.out.box)
  have hynf : w6.heap.size ≠ w1.heap.size := Ne.symm hyne
  have hy0 : (w6.alloc (.cells #[.int .i64 0, .int .i64 0, .string ⟨#[]⟩, .string ⟨#[]⟩, .slice an 0 cn_] 24)).cell? ⟨w1.heap.size, 0, none⟩ = some (.int .i64 2) := cell_obj (HY.out.kept (below_one w6 _)).box 0
  have hy1 : (w6.alloc (.cells #[.int .i64 0, .int .i64 0, .string ⟨#[]⟩, .string ⟨#[]⟩, .slice an 0 cn_] 24)).cell? ⟨w1.heap.size, 1, none⟩ = some (.int .i64 493) := cell_obj (HY.out.kept (below_one w6 _)).box 1
  have hy2 : (w6.alloc (.cells #[.int .i64 0, .int .i64 0, .string ⟨#[]⟩, .string ⟨#[]⟩, .slice an 0 cn_] 24)).cell? ⟨w1.heap.size, 2, none⟩ = some (.string ⟨#[]⟩) := cell_obj (HY.out.kept (below_one w6 _)).box 2
  have hy3 : (w6.alloc (.cells #[.int .i64 0, .int .i64 0, .string ⟨#[]⟩, .string ⟨#[]⟩, .slice an 0 cn_] 24)).cell? ⟨w1.heap.size, 3, none⟩ = some (.string ⟨#[]⟩) := cell_obj (HY.out.kept (below_one w6 _)).box 3
  have hy4 : (w6.alloc (.cells #[.int .i64 0, .int .i64 0, .string ⟨#[]⟩, .string ⟨#[]⟩, .slice an 0 cn_] 24)).cell? ⟨w1.heap.size, 4, none⟩ = some (.slice ay 1 cy) := cell_obj (HY.out.kept (below_one w6 _)).box 4
  have hzne : w3.heap.size ≠ w6.heap.size := Nat.ne_of_lt (lt_of_obj HZ.out.box)
  have hznf : w6.heap.size ≠ w3.heap.size := Ne.symm hzne
  have hz0 : (w6.alloc (.cells #[.int .i64 0, .int .i64 0, .string ⟨#[]⟩, .string ⟨#[]⟩, .slice an 0 cn_] 24)).cell? ⟨w3.heap.size, 0, none⟩ = some (.int .i64 2) := cell_obj (HZ.out.kept (below_one w6 _)).box 0
  have hz1 : (w6.alloc (.cells #[.int .i64 0, .int .i64 0, .string ⟨#[]⟩, .string ⟨#[]⟩, .slice an 0 cn_] 24)).cell? ⟨w3.heap.size, 1, none⟩ = some (.int .i64 493) := cell_obj (HZ.out.kept (below_one w6 _)).box 1
  have hz2 : (w6.alloc (.cells #[.int .i64 0, .int .i64 0, .string ⟨#[]⟩, .string ⟨#[]⟩, .slice an 0 cn_] 24)).cell? ⟨w3.heap.size, 2, none⟩ = some (.string ⟨#[]⟩) := cell_obj (HZ.out.kept (below_one w6 _)).box 2
  have hz3 : (w6.alloc (.cells #[.int .i64 0, .int .i64 0, .string ⟨#[]⟩, .string ⟨#[]⟩, .slice an 0 cn_] 24)).cell? ⟨w3.heap.size, 3, none⟩ = some (.string ⟨#[]⟩) := cell_obj (HZ.out.kept (below_one w6 _)).box 3
  have hz4 : (w6.alloc (.cells #[.int .i64 0, .int .i64 0, .string ⟨#[]⟩, .string ⟨#[]⟩, .slice an 0 cn_] 24)).cell? ⟨w3.heap.size, 4, none⟩ = some (.slice az 1 cz) := cell_obj (HZ.out.kept (below_one w6 _)).box 4
  go_wp2_with fail
  refine (aw_same1 _ (HY.out.ents.below (below_one _ _)) (HZ.out.ents.below (below_one _ _))).mono ?_
  rintro e w7 ⟨rfl, hb⟩
  have hbs := (below_one w6 (.cells #[.int .i64 0, .int .i64 0, .string ⟨#[]⟩, .string ⟨#[]⟩, .slice an 0 cn_] 24)).trans (hb.mono (below_one w6 (.cells #[.int .i64 0, .int .i64 0, .string ⟨#[]⟩, .string ⟨#[]⟩, .slice an 0 cn_] 24)).size)
  have HX := Lib.hid (HX.out.kept hbs)
  have HY := Lib.hid (HY.out.kept hbs)
  have HZ := Lib.hid (HZ.out.kept hbs)
  have HQ := Lib.hid (HQ.out.kept hbs)
  have HN := Lib.hid ((nb_new (k := 0) (m := 0) (d := ⟨#[]⟩) (t := ⟨#[]⟩) (c := cn_) HEN.out).kept hb)
  have HB := Lib.hid (HB.out.trans (hbs.mono HB.out.size))
  clear hb hbs hyne hynf hy0 hy1 hy2 hy3 hy4 hzne hznf hz0 hz1 hz2 hz3 hz4
  dsimp only
  have hq0 : w7.cell? ⟨w5.heap.size, 0, none⟩ = some (.int .i64 2) := cell_obj HQ.out.box 0
  have hq1 : w7.cell? ⟨w5.heap.size, 1, none⟩ = some (.int .i64 493) := cell_obj HQ.out.box 1
  have hq2 : w7.cell? ⟨w5.heap.size, 2, none⟩ = some (.string ⟨#[]⟩) := cell_obj HQ.out.box 2
  have hq3 : w7.cell? ⟨w5.heap.size, 3, none⟩ = some (.string ⟨#[]⟩) := cell_obj HQ.out.box 3
  have hq4 : w7.cell? ⟨w5.heap.size, 4, none⟩ = some (.slice aq 0 cq) := cell_obj HQ.out.box 4
  have hx0 : w7.cell? ⟨w.heap.size, 0, none⟩ = some (.int .i64 2) := cell_obj HX.out.box 0
  have hx1 : w7.cell? ⟨w.heap.size, 1, none⟩ = some (.int .i64 493) := cell_obj HX.out.box 1
  have hx2 : w7.cell? ⟨w.heap.size, 2, none⟩ = some (.string ⟨#[]⟩) := cell_obj HX.out.box 2
  have hx3 : w7.cell? ⟨w.heap.size, 3, none⟩ = some (.string ⟨#[]⟩) := cell_obj HX.out.box 3
  have hx4 : w7.cell? ⟨w.heap.size, 4, none⟩ = some (.slice none 0 0) := cell_obj HX.out.box 4
  go_wp2_with fail
  refine (aw_same2 _ HQ.out.ents HX.out.ents).mono ?_
  rintro e w8 ⟨rfl, hb⟩
  have hbs := hb
  have HX := Lib.hid (HX.out.kept hbs)
  have HY := Lib.hid (HY.out.kept hbs)
  have HZ := Lib.hid (HZ.out.kept hbs)
  have HQ := Lib.hid (HQ.out.kept hbs)
  have HN := Lib.hid (HN.out.kept hbs)
  have HB := Lib.hid (HB.out.trans (hbs.mono HB.out.size))
  clear hb hbs hq0 hq1 hq2 hq3 hq4 hx0 hx1 hx2 hx3 hx4
  dsimp only
  have hx0 : w8.cell? ⟨w.heap.size, 0, none⟩ = some (.int .i64 2) := cell_obj HX.out.box 0
  have hx1 : w8.cell? ⟨w.heap.size, 1, none⟩ = some (.int .i64 493) := cell_obj HX.out.box 1
  have hx2 : w8.cell? ⟨w.heap.size, 2, none⟩ = some (.string ⟨#[]⟩) := cell_obj HX.out.box 2
  have hx3 : w8.cell? ⟨w.heap.size, 3, none⟩ = some (.string ⟨#[]⟩) := cell_obj HX.out.box 3
  have hx4 : w8.cell? ⟨w.heap.size, 4, none⟩ = some (.slice none 0 0) := cell_obj HX.out.box 4
  go_wp2_with fail
  refine (aw_right1 _ HX.out.ents).mono ?_
  rintro e w9 ⟨rfl, hb⟩
  have hbs := hb
  have HX := Lib.hid (HX.out.kept hbs)
  have HY := Lib.hid (HY.out.kept hbs)
  have HZ := Lib.hid (HZ.out.kept hbs)
  have HQ := Lib.hid (HQ.out.kept hbs)
  have HN := Lib.hid (HN.out.kept hbs)
  have HB := Lib.hid (HB.out.trans (hbs.mono HB.out.size))
  clear hb hbs hx0 hx1 hx2 hx3 hx4
  dsimp only
  go_wp2_with fail
  refine (aw_right2 _).mono ?_
  rintro e w10 ⟨rfl, hb⟩
  have hbs := hb
  have HX := Lib.hid (HX.out.kept hbs)
  have HY := Lib.hid (HY.out.kept hbs)
  have HZ := Lib.hid (HZ.out.kept hbs)
  have HQ := Lib.hid (HQ.out.kept hbs)
  have HN := Lib.hid (HN.out.kept hbs)
  have HB := Lib.hid (HB.out.trans (hbs.mono HB.out.size))
  clear hb hbs
  dsimp only
  go_wp2_with fail
  go_ret
  exact ⟨rfl, HB.out⟩
end Go.Proofs.Yteieehjggiiljaa
