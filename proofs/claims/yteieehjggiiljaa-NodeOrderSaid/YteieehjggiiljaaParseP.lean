/- The program's Parse. -/
import Derived.Test.YteieehjggiiljaaRead
namespace Go.Proofs.Yteieehjggiiljaa
set_option maxRecDepth 100000
open Go.RowKit Go.Less
attribute [local go_sem 9000] sem_eql sem_neq sem_lss sem_leq sem_gtr sem_geq
/-- The result's box and the node's, behind a world. -/
theorem pp_two (w w1 : World) (cs : Array Value) (o : Obj) (ho : o = .cells cs 24 (0, 0)) (h : w1.heap[w.heap.size]? = some (.cells zc 24 (0, 0))) : (w1.alloc o).heap[w1.heap.size]? = some (.cells cs 24 (0, 0)) ∧ (w1.alloc o).heap[w.heap.size]? = some (.cells zc 24 (0, 0)) := by
  subst ho
  exact ⟨heap_alloc_new w1 _, ((below_one w1 _).block _ (lt_of_obj h)).trans h⟩
theorem pp_back {p : Nat} {w1 : World} {x0 x1 x2 x3 x4 : Value} (h : w1.heap[p]? = some (.cells #[x0, x1, x2, x3, x4] 24 (0, 0))) (v0 v1 v2 v3 v4 : Value) (o : Obj) :
    ((((((w1.setCell ⟨p, 0, none⟩ v0).setCell ⟨p, 1, none⟩ v1).setCell ⟨p, 2, none⟩ v2).setCell ⟨p, 3, none⟩ v3).setCell ⟨p, 4, none⟩ v4).alloc o).heap[p]? = some (.cells #[v0, v1, v2, v3, v4] 24 (0, 0)) :=
  ((below_one _ o).block _ (lt_of_obj (set5 v0 v1 v2 v3 v4 h))).trans (set5 v0 v1 v2 v3 v4 h)
theorem pp_below {w w1 : World} (h : Below w.heap.size w w1) (v0 v1 v2 v3 v4 : Value) (o : Obj) :
    Below w.heap.size w ((((((w1.setCell ⟨w.heap.size, 0, none⟩ v0).setCell ⟨w.heap.size, 1, none⟩ v1).setCell ⟨w.heap.size, 2, none⟩ v2).setCell ⟨w.heap.size, 3, none⟩ v3).setCell ⟨w.heap.size, 4, none⟩ v4).alloc o) :=
  (below5 h (Nat.le_refl _) v0 v1 v2 v3 v4).alloc (below5 h (Nat.le_refl _) v0 v1 v2 v3 v4).size _
set_option maxHeartbeats 4000000 in
theorem parse_any (s : ByteArray) (w : World) (hs : s.size ≤ 100000) : Calls Try.prog 11 #[.string s] w (Noded (parseR s.data.toList) w) := by
  have HRd := Lib.hid (fun W => read_any s W hs)
  have HB0 := Lib.hid (show ∀ x : Obj, Below w.heap.size w (w.alloc x) from fun x => (Below.refl _ w).alloc (Nat.le_refl _) _)
  go_enter Try.func11, Try.ntmps11
  go_wp2_with fail
  refine (HRd.out _).mono ?_
  rintro e w1 ⟨k, m, d, t, a, n, cp, l, ok, rfl, hb1, hE, hn, hd, ht, hls, hyes, hno⟩
  have HZ1 := Lib.hid ((hb1.block w.heap.size (by simp)).trans (heap_alloc_new w _))
  have HB1 := Lib.hid ((HB0.out _).trans (hb1.mono (HB0.out _).size))
  clear hb1 HRd
  have hr1 := HZ1.out
  have r0 : w1.cell? ⟨w.heap.size, 0, none⟩ = some (.int .i64 0) := cell_obj hr1 0
  have r1 : w1.cell? ⟨w.heap.size, 1, none⟩ = some (.int .i64 0) := cell_obj hr1 1
  have r2 : w1.cell? ⟨w.heap.size, 2, none⟩ = some (.string ⟨#[]⟩) := cell_obj hr1 2
  have r3 : w1.cell? ⟨w.heap.size, 3, none⟩ = some (.string ⟨#[]⟩) := cell_obj hr1 3
  have r4 : w1.cell? ⟨w.heap.size, 4, none⟩ = some (.slice none 0 0) := cell_obj hr1 4
  have q0 := free_obj hr1 0
  have q1 := free_obj hr1 1
  have q2 := free_obj hr1 2
  have q3 := free_obj hr1 3
  have q4 := free_obj hr1 4
  have hwl := lt_of_obj hr1
  have hne : w.heap.size ≠ w1.heap.size := by omega
  have hne2 : w1.heap.size ≠ w.heap.size := by omega
  clear hr1
  cases ok with
  | false =>
    have HR := Lib.hid (hno rfl)
    have HA := Lib.hid (pp_two w w1 #[.int .i64 k, .int .i64 m, .string d, .string t, .slice a n cp] _ rfl HZ1.out)
    clear hyes hno hE hls
    dsimp only
    go_wp2_with fail
    refine bodyPost_ret_by (results_nd rfl _ _ w.heap.size _ _ _ _ _ rfl (pp_back HZ1.out _ _ _ _ _ _)) rfl ⟨none, 0, by rw [HR.out]; rfl, by rw [HR.out]; exact ents_nil _, pp_below HB1.out _ _ _ _ _ _⟩
  | true =>
    have HR := Lib.hid (hyes rfl)
    have HA := Lib.hid (pp_two w w1 #[.int .i64 k, .int .i64 m, .string d, .string t, .slice a n cp] _ rfl HZ1.out)
    have HE2 := Lib.hid (show ∀ W, Below w1.heap.size w1 W → Ents a n l W from fun W hb => hE.below hb)
    have HN := Lib.hid (node_any k m d t a n cp l (w1.alloc (.cells #[.int .i64 k, .int .i64 m, .string d, .string t, .slice a n cp] 24)) (hE.below (below_one w1 _)) (by omega) hls)
    have HOw := Lib.hid (fun W (hb : Below w1.heap.size w1 W) => own_any k m d t a n cp l W (hE.below hb) hn hls hd ht)
    unfold Samed at HN
    have HBA := Lib.hid (show ∀ o : Obj, Below w.heap.size w (w1.alloc o) from fun o => HB1.out.alloc HB1.out.size _)
    clear hyes hno hE hls r0 r1 r2 r3 r4 q0 q1 q2 q3 q4
    cases hrt : ndr k m d t l
    · rw [hrt] at HN
      have HR2 := Lib.hid (show parseR s.data.toList = (Nd.none0, 2) by rw [HR.out, if_neg]; intro h; unfold ndr at hrt; rw [hrt] at h; cases h)
      clear HR hrt
      dsimp only
      go_wp2_with fail
      refine HN.out.mono ?_
      rintro e w2 ⟨rfl, hw2⟩
      have HZ2 := Lib.hid ((hw2.block _ (lt_of_obj HA.out.2)).trans HA.out.2)
      have HB2 := Lib.hid ((HBA.out _).trans (hw2.mono (HBA.out _).size))
      have hr1 := HZ2.out
      have r0 : w2.cell? ⟨w.heap.size, 0, none⟩ = some (.int .i64 0) := cell_obj hr1 0
      have r1 : w2.cell? ⟨w.heap.size, 1, none⟩ = some (.int .i64 0) := cell_obj hr1 1
      have r2 : w2.cell? ⟨w.heap.size, 2, none⟩ = some (.string ⟨#[]⟩) := cell_obj hr1 2
      have r3 : w2.cell? ⟨w.heap.size, 3, none⟩ = some (.string ⟨#[]⟩) := cell_obj hr1 3
      have r4 : w2.cell? ⟨w.heap.size, 4, none⟩ = some (.slice none 0 0) := cell_obj hr1 4
      have q0 := free_obj hr1 0
      have q1 := free_obj hr1 1
      have q2 := free_obj hr1 2
      have q3 := free_obj hr1 3
      have q4 := free_obj hr1 4
      clear hr1 hw2
      dsimp only
      go_wp2_with fail
      refine bodyPost_ret_by (results_nd rfl _ _ w.heap.size _ _ _ _ _ rfl (set5 _ _ _ _ _ HZ2.out)) rfl ⟨none, 0, by rw [HR2.out]; rfl, by rw [HR2.out]; exact ents_nil _, below5 HB2.out (Nat.le_refl _) _ _ _ _ _⟩
    · rw [hrt] at HN
      have HR2 := Lib.hid (show parseR s.data.toList = (⟨k, m, d, t, l⟩, 0) by rw [HR.out, if_pos (show Nd.right less Nm.right _ = true from hrt)])
      clear HR hrt
      dsimp only
      go_wp2_with fail
      refine HN.out.mono ?_
      rintro e w2 ⟨rfl, hw2⟩
      have HZ2 := Lib.hid ((hw2.block _ (lt_of_obj HA.out.2)).trans HA.out.2)
      have HX2 := Lib.hid ((hw2.block _ (lt_of_obj HA.out.1)).trans HA.out.1)
      have HB2 := Lib.hid ((HBA.out _).trans (hw2.mono (HBA.out _).size))
      have HW2 := Lib.hid ((below_one w1 _).trans (hw2.mono (below_one w1 _).size))
      have hx := HX2.out
      have x0 : w2.cell? ⟨w1.heap.size, 0, none⟩ = some (.int .i64 k) := cell_obj hx 0
      have x1 : w2.cell? ⟨w1.heap.size, 1, none⟩ = some (.int .i64 m) := cell_obj hx 1
      have x2 : w2.cell? ⟨w1.heap.size, 2, none⟩ = some (.string d) := cell_obj hx 2
      have x3 : w2.cell? ⟨w1.heap.size, 3, none⟩ = some (.string t) := cell_obj hx 3
      have x4 : w2.cell? ⟨w1.heap.size, 4, none⟩ = some (.slice a n cp) := cell_obj hx 4
      clear hx hw2
      dsimp only
      go_wp2_with fail
      refine (HOw.out _ HW2.out).mono ?_
      rintro e w3 ⟨ao, cp3, rfl, hown, hw3⟩
      have HZ3 := Lib.hid ((hw3.block _ (lt_of_obj HZ2.out)).trans HZ2.out)
      have HB3 := Lib.hid (HB2.out.trans (hw3.mono HB2.out.size))
      have HO3 := Lib.hid hown
      have hlt2 := lt_of_obj HZ2.out
      have hr1 := HZ3.out
      have r0 : w3.cell? ⟨w.heap.size, 0, none⟩ = some (.int .i64 0) := cell_obj hr1 0
      have r1 : w3.cell? ⟨w.heap.size, 1, none⟩ = some (.int .i64 0) := cell_obj hr1 1
      have r2 : w3.cell? ⟨w.heap.size, 2, none⟩ = some (.string ⟨#[]⟩) := cell_obj hr1 2
      have r3 : w3.cell? ⟨w.heap.size, 3, none⟩ = some (.string ⟨#[]⟩) := cell_obj hr1 3
      have r4 : w3.cell? ⟨w.heap.size, 4, none⟩ = some (.slice none 0 0) := cell_obj hr1 4
      have q0 := free_obj hr1 0
      have q1 := free_obj hr1 1
      have q2 := free_obj hr1 2
      have q3 := free_obj hr1 3
      have q4 := free_obj hr1 4
      clear hr1 hw3 hown x0 x1 x2 x3 x4
      dsimp only
      go_wp2_with fail
      refine bodyPost_ret_by (results_nd rfl _ _ w.heap.size _ _ _ _ _ rfl (set5 _ _ _ _ _ HZ3.out)) rfl ⟨ao, cp3, by rw [HR2.out]; rfl, by rw [HR2.out]; exact own_ents (own_set5 HO3.out hlt2 _ _ _ _ _), below5 HB3.out (Nat.le_refl _) _ _ _ _ _⟩
end Go.Proofs.Yteieehjggiiljaa
