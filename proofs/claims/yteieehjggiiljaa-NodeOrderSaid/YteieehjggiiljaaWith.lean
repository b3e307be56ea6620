/- The program's With: all of it. -/
import Derived.Test.YteieehjggiiljaaWithL
import Derived.Test.YteieehjggiiljaaWithH
namespace Go.Proofs.Yteieehjggiiljaa
set_option maxRecDepth 100000
open Go.RowKit Go.Less
attribute [local go_sem 9000] sem_eql sem_neq sem_lss sem_leq sem_gtr sem_geq
set_option maxHeartbeats 8000000 in
theorem with_any (k m : Int) (d t : ByteArray) (a : Option Addr) (n cap : Nat) (l : List En) (nm : ByteArray) (i : Int) (w : World) (hE : Ents a n l w) (hn : n ≤ 100000) (hs : ∀ j, j < n → (l.getD j z0).1.size ≤ 100000) (hd : d.size ≤ 100000) (ht : t.size ≤ 100000) (hm : nm.size ≤ 100000) :
    Calls Try.prog 15 #[nv k m d t a n cap, .string nm, .int .i64 i] w (Noded (Nd.withE less Nm.right ⟨k, m, d, t, l⟩ nm i) w) := by
  have HNL := Lib.hid hE.count
  have hni : (n : Int) ≤ 100000 := by omega
  by_cases e1 : ¬ k = 2
  · have HR := Lib.hid (show Nd.withE less Nm.right ⟨k, m, d, t, l⟩ nm i = (Nd.none0, 10) by unfold Nd.withE; rw [if_pos e1])
    have HStart := Lib.hid (bw_start w (.int .i64 k) (.int .i64 m) (.string d) (.string t) (.slice a n cap) nm)
    clear hE hs hd ht
    go_enter Try.func15, Try.ntmps15
    go_wp2_with fail
    refine bodyPost_ret_by (results_nd rfl _ _ (w.heap.size + 2) _ _ _ _ _ rfl (HStart.out.br.res)) rfl ⟨none, 0, by rw [HR.out]; rfl, by rw [HR.out]; exact ents_nil _, HStart.out.br.below⟩
  obtain rfl := Decidable.not_not.1 e1
  clear e1
  have HStart := Lib.hid (bw_start w (.int .i64 2) (.int .i64 m) (.string d) (.string t) (.slice a n cap) nm)
  have HNr := Lib.hid (fun W => rightName_any nm W (by omega))
  cases hr : Nm.right nm.data.toList
  · rw [hr] at HNr
    have HR := Lib.hid (withE_name (m := m) (d := d) (t := t) (l := l) (i := i) hr)
    clear hE hs hd ht hr
    go_enter Try.func15, Try.ntmps15
    go_wp2_with fail
    refine (HNr.out _).mono ?_
    rintro e w1 ⟨rfl, hw1⟩
    have HA1 := Lib.hid (HStart.out.kept hw1)
    have HA := Lib.hid (HA1.out.kept (Below.refl _ _).drew)
    clear hw1
    have hx := HA1.out.br.box
    have x0 : w1.cell? ⟨w.heap.size, 0, none⟩ = some (.int .i64 2) := cell_obj hx 0
    have x1 : w1.cell? ⟨w.heap.size, 1, none⟩ = some (.int .i64 m) := cell_obj hx 1
    have x2 : w1.cell? ⟨w.heap.size, 2, none⟩ = some (.string d) := cell_obj hx 2
    have x3 : w1.cell? ⟨w.heap.size, 3, none⟩ = some (.string t) := cell_obj hx 3
    have x4 : w1.cell? ⟨w.heap.size, 4, none⟩ = some (.slice a n cap) := cell_obj hx 4
    have f0 := free_obj hx 0
    have f1 := free_obj hx 1
    have f2 := free_obj hx 2
    have f3 := free_obj hx 3
    have f4 := free_obj hx 4
    have xn : w1.cell? ⟨w.heap.size + 1, 0, none⟩ = some (.string nm) := cell_obj HA1.out.nmc 0
    clear hx
    clear f0 f1 f2 f3 f4
    dsimp only
    have hr := HA1.out.br.res
    have r0 : w1.cell? ⟨w.heap.size + 2, 0, none⟩ = some (.int .i64 0) := cell_obj hr 0
    have r1 : w1.cell? ⟨w.heap.size + 2, 1, none⟩ = some (.int .i64 0) := cell_obj hr 1
    have r2 : w1.cell? ⟨w.heap.size + 2, 2, none⟩ = some (.string ⟨#[]⟩) := cell_obj hr 2
    have r3 : w1.cell? ⟨w.heap.size + 2, 3, none⟩ = some (.string ⟨#[]⟩) := cell_obj hr 3
    have r4 : w1.cell? ⟨w.heap.size + 2, 4, none⟩ = some (.slice none 0 0) := cell_obj hr 4
    have q0 := free_obj hr 0
    have q1 := free_obj hr 1
    have q2 := free_obj hr 2
    have q3 := free_obj hr 3
    have q4 := free_obj hr 4
    clear hr
    go_wp2_with fail
    refine bodyPost_ret_by (results_nd rfl _ _ (w.heap.size + 2) _ _ _ _ _ rfl (Yteieehjggiiljaa.set5 _ _ _ _ _ HA1.out.br.res)) rfl ⟨none, 0, by rw [HR.out]; rfl, by rw [HR.out]; exact ents_nil _, below5 HA1.out.br.below (by omega) _ _ _ _ _⟩
  rw [hr] at HNr
  have HCo := Lib.hid (show ∀ W g g', g' = g → W.cell? ⟨g, 0, none⟩ = some (.string nm) → Below w.heap.size w W → Calls Try.prog 30 #[.slice a n cap, .func (.func 43) #[] #[.pointer (some ⟨g', 0, none⟩)]] W fun e w' => e = .returned (.bool (Nd.find l nm).isSome) ∧ Below W.heap.size W w' from fun W g g' e hg hb => by subst e; exact cof_any a n cap l nm _ W (hE.below hb) (by omega) hg)
  cases hf : (Nd.find l nm).isSome
  case true =>
    rw [hf] at HCo
    have HR := Lib.hid (withE_there (m := m) (d := d) (t := t) (i := i) hr hf)
    clear hE hs hd ht hr hf
    go_enter Try.func15, Try.ntmps15
    go_wp2_with fail
    refine (HNr.out _).mono ?_
    rintro e w1 ⟨rfl, hw1⟩
    have HA1 := Lib.hid (HStart.out.kept hw1)
    have HA := Lib.hid (HA1.out.kept (Below.refl _ _).drew)
    clear hw1
    have hx := HA1.out.br.box
    have x0 : w1.cell? ⟨w.heap.size, 0, none⟩ = some (.int .i64 2) := cell_obj hx 0
    have x1 : w1.cell? ⟨w.heap.size, 1, none⟩ = some (.int .i64 m) := cell_obj hx 1
    have x2 : w1.cell? ⟨w.heap.size, 2, none⟩ = some (.string d) := cell_obj hx 2
    have x3 : w1.cell? ⟨w.heap.size, 3, none⟩ = some (.string t) := cell_obj hx 3
    have x4 : w1.cell? ⟨w.heap.size, 4, none⟩ = some (.slice a n cap) := cell_obj hx 4
    have f0 := free_obj hx 0
    have f1 := free_obj hx 1
    have f2 := free_obj hx 2
    have f3 := free_obj hx 3
    have f4 := free_obj hx 4
    have xn : w1.cell? ⟨w.heap.size + 1, 0, none⟩ = some (.string nm) := cell_obj HA1.out.nmc 0
    clear hx
    clear f0 f1 f2 f3 f4
    dsimp only
    go_wp2_with fail
    go_region_held3 (fun W => W.cell? ⟨w.heap.size, 4, none⟩ = some (.slice a n cap) ∧ W.cell? ⟨w.heap.size + 1, 0, none⟩ = some (.string nm) ∧ BW w #[.int .i64 2, .int .i64 m, .string d, .string t, .slice a n cap] nm W)
      (first | exact HA.out.all | exact pB.out.all | exact pA.out.all | assumption)
      (first
        | (go_at_call 28; (with_reducible refine (named_any nm _).mono ?_); rintro e wA ⟨rfl, hcA, hA⟩; have pA := Lib.hid (BW.kept (getBW (by assumption)) hA); clear hA)
        | (go_at_call 30; (with_reducible refine (HCo.out _ _ _ (by simp) hcA (BR.below (BW.br (getBW (by assumption))))).mono ?_); rintro e wB ⟨rfl, hB⟩; have pB := Lib.hid (BW.kept (getBW (by assumption)) hB); clear hB))
    clear x0 x1 x2 x3 x4 xn
    have hx := pB.out.br.box
    have x0 : wB.cell? ⟨w.heap.size, 0, none⟩ = some (.int .i64 2) := cell_obj hx 0
    have x1 : wB.cell? ⟨w.heap.size, 1, none⟩ = some (.int .i64 m) := cell_obj hx 1
    have x2 : wB.cell? ⟨w.heap.size, 2, none⟩ = some (.string d) := cell_obj hx 2
    have x3 : wB.cell? ⟨w.heap.size, 3, none⟩ = some (.string t) := cell_obj hx 3
    have x4 : wB.cell? ⟨w.heap.size, 4, none⟩ = some (.slice a n cap) := cell_obj hx 4
    have f0 := free_obj hx 0
    have f1 := free_obj hx 1
    have f2 := free_obj hx 2
    have f3 := free_obj hx 3
    have f4 := free_obj hx 4
    have xn : wB.cell? ⟨w.heap.size + 1, 0, none⟩ = some (.string nm) := cell_obj pB.out.nmc 0
    clear hx
    clear f0 f1 f2 f3 f4
    have hr := pB.out.br.res
    have r0 : wB.cell? ⟨w.heap.size + 2, 0, none⟩ = some (.int .i64 0) := cell_obj hr 0
    have r1 : wB.cell? ⟨w.heap.size + 2, 1, none⟩ = some (.int .i64 0) := cell_obj hr 1
    have r2 : wB.cell? ⟨w.heap.size + 2, 2, none⟩ = some (.string ⟨#[]⟩) := cell_obj hr 2
    have r3 : wB.cell? ⟨w.heap.size + 2, 3, none⟩ = some (.string ⟨#[]⟩) := cell_obj hr 3
    have r4 : wB.cell? ⟨w.heap.size + 2, 4, none⟩ = some (.slice none 0 0) := cell_obj hr 4
    have q0 := free_obj hr 0
    have q1 := free_obj hr 1
    have q2 := free_obj hr 2
    have q3 := free_obj hr 3
    have q4 := free_obj hr 4
    clear hr
    go_wp2_with fail
    refine bodyPost_ret_by (results_nd rfl _ _ (w.heap.size + 2) _ _ _ _ _ rfl (Yteieehjggiiljaa.set5 _ _ _ _ _ pB.out.br.res)) rfl ⟨none, 0, by rw [HR.out]; rfl, by rw [HR.out]; exact ents_nil _, below5 pB.out.br.below (by omega) _ _ _ _ _⟩
  rw [hf] at HCo
  by_cases h64 : 64 ≤ l.length
  · have HR := Lib.hid (withE_long (m := m) (d := d) (t := t) (i := i) hr hf h64)
    have h64i : (64 : Int) ≤ (n : Int) := by have := HNL.out; omega
    clear hE hs hd ht hr hf h64
    go_enter Try.func15, Try.ntmps15
    go_wp2_with fail
    refine (HNr.out _).mono ?_
    rintro e w1 ⟨rfl, hw1⟩
    have HA1 := Lib.hid (HStart.out.kept hw1)
    have HA := Lib.hid (HA1.out.kept (Below.refl _ _).drew)
    clear hw1
    have hx := HA1.out.br.box
    have x0 : w1.cell? ⟨w.heap.size, 0, none⟩ = some (.int .i64 2) := cell_obj hx 0
    have x1 : w1.cell? ⟨w.heap.size, 1, none⟩ = some (.int .i64 m) := cell_obj hx 1
    have x2 : w1.cell? ⟨w.heap.size, 2, none⟩ = some (.string d) := cell_obj hx 2
    have x3 : w1.cell? ⟨w.heap.size, 3, none⟩ = some (.string t) := cell_obj hx 3
    have x4 : w1.cell? ⟨w.heap.size, 4, none⟩ = some (.slice a n cap) := cell_obj hx 4
    have f0 := free_obj hx 0
    have f1 := free_obj hx 1
    have f2 := free_obj hx 2
    have f3 := free_obj hx 3
    have f4 := free_obj hx 4
    have xn : w1.cell? ⟨w.heap.size + 1, 0, none⟩ = some (.string nm) := cell_obj HA1.out.nmc 0
    clear hx
    clear f0 f1 f2 f3 f4
    dsimp only
    go_wp2_with fail
    go_region_held3 (fun W => W.cell? ⟨w.heap.size, 4, none⟩ = some (.slice a n cap) ∧ W.cell? ⟨w.heap.size + 1, 0, none⟩ = some (.string nm) ∧ BW w #[.int .i64 2, .int .i64 m, .string d, .string t, .slice a n cap] nm W)
      (first | exact HA.out.all | exact pB.out.all | exact pA.out.all | assumption)
      (first
        | (go_at_call 28; (with_reducible refine (named_any nm _).mono ?_); rintro e wA ⟨rfl, hcA, hA⟩; have pA := Lib.hid (BW.kept (getBW (by assumption)) hA); clear hA)
        | (go_at_call 30; (with_reducible refine (HCo.out _ _ _ (by simp) hcA (BR.below (BW.br (getBW (by assumption))))).mono ?_); rintro e wB ⟨rfl, hB⟩; have pB := Lib.hid (BW.kept (getBW (by assumption)) hB); clear hB))
    clear x0 x1 x2 x3 x4 xn
    have hx := pB.out.br.box
    have x0 : wB.cell? ⟨w.heap.size, 0, none⟩ = some (.int .i64 2) := cell_obj hx 0
    have x1 : wB.cell? ⟨w.heap.size, 1, none⟩ = some (.int .i64 m) := cell_obj hx 1
    have x2 : wB.cell? ⟨w.heap.size, 2, none⟩ = some (.string d) := cell_obj hx 2
    have x3 : wB.cell? ⟨w.heap.size, 3, none⟩ = some (.string t) := cell_obj hx 3
    have x4 : wB.cell? ⟨w.heap.size, 4, none⟩ = some (.slice a n cap) := cell_obj hx 4
    have f0 := free_obj hx 0
    have f1 := free_obj hx 1
    have f2 := free_obj hx 2
    have f3 := free_obj hx 3
    have f4 := free_obj hx 4
    have xn : wB.cell? ⟨w.heap.size + 1, 0, none⟩ = some (.string nm) := cell_obj pB.out.nmc 0
    clear hx
    clear f0 f1 f2 f3 f4
    have hr := pB.out.br.res
    have r0 : wB.cell? ⟨w.heap.size + 2, 0, none⟩ = some (.int .i64 0) := cell_obj hr 0
    have r1 : wB.cell? ⟨w.heap.size + 2, 1, none⟩ = some (.int .i64 0) := cell_obj hr 1
    have r2 : wB.cell? ⟨w.heap.size + 2, 2, none⟩ = some (.string ⟨#[]⟩) := cell_obj hr 2
    have r3 : wB.cell? ⟨w.heap.size + 2, 3, none⟩ = some (.string ⟨#[]⟩) := cell_obj hr 3
    have r4 : wB.cell? ⟨w.heap.size + 2, 4, none⟩ = some (.slice none 0 0) := cell_obj hr 4
    have q0 := free_obj hr 0
    have q1 := free_obj hr 1
    have q2 := free_obj hr 2
    have q3 := free_obj hr 3
    have q4 := free_obj hr 4
    clear hr
    go_wp2_with fail
    refine bodyPost_ret_by (results_nd rfl _ _ (w.heap.size + 2) _ _ _ _ _ rfl (Yteieehjggiiljaa.set5 _ _ _ _ _ pB.out.br.res)) rfl ⟨none, 0, by rw [HR.out]; rfl, by rw [HR.out]; exact ents_nil _, below5 pB.out.br.below (by omega) _ _ _ _ _⟩
  by_cases h : Nd.place (notLs nm) l < l.length
  · exact with_lo m d t a n cap l nm i w hE hn hs hd ht hm hr hf h64 h
  · exact with_hi m d t a n cap l nm i w hE hn hs hd ht hm hr hf h64 h
end Go.Proofs.Yteieehjggiiljaa
