/- NodeEntries, walked. -/
import Derived.Test.YteieehjggiiljaaAskB
namespace Go.Proofs.Yteieehjggiiljaa
set_option maxRecDepth 100000
open Go.RowKit Go.Less
attribute [local go_sem 9000] sem_eql sem_neq
theorem ents_at {b off n : Nat} {l : List En} {W : World} (h : Ents (some ⟨b, off, none⟩) n l W) {j : Nat} (hj : j < n) : W.cell? ⟨b, off + j * 2, none⟩ = some (.string (l.getD j z0).1) ∧ W.cell? ⟨b, off + j * 2 + 1, none⟩ = some (.int .i64 (l.getD j z0).2) := by
  obtain ⟨b', off', e, h0, h1⟩ := h.cell j hj
  obtain ⟨rfl, rfl⟩ : b' = b ∧ off' = off := by cases e; exact ⟨rfl, rfl⟩
  exact ⟨h0, h1⟩
/-- What is known of a node with an entry more. -/
structure Put (k m : Int) (d t : ByteArray) (n : Nat) (l : List En) (nm : ByteArray) (i : Int) (l2 : List En) : Prop where
  put : Nd.withE less Nm.right ⟨k, m, d, t, l⟩ nm i = (⟨k, m, d, t, l2⟩, 0)
  len : l2.length = n + 1
  gives : (Nd.find l2 nm).getD 0 = i
  has : (Nd.find l2 nm).isSome = true
  cut : Nd.withoutE ⟨k, m, d, t, l2⟩ nm = (⟨k, m, d, t, l⟩, 0)
  small : Small d t (n + 1) l2
  right : 1 ≤ i → i ≤ 2147483647 → ndr k m d t l2 = true
  others : ∀ x ∈ l, Nd.find l2 x.1 = some x.2
theorem put_or {k m : Int} {d t : ByteArray} {n : Nat} {l : List En} (nm : ByteArray) (i : Int) (hR : Nd.Right less Nm.right ⟨k, m, d, t, l⟩) (hn : n = l.length) (hm : nm.size ≤ 100) :
    (∃ r, r ≠ 0 ∧ Nd.withE less Nm.right ⟨k, m, d, t, l⟩ nm i = (Nd.none0, r)) ∨ ∃ l2, Put k m d t n l nm i l2 := by
  by_cases h1 : k = 2
  rotate_left
  · exact .inl ⟨10, by decide, by unfold Nd.withE; rw [if_pos h1]⟩
  cases h2 : Nm.right (Nd.bs nm)
  · exact .inl ⟨14, by decide, by unfold Nd.withE; rw [if_neg (by simpa using h1), if_pos h2]⟩
  cases h3 : Nd.find l nm with
  | some q => exact .inl ⟨5, by decide, by unfold Nd.withE; rw [if_neg (by simpa using h1), if_neg (by rw [h2]; simp), if_pos (by rw [h3]; rfl)]⟩
  | none =>
    by_cases h4 : 64 ≤ l.length
    · exact .inl ⟨3, by decide, by unfold Nd.withE; rw [if_neg (by simpa using h1), if_neg (by rw [h2]; simp), if_neg (by rw [h3]; simp), if_pos h4]⟩
    have hput : Nd.withE less Nm.right ⟨k, m, d, t, l⟩ nm i = (⟨k, m, d, t, Nd.ins less l nm i⟩, 0) := by
      unfold Nd.withE; rw [if_neg (by simpa using h1), if_neg (by rw [h2]; simp), if_neg (by rw [h3]; simp), if_neg h4]
    have hf := Nd.find_ins_same (lt := less) (i := i) h3
    have S := small_right hR rfl
    refine .inr ⟨Nd.ins less l nm i, hput, by rw [Nd.len_ins, hn], by rw [hf]; rfl, by rw [hf]; rfl, ?_, ⟨by omega, fun x hx => ?_, S.d5, S.t5⟩, fun h5 h6 => ?_, fun x hx => ?_⟩
    · unfold Nd.withoutE
      rw [if_neg (by simpa using h1), if_neg (by rw [hf]; simp)]
      exact congrArg (fun q => ((⟨k, m, d, t, q⟩ : Nd.Node), (0 : Int))) (Nd.cut_ins h3)
    · rcases Nd.mem_ins.1 hx with rfl | hx
      · exact hm
      · exact S.names x hx
    · exact ndr_right.2 (Nd.right_ins Less.rising hR h1 h2 h3 (by show l.length < 64; omega) h5 h6)
    · rw [Nd.find_ins_other (Nd.find_none.1 h3 x hx)]
      exact Nd.find_at Less.rising ((Nd.rises_iff Less.rising _).1 hR.rise) hx
set_option maxHeartbeats 16000000 in
theorem entries_any (k m : Int) (d t : ByteArray) (a : Option Addr) (n c : Nat) (l : List En) (nm : ByteArray) (i : Int) (w : World) (hE : EntsA a n l w)
    (hd : d.size ≤ 140737488355328) (ht : t.size ≤ 140737488355328) (hm : nm.size ≤ 140737488355328) :
    Calls Try.prog 5 #[nv k m d t a n c, .string nm, .int .i64 i] w fun e w' => e = .returned (.bool true) ∧ Below w.heap.size w w' := by
  have HF := Lib.hid (show Fits n l from ⟨hE.few, hE.size⟩)
  have HX := Lib.hid (nb_new (k := k) (m := m) (d := d) (t := t) (c := c) hE.ents)
  have HB := Lib.hid (below_one w (.cells #[.int .i64 k, .int .i64 m, .string d, .string t, .slice a n c] 24))
  have hmi : (nm.size : Int) ≤ 140737488355328 := by omega
  have hlong : (100 : Int) < (nm.size : Int) ∨ ¬ (100 : Int) < (nm.size : Int) := by omega
  clear hE hm
  go_enter Try.func5, Try.ntmps5
  go_wp2_with fail
  generalize w.alloc (.cells #[.int .i64 k, .int .i64 m, .string d, .string t, .slice a n c] 24) = S at HX HB ⊢
  refine (awake_any _).mono ?_
  rintro e w1 ⟨rfl, hb⟩
  have hbs := hb
  have HX := Lib.hid (HX.out.kept hbs)
  have HB := Lib.hid (HB.out.trans (hbs.mono HB.out.size))
  clear hb hbs
  dsimp only
  have hx0 : w1.cell? ⟨w.heap.size, 0, none⟩ = some (.int .i64 k) := cell_obj HX.out.box 0
  have hx1 : w1.cell? ⟨w.heap.size, 1, none⟩ = some (.int .i64 m) := cell_obj HX.out.box 1
  have hx2 : w1.cell? ⟨w.heap.size, 2, none⟩ = some (.string d) := cell_obj HX.out.box 2
  have hx3 : w1.cell? ⟨w.heap.size, 3, none⟩ = some (.string t) := cell_obj HX.out.box 3
  have hx4 : w1.cell? ⟨w.heap.size, 4, none⟩ = some (.slice a n c) := cell_obj HX.out.box 4
  go_wp2_with fail
  rcases Bool.eq_false_or_eq_true (fewB d t l) with hq | hq
  rotate_left
  · clear hlong
    refine (q_few _ HX.out.ents HF.out.few HF.out.size hd ht hq).mono ?_
    rintro e w99 ⟨rfl, hb⟩
    have HB := Lib.hid (HB.out.trans (hb.mono HB.out.size))
    clear hb
    dsimp only
    go_wp2_with fail
    go_ret
    exact ⟨rfl, HB.out⟩
  have SX := small_of HX.out.ents.count hq
  rcases hlong with h6 | h6
  · have hq2 := hq
    refine (q_few _ HX.out.ents HF.out.few HF.out.size hd ht hq).mono ?_
    rintro e w99 ⟨rfl, hb⟩
    have HB := Lib.hid (HB.out.trans (hb.mono HB.out.size))
    clear hb
    dsimp only
    go_wp2_with fail
    go_ret
    exact ⟨rfl, HB.out⟩
  have hm6 : nm.size ≤ 100 := by omega
  have hm7 : nm.size ≤ 100000 := by omega
  refine (q_few _ HX.out.ents HF.out.few HF.out.size hd ht hq).mono ?_
  rintro e w2 ⟨rfl, hb⟩
  have hbs := hb
  have HX := Lib.hid (HX.out.kept hbs)
  have HB := Lib.hid (HB.out.trans (hbs.mono HB.out.size))
  clear hb hbs hx0 hx1 hx2 hx3 hx4
  dsimp only
  clear hq
  have hx0 : w2.cell? ⟨w.heap.size, 0, none⟩ = some (.int .i64 k) := cell_obj HX.out.box 0
  have hx1 : w2.cell? ⟨w.heap.size, 1, none⟩ = some (.int .i64 m) := cell_obj HX.out.box 1
  have hx2 : w2.cell? ⟨w.heap.size, 2, none⟩ = some (.string d) := cell_obj HX.out.box 2
  have hx3 : w2.cell? ⟨w.heap.size, 3, none⟩ = some (.string t) := cell_obj HX.out.box 3
  have hx4 : w2.cell? ⟨w.heap.size, 4, none⟩ = some (.slice a n c) := cell_obj HX.out.box 4
  go_wp2_with fail
  clear h6
  rcases Bool.eq_false_or_eq_true (ndr k m d t l) with hq | hq
  rotate_left
  · have hq2 := hq
    refine (q_node _ HX.out.ents SX hq).mono ?_
    rintro e w99 ⟨rfl, hb⟩
    have HB := Lib.hid (HB.out.trans (hb.mono HB.out.size))
    clear hb
    dsimp only
    go_wp2_with fail
    go_ret
    exact ⟨rfl, HB.out⟩
  have hright := ndr_right.1 hq
  refine (q_node _ HX.out.ents SX hq).mono ?_
  rintro e w3 ⟨rfl, hb⟩
  have hbs := hb
  have HX := Lib.hid (HX.out.kept hbs)
  have HB := Lib.hid (HB.out.trans (hbs.mono HB.out.size))
  clear hb hbs hx0 hx1 hx2 hx3 hx4
  dsimp only
  clear hq
  have hx0 : w3.cell? ⟨w.heap.size, 0, none⟩ = some (.int .i64 k) := cell_obj HX.out.box 0
  have hx1 : w3.cell? ⟨w.heap.size, 1, none⟩ = some (.int .i64 m) := cell_obj HX.out.box 1
  have hx2 : w3.cell? ⟨w.heap.size, 2, none⟩ = some (.string d) := cell_obj HX.out.box 2
  have hx3 : w3.cell? ⟨w.heap.size, 3, none⟩ = some (.string t) := cell_obj HX.out.box 3
  have hx4 : w3.cell? ⟨w.heap.size, 4, none⟩ = some (.slice a n c) := cell_obj HX.out.box 4
  go_wp2_with fail
  have hcount := HX.out.ents.count
  rcases put_or nm i hright hcount hm6 with ⟨r, hr, hc⟩ | hput
  · clear hcount
    have HC := Lib.hid hc
    clear hc hright
    refine (q_with (k' := 0) (m' := 0) (d' := ⟨#[]⟩) (t' := ⟨#[]⟩) (l' := []) (n' := 0) _ HX.out.ents SX hm7 HC.out rfl).mono ?_
    rintro e w4 ⟨ac, cc, rfl, he, hb⟩
    have hbs := hb
    have HX := Lib.hid (HX.out.kept hbs)
    have HB := Lib.hid (HB.out.trans (hbs.mono HB.out.size))
    clear hb hbs hx0 hx1 hx2 hx3 hx4
    have HEC := Lib.hid he
    clear he
    dsimp only
    go_wp2_with fail
    refine (q_same _ (nb_new HEC.out).ents (ents_nil _) (by decide) (by decide) (sameN_self 0 0 ⟨#[]⟩ ⟨#[]⟩ [])).mono ?_
    rintro e w5 ⟨rfl, hb⟩
    have hbs := (below_one w4 (.cells #[.int .i64 0, .int .i64 0, .string ⟨#[]⟩, .string ⟨#[]⟩, .slice ac 0 cc] 24)).trans (hb.mono (below_one w4 (.cells #[.int .i64 0, .int .i64 0, .string ⟨#[]⟩, .string ⟨#[]⟩, .slice ac 0 cc] 24)).size)
    have HX := Lib.hid (HX.out.kept hbs)
    have HBC := Lib.hid ((nb_new (k := 0) (m := 0) (d := ⟨#[]⟩) (t := ⟨#[]⟩) (c := cc) HEC.out).kept hb)
    have HB := Lib.hid (HB.out.trans (hbs.mono HB.out.size))
    clear hb hbs
    dsimp only
    go_wp2_with fail
    go_ret
    exact ⟨rfl, HB.out⟩
  · have hau := alike_refl
    obtain ⟨l2, hP⟩ := hput
    have HP := Lib.hid hP
    have hn64 : n ≤ 64 := by rw [hcount]; exact hright.len
    have hni : (n : Int) ≤ 64 := by omega
    have HCount := Lib.hid hcount
    clear hP hright hcount
    refine (q_with _ HX.out.ents SX hm7 HP.out.put HP.out.len).mono ?_
    rintro e w4 ⟨ac, cc, rfl, he, hb⟩
    have hbs := hb
    have HX := Lib.hid (HX.out.kept hbs)
    have HB := Lib.hid (HB.out.trans (hbs.mono HB.out.size))
    clear hb hbs hx0 hx1 hx2 hx3 hx4
    have HEC := Lib.hid he
    clear he
    dsimp only
    go_wp2_with fail
    refine (q_find _ (nb_new HEC.out).ents (by omega) HP.out.gives HP.out.has).mono ?_
    rintro e w5 ⟨rfl, hb⟩
    have hbs := (below_one w4 (.cells #[.int .i64 k, .int .i64 m, .string d, .string t, .slice ac (n + 1) cc] 24)).trans (hb.mono (below_one w4 (.cells #[.int .i64 k, .int .i64 m, .string d, .string t, .slice ac (n + 1) cc] 24)).size)
    have HX := Lib.hid (HX.out.kept hbs)
    have HBC := Lib.hid ((nb_new (k := k) (m := m) (d := d) (t := t) (c := cc) HEC.out).kept hb)
    have HB := Lib.hid (HB.out.trans (hbs.mono HB.out.size))
    clear hb hbs
    dsimp only
    have hbc0 : w5.cell? ⟨w4.heap.size, 0, none⟩ = some (.int .i64 k) := cell_obj HBC.out.box 0
    have hbc1 : w5.cell? ⟨w4.heap.size, 1, none⟩ = some (.int .i64 m) := cell_obj HBC.out.box 1
    have hbc2 : w5.cell? ⟨w4.heap.size, 2, none⟩ = some (.string d) := cell_obj HBC.out.box 2
    have hbc3 : w5.cell? ⟨w4.heap.size, 3, none⟩ = some (.string t) := cell_obj HBC.out.box 3
    have hbc4 : w5.cell? ⟨w4.heap.size, 4, none⟩ = some (.slice ac (n + 1) cc) := cell_obj HBC.out.box 4
    go_wp2_with fail
    refine (q_wout _ HBC.out.ents HP.out.small HP.out.cut HX.out.ents.count.symm).mono ?_
    rintro e w6 ⟨az, cz, rfl, he, hb⟩
    have hbs := hb
    have HX := Lib.hid (HX.out.kept hbs)
    have HBC := Lib.hid (HBC.out.kept hbs)
    have HB := Lib.hid (HB.out.trans (hbs.mono HB.out.size))
    clear hb hbs hbc0 hbc1 hbc2 hbc3 hbc4
    have HEZ := Lib.hid he
    clear he
    dsimp only
    have hxne : w.heap.size ≠ w6.heap.size := Nat.ne_of_lt (lt_of_obj HX.out.box)
    have hxnf : w6.heap.size ≠ w.heap.size := Ne.symm hxne
    have hx0 : (w6.alloc (.cells #[.int .i64 k, .int .i64 m, .string d, .string t, .slice az n cz] 24)).cell? ⟨w.heap.size, 0, none⟩ = some (.int .i64 k) := cell_obj (HX.out.kept (below_one w6 _)).box 0
    have hx1 : (w6.alloc (.cells #[.int .i64 k, .int .i64 m, .string d, .string t, .slice az n cz] 24)).cell? ⟨w.heap.size, 1, none⟩ = some (.int .i64 m) := cell_obj (HX.out.kept (below_one w6 _)).box 1
    have hx2 : (w6.alloc (.cells #[.int .i64 k, .int .i64 m, .string d, .string t, .slice az n cz] 24)).cell? ⟨w.heap.size, 2, none⟩ = some (.string d) := cell_obj (HX.out.kept (below_one w6 _)).box 2
    have hx3 : (w6.alloc (.cells #[.int .i64 k, .int .i64 m, .string d, .string t, .slice az n cz] 24)).cell? ⟨w.heap.size, 3, none⟩ = some (.string t) := cell_obj (HX.out.kept (below_one w6 _)).box 3
    have hx4 : (w6.alloc (.cells #[.int .i64 k, .int .i64 m, .string d, .string t, .slice az n cz] 24)).cell? ⟨w.heap.size, 4, none⟩ = some (.slice a n c) := cell_obj (HX.out.kept (below_one w6 _)).box 4
    go_wp2_with fail
    refine (q_same _ (nb_new HEZ.out).ents (HX.out.ents.below (below_one _ _)) SX.n80 SX.n80 (sameN_self k m d t l)).mono ?_
    rintro e w7 ⟨rfl, hb⟩
    have hbs := (below_one w6 (.cells #[.int .i64 k, .int .i64 m, .string d, .string t, .slice az n cz] 24)).trans (hb.mono (below_one w6 (.cells #[.int .i64 k, .int .i64 m, .string d, .string t, .slice az n cz] 24)).size)
    have HX := Lib.hid (HX.out.kept hbs)
    have HBC := Lib.hid (HBC.out.kept hbs)
    have HBZ := Lib.hid ((nb_new (k := k) (m := m) (d := d) (t := t) (c := cz) HEZ.out).kept hb)
    have HB := Lib.hid (HB.out.trans (hbs.mono HB.out.size))
    clear hb hbs hxne hxnf hx0 hx1 hx2 hx3 hx4
    dsimp only
    have hx0 : w7.cell? ⟨w.heap.size, 0, none⟩ = some (.int .i64 k) := cell_obj HX.out.box 0
    have hx1 : w7.cell? ⟨w.heap.size, 1, none⟩ = some (.int .i64 m) := cell_obj HX.out.box 1
    have hx2 : w7.cell? ⟨w.heap.size, 2, none⟩ = some (.string d) := cell_obj HX.out.box 2
    have hx3 : w7.cell? ⟨w.heap.size, 3, none⟩ = some (.string t) := cell_obj HX.out.box 3
    have hx4 : w7.cell? ⟨w.heap.size, 4, none⟩ = some (.slice a n c) := cell_obj HX.out.box 4
    have hbc0 : w7.cell? ⟨w4.heap.size, 0, none⟩ = some (.int .i64 k) := cell_obj HBC.out.box 0
    have hbc1 : w7.cell? ⟨w4.heap.size, 1, none⟩ = some (.int .i64 m) := cell_obj HBC.out.box 1
    have hbc2 : w7.cell? ⟨w4.heap.size, 2, none⟩ = some (.string d) := cell_obj HBC.out.box 2
    have hbc3 : w7.cell? ⟨w4.heap.size, 3, none⟩ = some (.string t) := cell_obj HBC.out.box 3
    have hbc4 : w7.cell? ⟨w4.heap.size, 4, none⟩ = some (.slice ac (n + 1) cc) := cell_obj HBC.out.box 4
    go_wp2_with fail
    obtain ⟨L, hL⟩ : ∃ L : List Bk, L = [⟨w.heap.size, k, m, d, t, a, n, c, l⟩, ⟨w4.heap.size, k, m, d, t, ac, n + 1, cc, l2⟩] := ⟨_, rfl⟩
    have HQ := Lib.hid (show Bks w L w7 by rw [hL]; exact Bks.cons HX.out (Bks.cons HBC.out (Bks.nil HB.out)))
    have NX := Lib.hid (show ∀ W, Bks w L W → Nb w.heap.size k m d t a n c l W from fun W h => h.at_ ⟨w.heap.size, k, m, d, t, a, n, c, l⟩ (hL ▸ List.mem_cons_self))
    have NY := Lib.hid (show ∀ W, Bks w L W → Nb w4.heap.size k m d t ac (n + 1) cc l2 W from fun W h => h.at_ ⟨w4.heap.size, k, m, d, t, ac, n + 1, cc, l2⟩ (hL ▸ List.mem_cons_of_mem _ List.mem_cons_self))
    clear hL hx0 hx1 hx2 hx3 hx4 hbc0 hbc1 hbc2 hbc3 hbc4
    go_wp2_with fail
    go_loopw [13, 14, 15] (fun i _ _ wr => (∃ j : Nat, j ≤ n ∧ i = .int .i64 j) ∧ Bks w L wr) (fun i _ _ _ => n - (intOf i).toNat)
    case atStart => exact ⟨⟨0, Nat.zero_le _, rfl⟩, HQ.out⟩
    case round =>
      obtain ⟨⟨j, hj, rfl⟩, hbk⟩ := hrel
      have HK := Lib.hid hbk
      have x4 : wr.cell? ⟨w.heap.size, 4, none⟩ = some (.slice a n c) := cell_obj (NX.out _ hbk).box 4
      clear hbk HQ
      by_cases hlt : j < n
      · have j0 : (j : Int) < (n : Int) := by omega
        have hj0 : (0 : Int) ≤ (j : Int) := by omega
        obtain ⟨b, off, rfl, _, _⟩ := (NX.out _ HK.out).ents.cell j hlt
        have HCell := Lib.hid (show ∀ W, Bks w L W → W.cell? ⟨b, off + j * 2, none⟩ = some (.string (l.getD j z0).1) ∧ W.cell? ⟨b, off + j * 2 + 1, none⟩ = some (.int .i64 (l.getD j z0).2) from fun W h => ents_at (NX.out W h).ents hlt)
        have HFj := Lib.hid (HP.out.others (l.getD j z0) (by rw [List.getD, List.getElem?_eq_getElem (by have := HCount.out; omega)]; exact List.getElem_mem _))
        generalize l.getD j z0 = x at HCell HFj
        have HFi := Lib.hid (show (Nd.find l2 x.1).getD 0 = x.2 by rw [HFj.out]; rfl)
        have HFb := Lib.hid (show (Nd.find l2 x.1).isSome = true by rw [HFj.out]; rfl)
        have HMK := Lib.hid (show ∀ W, Bks w L W → W.cell? ⟨w.heap.size, 4, none⟩ = some (.slice (some ⟨b, off, none⟩) n c) ∧ W.cell? ⟨b, off + j * 2, none⟩ = some (.string x.1) ∧ W.cell? ⟨w4.heap.size, 0, none⟩ = some (.int .i64 k) ∧ W.cell? ⟨w4.heap.size, 1, none⟩ = some (.int .i64 m) ∧ W.cell? ⟨w4.heap.size, 2, none⟩ = some (.string d) ∧ W.cell? ⟨w4.heap.size, 3, none⟩ = some (.string t) ∧ W.cell? ⟨w4.heap.size, 4, none⟩ = some (.slice ac (n + 1) cc) ∧ Bks w L W from fun W h => ⟨cell_obj (NX.out W h).box 4, (HCell.out W h).1, cell_obj (NY.out W h).box 0, cell_obj (NY.out W h).box 1, cell_obj (NY.out W h).box 2, cell_obj (NY.out W h).box 3, cell_obj (NY.out W h).box 4, h⟩)
        have GB := Lib.hid (show ∀ W, (W.cell? ⟨w.heap.size, 4, none⟩ = some (.slice (some ⟨b, off, none⟩) n c) ∧ W.cell? ⟨b, off + j * 2, none⟩ = some (.string x.1) ∧ W.cell? ⟨w4.heap.size, 0, none⟩ = some (.int .i64 k) ∧ W.cell? ⟨w4.heap.size, 1, none⟩ = some (.int .i64 m) ∧ W.cell? ⟨w4.heap.size, 2, none⟩ = some (.string d) ∧ W.cell? ⟨w4.heap.size, 3, none⟩ = some (.string t) ∧ W.cell? ⟨w4.heap.size, 4, none⟩ = some (.slice ac (n + 1) cc) ∧ Bks w L W) → Bks w L W from fun W h => h.2.2.2.2.2.2.2)
        have HD := Lib.hid (show Bks w L wr.drew from HK.out.kept (Below.refl _ _).drew)
        go_wp2_with fail
        go_region_held3 (fun W => W.cell? ⟨w.heap.size, 4, none⟩ = some (.slice (some ⟨b, off, none⟩) n c) ∧ W.cell? ⟨b, off + j * 2, none⟩ = some (.string x.1) ∧ W.cell? ⟨w4.heap.size, 0, none⟩ = some (.int .i64 k) ∧ W.cell? ⟨w4.heap.size, 1, none⟩ = some (.int .i64 m) ∧ W.cell? ⟨w4.heap.size, 2, none⟩ = some (.string d) ∧ W.cell? ⟨w4.heap.size, 3, none⟩ = some (.string t) ∧ W.cell? ⟨w4.heap.size, 4, none⟩ = some (.slice ac (n + 1) cc) ∧ Bks w L W)
          (first | exact HMK.out _ pA.out | exact HMK.out _ HD.out | assumption)
          (first
            | (go_at_call 13; (with_reducible refine (q_find _ (Nb.ents (NY.out _ (GB.out _ (by assumption)))) (by omega) HFi.out HFb.out).mono ?_); rintro e wA ⟨rfl, hA⟩; have pA := Lib.hid (Bks.kept (GB.out _ (by assumption)) hA); clear hA))
        have xa : wA.cell? ⟨w.heap.size, 4, none⟩ = some (.slice (some ⟨b, off, none⟩) n c) := cell_obj (NX.out _ pA.out).box 4
        have xb : wA.cell? ⟨b, off + j * 2 + 1, none⟩ = some (.int .i64 x.2) := (HCell.out _ pA.out).2
        go_wp2_with fail
        go_roundw
        case rel => exact ⟨⟨j + 1, by omega, by go_num⟩, pA.out⟩
        case measure => simp [intOf]; omega
      · obtain rfl : n = j := by omega
        by_cases hi1 : i < 1
        · go_wp2_with fail
          go_ret
          exact ⟨rfl, HK.out.below⟩
        by_cases hi2 : 2147483647 < i
        · go_wp2_with fail
          go_ret
          exact ⟨rfl, HK.out.below⟩
        have HR := Lib.hid (HP.out.right (by omega) (by omega))
        have y0 : wr.cell? ⟨w4.heap.size, 0, none⟩ = some (.int .i64 k) := cell_obj (NY.out _ HK.out).box 0
        have y1 : wr.cell? ⟨w4.heap.size, 1, none⟩ = some (.int .i64 m) := cell_obj (NY.out _ HK.out).box 1
        have y2 : wr.cell? ⟨w4.heap.size, 2, none⟩ = some (.string d) := cell_obj (NY.out _ HK.out).box 2
        have y3 : wr.cell? ⟨w4.heap.size, 3, none⟩ = some (.string t) := cell_obj (NY.out _ HK.out).box 3
        have y4 : wr.cell? ⟨w4.heap.size, 4, none⟩ = some (.slice ac (n + 1) cc) := cell_obj (NY.out _ HK.out).box 4
        go_wp2_with fail
        refine (q_node _ (NY.out _ HK.out).ents HP.out.small HR.out).mono ?_
        rintro e wz ⟨rfl, hz⟩
        have HZ := Lib.hid (HK.out.below.trans (hz.mono HK.out.below.size))
        clear hz
        dsimp only
        go_wp2_with fail
        go_ret
        exact ⟨rfl, HZ.out⟩
end Go.Proofs.Yteieehjggiiljaa
