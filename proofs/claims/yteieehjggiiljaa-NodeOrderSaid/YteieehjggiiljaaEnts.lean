/- readEntries. -/
import Derived.Test.YteieehjggiiljaaIno
import Derived.Test.YteieehjggiiljaaIns
import Derived.ScopeJumps
namespace Go.Proofs.Yteieehjggiiljaa
set_option maxRecDepth 100000
open Go.RowKit Go.Less
attribute [local go_sem 9000] sem_eql sem_neq sem_lss sem_leq sem_gtr sem_geq c_of
theorem scope_jumps2 {P : Program} {a : Act} {w : World} {Q : Exit → Act → World → Prop} {c rest : Code} (l : Nat) (J : Act → World → Prop) (μ : Act → World → Nat) (hf : findLabel c l = some (Code.skip.seq rest))
    (pass : ∀ a w, J a w → rest.wp P (Exit.jump l (fun a' w' => J a' w' ∧ μ a' w' < μ a w) Q) a w)
    (first : (∀ a w, J a w → rest.wp P (Exit.jump l J Q) a w) → c.wp P (Exit.jump l J Q) a w) : (Code.scope c).wp P Q a w :=
  wp_scope_jumps l J μ hf (first fun a w hj => Code.wp_mono (fun e a w h => by cases e <;> first | exact h | exact ⟨h.1, h.2.1⟩) (pass a w hj))
    (fun a w hj => wp_seq (wp_skip (pass a w hj)))
/-- What is left of a text. Closed. -/
def suf (s : ByteArray) (p : Nat) : ByteArray := lstr (s.data.toList.drop p)
theorem suf_size (s : ByteArray) (p : Nat) : (suf s p).size = s.size - p := by
  unfold suf
  rw [lstr_size, List.length_drop]; exact congrArg (· - p) Array.length_toList
theorem suf_zero (s : ByteArray) : suf s 0 = s := rfl
theorem suf_data (s : ByteArray) (p : Nat) : (suf s p).data.toList = s.data.toList.drop p := rfl
theorem suf_cut (s : ByteArray) (p a n : Nat) (h : p + a + n ≤ s.size) : (suf s p).extract a (a + n) = lstr ((s.data.toList.drop (p + a)).take n) := by
  rw [cut_text _ _ _ (by rw [suf_size]; omega), suf_data, List.drop_drop]
theorem suf_rest (s : ByteArray) (p a : Nat) (h : p + a ≤ s.size) : (suf s p).extract a (suf s p).size = suf s (p + a) := by
  have e := suf_cut s p a (s.size - p - a) (by omega)
  rw [show a + (s.size - p - a) = (suf s p).size by rw [suf_size]; omega] at e
  rw [e]
  unfold suf
  rw [List.take_of_length_le (by rw [List.length_drop]; have : s.data.toList.length = s.size := Array.length_toList; omega)]
theorem suf_end {s : ByteArray} {p : Nat} (h : p = s.size) : Less.alike (suf s p) ⟨#[]⟩ = true := by
  unfold Less.alike
  refine decide_eq_true (str_empty ?_)
  rw [suf_size]; omega
theorem suf_more {s : ByteArray} {p : Nat} (h : p < s.size) : Less.alike (suf s p) ⟨#[]⟩ = false := by
  unfold Less.alike
  refine decide_eq_false (fun e => ?_)
  have := congrArg ByteArray.size e
  rw [suf_size] at this
  have h0 : (⟨#[]⟩ : ByteArray).size = 0 := rfl
  omega
/-- What readEntries answers. -/
def ReadE (r : List UInt8) (w : World) (e : Ending) (w' : World) : Prop :=
  Below w.heap.size w w' ∧ ((∃ es ao cp, Nd.ents r = some es ∧ es.length ≤ 64 ∧ (∀ x ∈ es, x.1.size ≤ 300) ∧ e = .returned (.tuple #[.slice ao es.length cp, .bool true]) ∧ Own w.heap.size (.slice ao es.length cp) es w') ∨
    ((∀ es, Nd.ents r = some es → 64 < es.length) ∧ e = .returned (.tuple #[.slice none 0 0, .bool false])))
structure Us where
  v1 : Value
  v5 : Value
  v6 : Value
  v7 : Value
  v8 : Value
  v9 : Value
  v10 : Value
  v11 : Value
  v12 : Value
  v13 : Value
  v14 : Value
  v15 : Value
  v16 : Value
  v17 : Value
  v18 : Value
  v19 : Value
  v20 : Value
  v21 : Value
  v22 : Value
  v23 : Value
  v24 : Value
  v25 : Value
  v26 : Value
  v27 : Value
  v28 : Value
  v29 : Value
  v30 : Value
  v31 : Value
  v32 : Value
  v33 : Value
  v34 : Value
  v35 : Value
  v36 : Value
  v37 : Value
  v38 : Value
  v39 : Value
def strLen : Value → Nat
  | .string b => b.size
  | _ => 0
def Jread (s : ByteArray) (w : World) (a' : Act) (wr : World) : Prop :=
  ∃ (p : Nat) (es : List En) (v : Value) (u : Us), p ≤ s.size ∧ Hid (Nd.EAt s.data.toList p es ∧ ∀ x ∈ es, x.1.size ≤ 300) ∧ es.length ≤ 64 ∧ Own w.heap.size v es wr ∧ Below w.heap.size w wr ∧
    a' = { tmps := #[.string (suf s p), u.v1, .slice none 0 0, .bool false, v, u.v5, u.v6, u.v7, u.v8, u.v9, u.v10, u.v11, u.v12, u.v13, u.v14, u.v15, u.v16, u.v17, u.v18, u.v19, u.v20, u.v21, u.v22, u.v23, u.v24, u.v25, u.v26, u.v27, u.v28, u.v29, u.v30, u.v31, u.v32, u.v33, u.v34, u.v35, u.v36, u.v37, u.v38, u.v39], defers := [] }
set_option maxHeartbeats 4000000 in
theorem readEntries_any (s : ByteArray) (w : World) (hs : s.size ≤ 100000) : Calls Try.prog 42 #[.string s] w (ReadE s.data.toList w) := by
  have HL := Lib.hid (show s.data.toList.length = s.size from Array.length_toList)
  go_enter Try.func42, Try.ntmps42
  go_wp2_with fail
  refine scope_jumps2 0 (Jread s w) (fun a' _ => strLen (a'.tmps.getD 0 undef)) rfl ?_ ?_
  · rintro a' wr ⟨p, es, v, u, hps, HE, h64, hown, hb, rfl⟩
    obtain ⟨ao, cp, rfl⟩ := owns_form hown
    have HB := Lib.hid hb
    have HO := Lib.hid hown
    have hel : (es.length : Int) ≤ 64 := by omega
    clear hb hown
    by_cases hlt : p < s.size
    · have hal := suf_more hlt
      have hsz := suf_size s p
      have hT0 : 0 < (suf s p).size := by omega
      have HC := Lib.hid (show (suf s p)[0] = s.data.toList.getD p 0 by rw [b_at (suf s p) hT0, suf_data, List.getD, List.getD, List.getElem?_drop, Nat.add_zero])
      have hq8 := (suf s p)[0].toNat_lt
      have HQ : (s.data.toList.getD p 0).toNat = (suf s p)[0].toNat := by rw [HC.out]
      have HStop := Lib.hid (fun h => HE.out.1.stop (by rw [HL.out]; exact hlt) h)
      have HMore := Lib.hid (fun h => HE.out.1.more (by rw [HL.out]; exact hlt) h)
      have HLong := Lib.hid (fun es' h => HE.out.1.long (es' := es') (by rw [HL.out]; exact hlt) h)
      rw [HQ, HL.out] at HStop HMore
      have HN1 := Lib.hid (fun q (h : p + 1 + q ≤ s.size) => suf_cut s p 1 q h)
      have HN2 := Lib.hid (fun q (h : p + (1 + q) + 4 ≤ s.size) => suf_cut s p (1 + q) 4 h)
      have HN3 := Lib.hid (fun a (h : p + a ≤ s.size) => suf_rest s p a h)
      have i0 : (0 : Int) < ((suf s p).size : Int) := by omega
      have hzd : 0 < (suf s p).data.size := hT0
      have hsl : ((suf s p).size : Int) ≤ 100000 := by omega
      generalize suf s p = T at *
      have hw1 : IntKind.i64.wrap (1 + (T[0].toNat : Int)) = 1 + (T[0].toNat : Int) := IntWalk.i64_in _ (by omega)
      have hw2 : IntKind.i64.wrap (1 + (T[0].toNat : Int) + 4) = 1 + (T[0].toNat : Int) + 4 := IntWalk.i64_in _ (by omega)
      generalize hqe : T[0].toNat = q at *
      clear HC HQ
      by_cases hov : T.size < 1 + q + 4
      · have hovi : (T.size : Int) < 1 + (q : Int) + 4 := by omega
        have HR := Lib.hid (HStop.out (by omega))
        clear hov HMore HStop HLong hsz
        go_wp2_with fail
        simp only [Exit.jump]
        go_ret2
        exact ⟨HB.out, .inr ⟨fun es h => (by rw [HR.out] at h; cases h), rfl⟩⟩
      have hovi : ¬ (T.size : Int) < 1 + (q : Int) + 4 := by omega
      by_cases h64e : es.length = 64
      · have h6i : (es.length : Int) = 64 := by omega
        clear hov HMore HStop hsz
        go_wp2_with fail
        simp only [Exit.jump]
        go_ret2
        exact ⟨HB.out, .inr ⟨fun es' h => (by have := HLong.out es' h; omega), rfl⟩⟩
      · have h6i : ¬ (es.length : Int) = 64 := by omega
        have hm := HMore.out (by omega)
        have e1 := HN1.out q (by omega)
        have e2 := HN2.out q (by omega)
        have e3 := HN3.out (1 + q + 4) (by omega)
        rw [show p + (1 + q) = p + 1 + q by omega] at e2
        have HI := Lib.hid (fun W => ino_any (T.extract (1 + q) (1 + q + 4)) W (by rw [e2, lstr_size, List.length_take, List.length_drop, HL.out]; omega))
        have HV := Lib.hid (show vl (T.extract (1 + q) (1 + q + 4)).data.toList = (Nd.val ((s.data.toList.drop (p + 1 + q)).take 4) : Int) by rw [e2]; rfl)
        have HM := Lib.hid hm
        have H1 := Lib.hid e1
        have H3 := Lib.hid e3
        have hb1 : (0 : Int) ≤ 1 + (q : Int) := by omega
        have hb2 : (1 : Int) ≤ 1 + (q : Int) := by omega
        have hb3 : 1 + (q : Int) ≤ (T.size : Int) := by omega
        have hb4 : 1 + (q : Int) ≤ 1 + (q : Int) + 4 := by omega
        have hb5 : 1 + (q : Int) + 4 ≤ (T.size : Int) := by omega
        have hb6 : (0 : Int) ≤ 1 + (q : Int) + 4 := by omega
        have htn1 : (1 + (q : Int)).toNat = 1 + q := by omega
        have htn2 : (1 + (q : Int) + 4).toNat = 1 + q + 4 := by omega
        generalize vl (T.extract (1 + q) (1 + q + 4)).data.toList = V at HI HV
        generalize hz : T.extract (1 + q) (1 + q + 4) = Z at *
        generalize hy : T.extract 1 (1 + q) = y at *
        generalize hr : T.extract (1 + q + 4) T.size = R at *
        have HO3 := Lib.hid (owned_below HO.out ((Below.refl wr.heap.size wr).drew.trans (below_one wr.drew (oc (y, V)))))
        have HLen := Lib.hid (show es.length ≤ 64 from h64)
        have HZ := Lib.hid (show w.heap.size ≤ (wr.drew.alloc (oc (y, V))).heap.size from Nat.le_trans HB.out.size (below_one wr.drew (oc (y, V))).size)
        have HBd := Lib.hid (show Below w.heap.size w (wr.drew.alloc (oc (y, V))) from (HB.out.drew).alloc HB.out.size _)
        have HSz := Lib.hid hsz
        clear hm e1 e2 e3 HMore HStop HLong HN1 HN2 HN3 hov hsz
        go_wp2_with fail
        go_region_law (first
          | (refine step_ent rfl _ _ rfl w.heap.size _ es (by rfl) HO3.out wr.heap.size (y, V) (by rfl) (heap_alloc_new wr.drew (oc (y, V))) (Nat.le_trans HLen.out (by decide)) HZ.out ?_; intro ao4 cap4 w4 hown4 hgrow4; have HO4 := Lib.hid hown4; have HB4 := Lib.hid (HBd.out.grown hgrow4 HZ.out (fun j hj => owns_lt HO3.out j hj)); clear hown4 hgrow4)
          | (go_simp; (with_reducible refine (HI.out _).mono ?_); rintro e w3 ⟨rfl, rfl⟩))
        all_goals
          go_wp2_with fail
          go_step3
          have hm := HM.out
          rw [show Nd.mk ((s.data.toList.drop (p + 1)).take q) = y from H1.out.symm, ← HV.out] at hm
          have h3 : R = suf s (p + q + 5) := by rw [H3.out]; exact congrArg (suf s) (by omega)
          have hsz := HSz.out
          subst h3
          refine ⟨rfl, ⟨p + q + 5, es ++ [(y, V)], .slice ao4 (es.length + 1) cap4, ⟨u.v1, .int .i64 (1 + (q : Int)), .int .i64 (1 + (q : Int) + 4), .string T, .bool false, u.v9, .string T, .int .u8 (q : Int), .int .i64 (q : Int), .int .i64 (1 + (q : Int)), .int .i64 (1 + (q : Int)), .int .i64 (1 + (q : Int) + 4), .string T, .int .i64 (T.size : Int), .int .i64 (1 + (q : Int) + 4), .bool false, .bool false, .slice ao es.length cp, .int .i64 (es.length : Int), .bool false, .bool false, .slice ao es.length cp, .string T, .int .i64 (1 + (q : Int)), .string y, .string T, .int .i64 (1 + (q : Int)), .int .i64 (1 + (q : Int) + 4), .string Z, .int .i64 V, .agg #[.string y, .int .i64 V], .slice (some ⟨wr.heap.size, 0, none⟩) 1 1, .slice ao4 (es.length + 1) cap4, .string T, .int .i64 (1 + (q : Int) + 4), .string (suf s (p + q + 5))⟩, by omega, ⟨hm, fun x hx => ?_⟩, by rw [List.length_append, List.length_singleton]; omega, by simpa [Own] using HO4.out, HB4.out, rfl⟩, ?_⟩
          · rcases List.mem_append.1 hx with h | h
            · exact HE.out.2 x h
            · rw [List.mem_singleton.1 h]
              show y.size ≤ 300
              rw [H1.out, lstr_size, List.length_take]; omega
          · simp [strLen, suf_size]; omega
    · have hpe : p = s.size := by omega
      have hal := suf_end hpe
      have HR := Lib.hid (HE.out.1.done (by rw [HL.out]; exact hpe))
      generalize suf s p = T at *
      go_wp2_with fail
      simp only [Exit.jump]
      go_ret2
      exact ⟨HB.out, .inl ⟨es, ao, cp, HR.out, h64, HE.out.2, rfl, HO.out⟩⟩
  · intro hpass
    go_wp2_with fail
    go_step3
    rename_i Kf hKf
    exact hKf _ _ (hpass _ _ ⟨0, [], _, ⟨_, _, _, _, _, _, _, _, _, _, _, _, _, _, _, _, _, _, _, _, _, _, _, _, _, _, _, _, _, _, _, _, _, _, _, _⟩, Nat.zero_le _, ⟨Nd.EAt.start _, fun x hx => by cases hx⟩, Nat.zero_le _, own_nil _ _, Below.refl _ _, rfl⟩)
end Go.Proofs.Yteieehjggiiljaa
