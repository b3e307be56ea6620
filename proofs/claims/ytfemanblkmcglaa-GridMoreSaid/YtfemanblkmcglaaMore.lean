/- GridMore walked. -/
import Derived.Test.YtfemanblkmcglaaAwake
import Derived.Deep.AppendLies
import Derived.Laws.AppendOwnNone
namespace Go.Proofs.Ytfemanblkmcglaa
open Go.RowKit Grid

theorem owns_new (w : World) : (w.alloc (.cells #[] 9)).ownsRow w.heap.size 9 1 (.slice (some ⟨w.heap.size, 0, none⟩) 0 0) 0 [] :=
  ⟨rfl, .inr ⟨w.heap.size, 0, #[], rfl, Nat.le_refl _, heap_alloc_new w _, Nat.le_refl _, Nat.zero_le _, rfl, rfl⟩⟩
theorem strs_news {ad : Addr} {len : Nat} {ss : List ByteArray} {w : World} (h : Strs (some ad) len ss w) : ∀ (j : Nat) u, (ss.map Value.string)[j]? = some u → w.cell? (ad.add j) = some u := by
  intro j u hj
  have hl : j < ss.length := by
    rcases Nat.lt_or_ge j ss.length with h1 | h1
    · exact h1
    · rw [List.getElem?_eq_none (by simpa using h1)] at hj; cases hj
  obtain ⟨b, off, e, hc⟩ := h.cell j (by rw [h.count]; exact hl)
  injection e with e
  subst e
  rw [Go.WideShapes.add_plain, hc]
  rw [List.getElem?_map, List.getElem?_eq_getElem hl] at hj
  simpa [List.getD, List.getElem?_eq_getElem hl] using hj
/-- A row of texts appended to an empty one, at the operation. -/
theorem at_app_texts {ops : Array Oper} {rest : List Oper} {o : Oper} {a : Act} {Q : Exit → Act → World → Prop} {w : World} (hgd : o.guard = none) (s x : Operand)
    (ho : o.op = .call { callee := .builtin .append, args := #[s, x], argTypes := #[22, 22] }) (base : Nat) (v : Value) (hs : a.eval s = v) (hown : w.ownsRow base 9 1 v 0 [])
    (ao : Option Addr) (len cap : Nat) (ss : List ByteArray) (hx : a.eval x = .slice ao len cap) (hS : Strs ao len ss w) (hnil : ao = none → len = 0 ∧ cap = 0) (hlen : len ≤ 1000000) (hbase : base ≤ w.heap.size)
    (h : ∀ ao' cap' w', w'.ownsRow base 9 1 (.slice ao' len cap') len (ss.map Value.string) → w.grownBy w' v.ownBlock → wpList Try.prog ops Q rest (a.put o.dst (.slice ao' len cap')) w') :
    wpList Try.prog ops Q (o :: rest) a w := by
  obtain ⟨i0, hi, hz0, hz1, hz2⟩ := info_parts info9
  cases ao with
  | none =>
    obtain ⟨rfl, rfl⟩ := hnil rfl
    have hss : ss = [] := List.eq_nil_of_length_eq_zero hS.count.symm
    subst hss
    refine wpList_append_own_none hgd s x 22 ho base 9 i0 1 Try.underlying22 hi v 0 [] hs hown hx ?_
    obtain ⟨a', c', rfl⟩ := owns_form hown
    exact h a' c' w hown (World.grownBy.refl _ _)
  | some ad =>
    refine wpList_append_own w hgd s x 22 ho base 9 i0 (.string ⟨#[]⟩) 1 16 Try.underlying22 hi hz0 hz1 hz2 rfl (by decide) v 0 [] hs hown ad len cap (ss.map .string) hx (by rw [List.length_map, ← hS.count, Nat.mul_one]) (strs_news hS) (by intro u hu; obtain ⟨x, _, rfl⟩ := List.mem_map.1 hu; rfl) (by unfold maxLen; omega) (by omega) hbase ?_
    intro v' w' hown' hg _
    obtain ⟨ao', cap', rfl⟩ := owns_form hown'
    rw [Nat.zero_add, List.nil_append] at hown'
    rw [Nat.zero_add]
    exact h ao' cap' w' hown' hg

set_option maxRecDepth 100000 in
set_option maxHeartbeats 8000000 in
theorem more_any (a b : Option Addr) (la ca lb cb : Nat) (sa sb : List ByteArray) (s : ByteArray) (w : World) (hA : Strs a la sa w) (hB : Strs b lb sb w) (hnA : a = none → la = 0 ∧ ca = 0) (hnB : b = none → lb = 0 ∧ cb = 0) (hrA : ∀ s ∈ sa, s.size ≤ 140737488355328) (hrB : ∀ s ∈ sb, s.size ≤ 140737488355328) (hla : la ≤ 140737488355328) (hlb : lb ≤ 140737488355328) (hs : s.size ≤ 140737488355328) :
    Calls Try.prog 7 #[.slice a la ca, .slice b lb cb, .string s] w fun e w' => e = .returned (.bool true) ∧ Below w.heap.size w w' := by
  have HRA := Lib.hid hrA
  have HRB := Lib.hid hrB
  have HLA := Lib.hid hla
  have HLB := Lib.hid hlb
  have HNA := Lib.hid hnA
  have HNB := Lib.hid hnB
  have hsi : (s.size : Int) ≤ 140737488355328 := by omega
  clear hrA hrB hla hlb hnA hnB
  go_enter Try.func7, Try.ntmps7
  go_wp2_with fail
  refine (awake_any _).mono ?_
  rintro e w1 ⟨rfl, hw1⟩
  have HA := Lib.hid (hA.below hw1)
  have HB := Lib.hid (hB.below hw1)
  have HW := Lib.hid hw1
  clear hA hB hw1
  dsimp only
  go_wp2_with fail
  refine (few_any a la ca sa _ HA.out (fun i _ => small_at HRA.out i) HLA.out).mono ?_
  rintro e w2 (⟨rfl, rfl⟩ | ⟨rfl, rfl, h60⟩)
  · dsimp only
    go_wp2_with fail
    go_ret
    exact ⟨rfl, HW.out⟩
  · dsimp only
    go_wp2_with fail
    refine (few_any b lb cb sb _ HB.out (fun i _ => small_at HRB.out i) HLB.out).mono ?_
    rintro e w2 (⟨rfl, rfl⟩ | ⟨rfl, rfl, h61⟩)
    · dsimp only
      go_wp2_with fail
      go_ret
      exact ⟨rfl, HW.out⟩
    · dsimp only
      by_cases h100 : 100 < s.size
      · have h100' : (100 : Int) < (s.size : Int) := by omega
        go_wp2_with fail
        go_ret
        exact ⟨rfl, HW.out⟩
      · have h100' : (s.size : Int) ≤ 100 := by omega
        have hla : (la : Int) ≤ 60 := by omega
        have hlb : (lb : Int) ≤ 60 := by omega
        have HCA := Lib.hid HA.out.count
        have HCB := Lib.hid HB.out.count
        clear h100
        go_wp2_with fail
        refine (path_any a b la ca lb cb sa sb _ HA.out HB.out (by omega) (by omega)).mono ?_
        rintro e w3 ⟨ao, cap, rfl, hP, hw3⟩
        have HA3 := Lib.hid (HA.out.below hw3)
        have HB3 := Lib.hid (HB.out.below hw3)
        have HW3 := Lib.hid (HW.out.trans (hw3.mono HW.out.size))
        have hpl := path_le sa sb
        rw [← HCA.out, ← HCB.out] at hpl
        have HC1 := Lib.hid (path_stays sa sb)
        generalize path sa sb = p at hP hpl HC1 ⊢
        have HP3 := Lib.hid hP
        clear HA HB HW hP hw3
        dsimp only
        have HO4 := Lib.hid (owns_new w3)
        have HK4 := Lib.hid ((Below.refl w3.heap.size w3).alloc (Nat.le_refl _) (.cells #[] 9))
        have HA4 := Lib.hid (HA3.out.below HK4.out)
        go_wp2_with (first
          | (at_builtin; refine at_app_texts rfl _ _ rfl w3.heap.size _ (by rfl) HO4.out a la ca sa (by rfl) HA4.out HNA.out (by omega) HK4.out.size ?_; intro ao5 cap5 w5 hown5 hgrow5; have HK5 := Lib.hid (HK4.out.grown hgrow5 HK4.out.size (fun j hj => (owns_lt HO4.out j hj).1)); have HO6 := Lib.hid (owns_below hown5 ((Below.refl w5.heap.size w5).alloc (Nat.le_refl _) (.cells #[.string s] 9))); have HK6 := Lib.hid (HK5.out.alloc HK5.out.size (.cells #[.string s] 9)); clear hown5 hgrow5)
          | (at_builtin; refine at_app1 rfl _ _ 22 9 Try.underlying22 rfl (.string ⟨#[]⟩) info9 rfl w3.heap.size _ la (sa.map Value.string) (by rfl) HO6.out w5.heap.size (.string s) (by rfl) (by simp) rfl (by omega) HK6.out.size ?_; intro ao7 cap7 w7 hown7 hgrow7; have HK7 := Lib.hid (HK6.out.grown hgrow7 HK6.out.size (fun j hj => (owns_lt HO6.out j hj).1)); have HS7 := Lib.hid (strs_owned (ss := sa ++ [s]) (by rw [List.map_append]; exact hown7)); have HO8 := Lib.hid (owns_new w7); have HK8 := Lib.hid ((Below.refl w7.heap.size w7).alloc (Nat.le_refl _) (.cells #[] 9)); have HB8 := Lib.hid ((HB3.out.below HK7.out).below HK8.out); clear hown7 hgrow7)
          | (at_builtin; refine at_app_texts rfl _ _ rfl w7.heap.size _ (by rfl) HO8.out b lb cb sb (by rfl) HB8.out HNB.out (by omega) HK8.out.size ?_; intro ao9 cap9 w9 hown9 hgrow9; have HK9 := Lib.hid (HK8.out.grown hgrow9 HK8.out.size (fun j hj => (owns_lt HO8.out j hj).1)); have HO10 := Lib.hid (owns_below hown9 ((Below.refl w9.heap.size w9).alloc (Nat.le_refl _) (.cells #[.string s] 9))); have HK10 := Lib.hid (HK9.out.alloc HK9.out.size (.cells #[.string s] 9)); clear hown9 hgrow9)
          | (at_builtin; refine at_app1 rfl _ _ 22 9 Try.underlying22 rfl (.string ⟨#[]⟩) info9 rfl w7.heap.size _ lb (sb.map Value.string) (by rfl) HO10.out w9.heap.size (.string s) (by rfl) (by simp) rfl (by omega) HK10.out.size ?_; intro ao11 cap11 w11 hown11 hgrow11; have HK11 := Lib.hid (HK10.out.grown hgrow11 HK10.out.size (fun j hj => (owns_lt HO10.out j hj).1)); have HS11 := Lib.hid (strs_owned (ss := sb ++ [s]) (by rw [List.map_append]; exact hown11)); clear hown11 hgrow11))
        have HS11a := Lib.hid (HS7.out.below HK11.out)
        have HK := Lib.hid (HK7.out.trans (HK11.out.mono HK7.out.size))
        refine (path_any _ _ (la + 1) cap7 (lb + 1) cap11 (sa ++ [s]) (sb ++ [s]) _ HS11a.out HS11.out (by omega) (by omega)).mono ?_
        rintro e w12 ⟨qo, qc, rfl, hQ, hw12⟩
        have HK12 := Lib.hid (HK.out.trans (hw12.mono HK.out.size))
        have HC2 := Lib.hid ((path_stays (sa ++ [s]) (sb ++ [s])).trans (lcs_both sa sb s))
        have hql := path_le (sa ++ [s]) (sb ++ [s])
        rw [List.length_append, List.length_append, ← HCA.out, ← HCB.out] at hql
        have hql : (path (sa ++ [s]) (sb ++ [s])).length ≤ 200 := by simp only [List.length_cons, List.length_nil] at hql; omega
        generalize path (sa ++ [s]) (sb ++ [s]) = q at hQ HC2 hql ⊢
        have HQ12 := Lib.hid hQ
        have HA12 := Lib.hid (HA3.out.below HK12.out)
        have HB12 := Lib.hid (HB3.out.below HK12.out)
        have HP12 := Lib.hid (HP3.out.below HK12.out)
        have HW12 := Lib.hid (HW3.out.trans (HK12.out.mono HW3.out.size))
        clear HO4 HK4 HA4 HK5 HO6 HK6 HK7 HS7 HO8 HK8 HB8 HK9 HO10 HK10 HK11 HS11 HS11a HK HK12 HA3 HB3 HP3 HW3 hQ hw12
        dsimp only
        have HO4 := Lib.hid (owns_new w12)
        have HK4 := Lib.hid ((Below.refl w12.heap.size w12).alloc (Nat.le_refl _) (.cells #[] 9))
        have HA4 := Lib.hid (HA12.out.below HK4.out)
        go_wp2_with (first
          | (at_builtin; refine at_app_texts rfl _ _ rfl w12.heap.size _ (by rfl) HO4.out a la ca sa (by rfl) HA4.out HNA.out (by omega) HK4.out.size ?_; intro ao5 cap5 w5 hown5 hgrow5; have HK5 := Lib.hid (HK4.out.grown hgrow5 HK4.out.size (fun j hj => (owns_lt HO4.out j hj).1)); have HO6 := Lib.hid (owns_below hown5 ((Below.refl w5.heap.size w5).alloc (Nat.le_refl _) (.cells #[.string s] 9))); have HK6 := Lib.hid (HK5.out.alloc HK5.out.size (.cells #[.string s] 9)); clear hown5 hgrow5)
          | (at_builtin; refine at_app1 rfl _ _ 22 9 Try.underlying22 rfl (.string ⟨#[]⟩) info9 rfl w12.heap.size _ la (sa.map Value.string) (by rfl) HO6.out w5.heap.size (.string s) (by rfl) (by simp) rfl (by omega) HK6.out.size ?_; intro ao7 cap7 w7 hown7 hgrow7; have HK7 := Lib.hid (HK6.out.grown hgrow7 HK6.out.size (fun j hj => (owns_lt HO6.out j hj).1)); have HS7 := Lib.hid (strs_owned (ss := sa ++ [s]) (by rw [List.map_append]; exact hown7)); have HB7 := Lib.hid (HB12.out.below HK7.out); clear hown7 hgrow7))
        refine (path_any _ b (la + 1) cap7 lb cb (sa ++ [s]) sb _ HS7.out HB7.out (by omega) (by omega)).mono ?_
        rintro e w13 ⟨ro, rc, rfl, hR, hw13⟩
        have HK13 := Lib.hid (HK7.out.trans (hw13.mono HK7.out.size))
        have HC3 := Lib.hid (path_stays (sa ++ [s]) sb)
        have hrl := path_le (sa ++ [s]) sb
        rw [List.length_append, ← HCA.out, ← HCB.out] at hrl
        have hrl : (path (sa ++ [s]) sb).length ≤ 200 := by simp only [List.length_cons, List.length_nil] at hrl; omega
        generalize path (sa ++ [s]) sb = r at hR HC3 hrl ⊢
        have HR13 := Lib.hid hR
        have HQ13 := Lib.hid (HQ12.out.below HK13.out)
        have HP13 := Lib.hid (HP12.out.below HK13.out)
        have HW13 := Lib.hid (HW12.out.trans (HK13.out.mono HW12.out.size))
        clear HO4 HK4 HA4 HK5 HO6 HK6 HK7 HS7 HB7 HK13 HA12 HB12 HP12 HW12 HQ12 hR hw13
        dsimp only
        have ho := lcs_one sa sb s
        have hl := lcs_le_left sa sb
        have hr := lcs_le_right sa sb
        rw [← HCA.out] at hl
        rw [← HCB.out] at hr
        have S1 := Lib.hid (same_any ao p.length cap p w13 HP13.out (by omega))
        have S2 := Lib.hid (same_any qo q.length qc q w13 HQ13.out (by omega))
        have S3 := Lib.hid (same_any ro r.length rc r w13 HR13.out (by omega))
        rw [HC1.out] at S1
        rw [HC2.out] at S2
        rw [HC3.out] at S3
        clear HC1 HC2 HC3
        generalize lcs sa sb = L at S1 S2 ho hl hr ⊢
        generalize lcs (sa ++ [s]) sb = M at S3 ho ⊢
        have hL : (L : Int) ≤ 60 := by omega
        have hM : (M : Int) ≤ 61 := by omega
        have hLM : (L : Int) ≤ (M : Int) := by omega
        have hML : (M : Int) ≤ (L : Int) + 1 := by omega
        have hla' : (L : Int) ≤ (la : Int) := by omega
        have hlb' : (L : Int) ≤ (lb : Int) := by omega
        clear ho hl hr
        go_wp2_with (go_at_call 15; first
          | ((with_reducible refine S1.out.mono ?_); rintro e w8 ⟨rfl, rfl⟩)
          | ((with_reducible refine S2.out.mono ?_); rintro e w8 ⟨rfl, rfl⟩)
          | ((with_reducible refine S3.out.mono ?_); rintro e w8 ⟨rfl, rfl⟩))
        go_ret
        exact ⟨rfl, HW13.out⟩
end Go.Proofs.Ytfemanblkmcglaa
