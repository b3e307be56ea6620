/- tlv.Feed. -/
import Derived.Test.YtpolpgghdeljbaaMid
namespace Go.Proofs.Ytpolpgghdeljbaa
open Go.RowKit Crc
/-- The rest of the call's frame. -/
structure Us where
  u8 : Value
  u9 : Value
  u10 : Value
  u11 : Value
  u12 : Value
  u13 : Value
  u14 : Value
  u15 : Value
  u16 : Value
  u17 : Value
  u18 : Value
  u19 : Value
  u20 : Value
  u21 : Value
  u22 : Value
  u23 : Value
  u24 : Value
  u25 : Value
  u26 : Value
  u27 : Value
  u28 : Value
  u29 : Value
  u30 : Value
  u31 : Value
  u32 : Value
  u33 : Value
  u34 : Value
  u35 : Value
  u36 : Value
  u37 : Value
  u38 : Value
  u39 : Value
  u40 : Value
  u41 : Value
  u42 : Value
  u43 : Value
  u44 : Value
  u45 : Value
  u46 : Value
  u47 : Value
  u48 : Value
  u49 : Value
  u50 : Value
  u51 : Value
  u52 : Value
  u53 : Value
  u54 : Value
  u55 : Value
  u56 : Value
  u57 : Value
  u58 : Value
  u59 : Value
  u60 : Value
  u61 : Value
  u62 : Value
  u63 : Value
  u64 : Value
  u65 : Value
variable {w : World} {r : Nat} {v : Value} {s : Tlv.S}
set_option maxRecDepth 100000 in
set_option maxHeartbeats 4000000 in
theorem feed_right_any (y : ByteArray) (D : Rd w r v s) (h0 : s.2.2 = 0) (hlen : s.1.length + y.size ≤ 1000000000) : Calls Try.prog 9 #[ptr r, .string y] w (Fed w r v s y) := by
  obtain ⟨wt, n0, er⟩ := s
  dsimp only at h0 hlen
  subst h0
  have hst : Tlv.step (wt, n0, 0) y.data.toList = Tlv.feed n0 (wt ++ y.data.toList) := by unfold Tlv.step; rw [if_neg (by simp)]
  have c3 := D.c3
  have HW := Lib.hid (writeString_any y D (by show wt.length + _ ≤ _; omega))
  have HST := Lib.hid hst
  have hall : (wt ++ y.data.toList).length ≤ 1000000000 := by rw [List.length_append, Array.length_toList]; exact hlen
  have HA := Lib.hid hall
  clear D hst hall hlen
  go_enter Try.func9, Try.ntmps9
  generalize hall : wt ++ y.data.toList = all at HW HST HA
  clear hall
  go_wp2_with fail
  refine scope_jumps2 0 (fun a' wr => ∃ (v' : Value) (n : Int) (l : List UInt8) (rs : List Tlv.R) (ao : Option Addr) (cap : Nat) (u : Us), Mid w r v all n0 wr v' n l rs (.slice ao rs.length cap) ∧ a' = { tmps := #[ptr r, .string y, undef, undef, .slice none 0 0, .int .i64 0, .string (lstr l), .slice ao rs.length cap, u.u8, u.u9, u.u10, u.u11, u.u12, u.u13, u.u14, u.u15, u.u16, u.u17, u.u18, u.u19, u.u20, u.u21, u.u22, u.u23, u.u24, u.u25, u.u26, u.u27, u.u28, u.u29, u.u30, u.u31, u.u32, u.u33, u.u34, u.u35, u.u36, u.u37, u.u38, u.u39, u.u40, u.u41, u.u42, u.u43, u.u44, u.u45, u.u46, u.u47, u.u48, u.u49, u.u50, u.u51, u.u52, u.u53, u.u54, u.u55, u.u56, u.u57, u.u58, u.u59, u.u60, u.u61, u.u62, u.u63, u.u64, u.u65], defers := [] }) (fun a' _ => strSize (a'.tmps.getD 6 undef)) rfl ?_ ?_
  · rintro a' wr ⟨v', n, l, rs, ao, cap, u, M, rfl⟩
    obtain ⟨i0, hi, hz0, hz1, hz2⟩ := info_parts info38
    have hsz : (lstr l).size = l.length := lstr_size l
    have hll : l.length ≤ 1000000000 := Nat.le_trans M.short HA.out
    have hfew : rs.length ≤ 1000000000 := by have := M.few; have := HA.out; omega
    have H18 := takeNext_any (lstr l) M.rd (by omega)
    rw [lstr_data] at H18
    dsimp only at H18
    generalize ht : Tlv.takeNext n l = t at H18
    have H18' := Lib.hid H18
    have HM := Lib.hid M
    have HF := Lib.hid hfew
    have HL := Lib.hid hll
    clear H18 M c3 hfew hll
    by_cases h0 : t.2.2 = 0
    · have he : (Tlv.takeNext n l).2.2 = 0 := by rw [ht]; exact h0
      obtain ⟨hn0, hn1⟩ := next_ok he
      obtain ⟨hm0, hm1⟩ := Tlv.takeNext_size n l he
      rw [ht] at hm0 hm1
      have HE := Lib.hid he
      have hE := tail_eq (lstr l) t.2.1
      rw [hsz, lstr_data] at hE
      have hwr : IntKind.i64.wrap (n + 1) = n + 1 := IntWalk.i64_in _ (by omega)
      have HM0 := Lib.hid hm0
      obtain ⟨x, m, er⟩ := t
      dsimp only at h0 hm0 hm1 hE H18' HM0
      subst h0
      have hm1' : (m : Int) ≤ (l.length : Int) := by omega
      have HTT := Lib.hid ht
      clear he ht hm0 hm1 hn0 hn1 i0 hi hz0 hz1 hz2
      go_wp2_with fail
      refine H18'.out.mono ?_
      rintro e w1 ⟨rfl, hw1⟩
      have M1 := HM.out.below hw1
      have M2 := M1.below ((Below.refl w1.heap.size w1).alloc (Nat.le_refl _) (.cells (rc x) 38))
      have M3 := Lib.hid (M2.below ((Below.refl (w1.alloc (.cells (rc x) 38)).heap.size (w1.alloc (.cells (rc x) 38))).alloc (Nat.le_refl _) (.cells (rc x) 38)))
      have hc8 := (Below.heap_alloc (w1.alloc (.cells (rc x) 38)) (.cells (rc x) 38) w1.heap.size (by simp)).trans (heap_alloc_new w1 (.cells (rc x) 38))
      have hc9 := heap_alloc_new (w1.alloc (.cells (rc x) 38)) (.cells (rc x) 38)
      rw [show (w1.alloc (.cells (rc x) 38)).heap.size = w1.heap.size + 1 by simp] at hc9
      have HC9 := Lib.hid hc9
      clear hw1 M1 M2 H18' HM hc8 hc9
      obtain ⟨i0, hi, hz0, hz1, hz2⟩ := info_parts info38
      dsimp only
      go_wp2_with (at_builtin; (refine wpList_append_lies _ rfl _ _ 27 rfl w.heap.size 38 i0 _ 3 32 Try.underlying27 hi hz0 hz1 hz2 rfl (by omega) (.slice ao rs.length cap) rs.length (rcells rs) (by rfl) M3.out.row ⟨w1.heap.size + 1, 0, none⟩ 1 1 (rc x).toList (by rfl) (by rfl) (World.news_of_block HC9.out) (by simp [Value.oneCell']) (by omega) (by have := HF.out; unfold maxLen; omega) (by have := HF.out; omega) M3.out.le _ rfl ?_); intro g5 cap5 w5 hown5 hgrow5 hat5 hlt5; obtain ⟨M5, hc5, hf5⟩ := M3.out.more HE.out (by rw [HTT.out]; exact hown5) hgrow5; rw [HTT.out] at M5; have HM5 := Lib.hid M5; clear M5 hown5 hgrow5 hat5 hlt5)
      have hlen : rs.length + 1 = (rs ++ [x]).length := by simp
      rw [hlen]
      have HM6 : Hid (Mid w r v all n0 (w5.setCell ⟨r, 2, none⟩ (.int .i64 (n + 1))) v' (n + 1) (l.drop m) (rs ++ [x]) (.slice (some ⟨g5, 0, none⟩) (rs ++ [x]).length cap5)) := by rw [← hlen]; exact HM5
      have HMe := Lib.hid (show (lstr (l.drop m)).size < (lstr l).size by rw [lstr_size, lstr_size, List.length_drop]; have := HM0.out; omega)
      clear hlen HM5 M3
      go_step3
      exact ⟨rfl, ⟨v', n + 1, l.drop m, rs ++ [x], _, cap5, ⟨_, _, _, _, _, _, _, _, _, _, _, _, _, _, _, _, _, _, _, _, _, _, _, _, _, _, _, _, _, _, _, _, _, _, _, _, _, _, _, _, _, _, _, _, _, _, _, _, _, _, _, _, _, _, _, _, _, _⟩, HM6.out, rfl⟩, HMe.out⟩
    · have HTT := Lib.hid ht
      by_cases h4 : t.2.2 = 4
      · have hst : Tlv.step (wt, n0, 0) y.data.toList = (rs, l, n, 0) := by rw [HST.out, HM.out.spec, Tlv.feed_none (by rw [HTT.out]; exact h4)]; simp
        have HS := Lib.hid hst
        obtain ⟨x, m, er⟩ := t
        dsimp only at h0 h4 H18'
        subst h4
        clear ht HTT HST hst i0 hi hz0 hz1 hz2
        go_wp2_with fail
        refine H18'.out.mono ?_
        rintro e w1 ⟨rfl, hw1⟩
        have M1 := HM.out.below hw1
        have M2 := Lib.hid (M1.below ((Below.refl w1.heap.size w1).alloc (Nat.le_refl _) (.cells (rc x) 38)))
        have H19 := Lib.hid (leave_any M2.out.rd l (fun h => M2.out.whole h) (by have := HL.out; omega))
        clear hw1 M1 H18' HM
        dsimp only
        go_wp2_with fail
        refine H19.out.mono ?_
        rintro e w3 ⟨rfl, v3, D3, T3⟩
        have c3 := D3.c3
        have HD := Lib.hid D3
        have HT := Lib.hid T3
        clear D3 T3 H19
        dsimp only
        go_wp2_with fail
        go_quiet (fail)
        go_wp2_with fail
        simp only [Exit.jump]
        go_ret2
        refine ⟨ao, rs.length, cap, v3, by rw [HS.out]; rfl, ?_, by rw [HS.out], ?_, ?_⟩
        · rw [HS.out]
          exact owns_kept M2.out.row fun k hk => HT.out.keep ⟨(M2.out.row.lt k hk).2, fun ho => far M2.out.rd M2.out.row ho hk⟩
        · rw [HS.out]
          exact HD.out.kept fun _ _ => rfl
        · exact (M2.out.turn.trans HT.out).trans (Turn.of_below _ (below_drewN (Below.refl _ _) nq))
      · have hst : Tlv.step (wt, n0, 0) y.data.toList = (rs, [], n, t.2.2) := by rw [HST.out, HM.out.spec, Tlv.feed_wrong (by rw [HTT.out]; exact h0) (by rw [HTT.out]; exact h4), HTT.out]; simp
        have HS := Lib.hid hst
        obtain ⟨x, m, er⟩ := t
        dsimp only at h0 h4 H18' HS
        clear ht HTT HST hst i0 hi hz0 hz1 hz2
        go_wp2_with fail
        refine H18'.out.mono ?_
        rintro e w1 ⟨rfl, hw1⟩
        have M1 := HM.out.below hw1
        have M2 := Lib.hid (M1.below ((Below.refl w1.heap.size w1).alloc (Nat.le_refl _) (.cells (rc x) 38)))
        obtain ⟨p, D2⟩ := M2.out.rd
        have c3 := D2.c3
        have f3 := D2.free 3
        have D4 := D2.write 3 (.int .i64 er) p v' (all, n, er) rfl D2.row D2.pv D2.addr
        have T4 := turn_setCell (w1.alloc (.cells (rc x) 38)) r 3 (.int .i64 er) v' v' fun _ h => .inl h
        have H19 := Lib.hid (leave_any ⟨p, D4⟩ [] (fun h => (List.eq_nil_of_length_eq_zero h.symm).symm) (by simp))
        have HT4 := Lib.hid T4
        clear hw1 M1 H18' HM D2 D4 T4
        dsimp only
        go_wp2_with fail
        refine H19.out.mono ?_
        rintro e w3 ⟨rfl, v3, D3, T3⟩
        have c4 := D3.c3
        have HD := Lib.hid D3
        have HT := Lib.hid (HT4.out.trans T3)
        clear D3 T3 H19 HT4 c3 f3
        dsimp only
        go_wp2_with fail
        go_quiet (fail)
        go_wp2_with fail
        simp only [Exit.jump]
        go_ret2
        refine ⟨ao, rs.length, cap, v3, by rw [HS.out]; rfl, ?_, by rw [HS.out], ?_, ?_⟩
        · rw [HS.out]
          exact owns_kept M2.out.row fun k hk => HT.out.keep ⟨(M2.out.row.lt k hk).2, fun ho => far M2.out.rd M2.out.row ho hk⟩
        · rw [HS.out]
          exact HD.out.kept fun _ _ => rfl
        · exact (M2.out.turn.trans HT.out).trans (Turn.of_below _ (below_drewN (Below.refl _ _) nq))
  · intro hpass
    go_wp2_with fail
    refine HW.out.mono ?_
    rintro e w1 ⟨rfl, v1, D1, T1⟩
    have HT := Lib.hid T1
    clear T1 HW
    dsimp only
    go_wp2_with fail
    refine (string_any D1).mono ?_
    rintro e w2 ⟨rfl, D2, T2⟩
    have HM := Lib.hid (Mid.mk D2 (HT.out.trans T2) (World.ownsRow_nil _ _ _ _) (by simp) ⟨0, rfl⟩ : Mid w r v all n0 w2 v1 n0 all [] (.slice none 0 0))
    clear D1 D2 T2 HT
    dsimp only
    go_wp2_with fail
    go_step3
    rename_i Kf hKf
    exact hKf _ _ (hpass _ _ ⟨v1, n0, all, [], none, 0, ⟨_, _, _, _, _, _, _, _, _, _, _, _, _, _, _, _, _, _, _, _, _, _, _, _, _, _, _, _, _, _, _, _, _, _, _, _, _, _, _, _, _, _, _, _, _, _, _, _, _, _, _, _, _, _, _, _, _, _⟩, HM.out, rfl⟩)
theorem feed_any (y : ByteArray) (D : Rd w r v s) (hlen : s.1.length + y.size ≤ 1000000000) : Calls Try.prog 9 #[ptr r, .string y] w (Fed w r v s y) := by
  by_cases h0 : s.2.2 = 0
  · exact feed_right_any y D h0 hlen
  · exact feed_wrong_any y D h0
end Go.Proofs.Ytpolpgghdeljbaa
