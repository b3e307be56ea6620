/- TlvBack walked. -/
import Derived.Test.YtpolpgghdeljbaaBackB
namespace Go.Proofs.Ytpolpgghdeljbaa
open Go.RowKit Crc
attribute [local go_sem 9000] sem_rem255 run_k255 sem_xor8

set_option maxRecDepth 100000 in
set_option maxHeartbeats 16000000 in
theorem back_any (ka : Option Addr) (kl kc : Nat) (K : Nat → UInt8) (ta : Option Addr) (tl tc : Nat) (ss : List ByteArray) (ct at_ : Int) (t : UInt8) (w : World)
    (hK : ∀ i, i < kl → ∃ b off, ka = some ⟨b, off, none⟩ ∧ w.cell? ⟨b, off + i, none⟩ = some (bv (K i))) (hS : Strs ta tl ss w) (hr : ∀ i, i < tl → (ss.getD i ByteArray.empty).size ≤ 140737488355328) (htl : tl ≤ 140737488355328) (hkl : kl ≤ 140737488355328) :
    Calls Try.prog 4 #[.slice ka kl kc, .slice ta tl tc, .int .i64 ct, .int .i64 at_, bv t] w fun e w' => e = .returned (.bool true) ∧ Below w.heap.size w w' := by
  have hkl' : (kl : Int) ≤ 140737488355328 := by omega
  go_enter Try.func4, Try.ntmps4
  go_wp2_with fail
  refine (awake_any _).mono ?_
  rintro e W1 ⟨rfl, hB1⟩
  have hS1 : Strs ta tl ss W1 := hS.below hB1
  dsimp only
  go_wp2_with fail
  refine (few_any ta tl tc ss W1 hS1 hr htl).mono ?_
  rintro e W2 (⟨rfl, rfl⟩ | ⟨rfl, rfl, hl100, hc12⟩)
  · dsimp only
    go_wp2_with fail
    go_ret
    exact ⟨rfl, hB1⟩
  · have hlen' : (tl : Int) ≤ 100 := by omega
    dsimp only
    by_cases h1 : kl < tl
    · have h1' : (kl : Int) < (tl : Int) := by omega
      clear hS1 hc12 hr htl hkl
      go_wp2_with fail
      go_ret
      exact ⟨rfl, hB1⟩
    · have h1' : (tl : Int) ≤ (kl : Int) := by omega
      by_cases h2 : ct < 0
      · clear hS1 hc12 hr htl hkl
        go_wp2_with fail
        go_ret
        exact ⟨rfl, hB1⟩
      · by_cases h3 : at_ < 0
        · clear hS1 hc12 hr htl hkl
          go_wp2_with fail
          go_ret
          exact ⟨rfl, hB1⟩
        · have h2' : 0 ≤ ct := by omega
          have h3' : 0 ≤ at_ := by omega
          have HC12 := Lib.hid hc12
          have HKL := Lib.hid (show tl ≤ kl by omega)
          have HL0 := Lib.hid (Laid.start w W1 K ss hB1)
          clear hS1 hc12 hr htl hkl h1 h2 h3 hB1
          go_wp2_with fail
          go_loopw [11, 12, 13, 14] (fun x al ed i wr => ∃ (k : Nat) (aw : Option Addr) (cw : Nat) (ae : Option Addr) (ce : Nat), k ≤ tl ∧ i = .int .i64 k ∧ al = .string (lstr (Tlv.allBytes (recsOf K ss k))) ∧ x = .slice aw k cw ∧ ed = .slice ae k ce ∧
            Laid w K ss k wr (.slice aw k cw) (.slice ae k ce)) (fun _ _ _ i _ => tl - (intOf i).toNat)
          case atStart => exact ⟨0, none, 0, none, 0, by omega, rfl, rfl, rfl, rfl, HL0.out⟩
          case round =>
            obtain ⟨k, aw, cw, ae, ce, hk, rfl, rfl, rfl, rfl, L⟩ := hrel
            by_cases hlt : k < tl
            · have hkk : k < kl := by have := HKL.out; omega
              obtain ⟨b, off, rfl, hcell⟩ := hS.cell k hlt
              obtain ⟨b2, off2, rfl, hcell2⟩ := hK k hkk
              have hbl := block_lt_of_cell hcell
              have hbl2 := block_lt_of_cell hcell2
              have c1 := (L.below.cell (p := ⟨b, off + k, none⟩) hbl).trans hcell
              have c2 := (L.below.cell (p := ⟨b2, off2 + k, none⟩) hbl2).trans hcell2
              have hk0 : (k : Int) < (tl : Int) := by omega
              have hk1 : (k : Int) < (kl : Int) := by omega
              have hks : k < ss.length := by rw [← hS.count]; exact hlt
              have hq0 := k255_lo (K k)
              have hq1 := k255_hi (K k)
              have hwr : IntKind.i64.wrap (1 + k255 (K k)) = 1 + k255 (K k) := IntWalk.i64_in _ (by omega)
              have hC := cat_take_succ ss k hks
              have hcl : (cat (ss.take k)).length + (ss.getD k ByteArray.empty).size ≤ 12000 := by
                have g1 : (cat (ss.take (k + 1))).length = (cat (ss.take k)).length + (ss.getD k ByteArray.empty).size := by rw [hC, List.length_append, Array.length_toList]; rfl
                have g2 : (cat ss).length = (cat (ss.take (k + 1))).length + (cat (ss.drop (k + 1))).length := by
                  rw [← List.length_append]; unfold cat; rw [← List.flatMap_append, List.take_append_drop]
                have := HC12.out
                omega
              clear hC
              have HP := Lib.hid (recAt_printed (K := K) (ss := ss) k (by omega))
              have HX := Lib.hid (show recAt K ss k = (1 + k255 (K k), (k : Int), (ss.getD k ByteArray.empty).data.toList) from rfl)
              have HC0 := Lib.hid hcell
              have HC2 := Lib.hid hcell2
              have HLK := Lib.hid L
              have HKS := Lib.hid hks
              generalize hy : ss.getD k ByteArray.empty = y at hcell c1 HP HX HC0 hcl
              have HCL := Lib.hid hcl
              have HY := Lib.hid hy
              generalize K k = q at c2 hq0 hq1 hwr HX hcell2 HC2
              clear hcell hcell2 L hks hy hcl
              go_wp2_with fail
              go_region_held3 (fun w' => w'.cell? ⟨b, off + k, none⟩ = some (.string y) ∧ w'.cell? ⟨b2, off2 + k, none⟩ = some (bv q)) (first | exact ⟨c1, c2⟩ | go_keep) (fail)
              have hbox := heap_alloc_new wr (.cells #[.int .i64 (1 + k255 q), .int .i64 (k : Int), .string y] 38)
              have hBa : Below wr.heap.size wr (wr.alloc (.cells #[.int .i64 (1 + k255 q), .int .i64 (k : Int), .string y] 38)).drew := ((Below.refl _ _).alloc (Nat.le_refl _) _).drew
              have HBOX : Hid ((wr.alloc (.cells #[.int .i64 (1 + k255 q), .int .i64 (k : Int), .string y] 38)).drew.heap[wr.heap.size]? = some (.cells #[.int .i64 (1 + k255 q), .int .i64 (k : Int), .string y] 38 (0, 0))) := hbox
              have HL1 := Lib.hid (HLK.out.keep hBa)
              have hcnt := HLK.out.count
              have hAl : (Tlv.allBytes (recsOf K ss k)).length ≤ 13100 := by have := HCL.out; omega
              have H14 : Hid (∀ V, Calls Try.prog 14 #[.agg #[.int .i64 (1 + k255 q), .int .i64 (k : Int), .string y]] V fun e w' => e = .returned (.tuple #[.string (lstr (if y.size ≤ 8192 then (Tlv.bytes (recAt K ss k), 0) else ([], 3) : List UInt8 × Int).1), .int .i64 (if y.size ≤ 8192 then (Tlv.bytes (recAt K ss k), 0) else ([], 3) : List UInt8 × Int).2]) ∧ Below V.heap.size V w') := fun V => by
                have := print_any (recAt K ss k) V (by rw [HX.out]; show y.data.toList.length ≤ _; rw [Array.length_toList]; have := HCL.out; show y.size ≤ _; omega)
                rw [HP.out, HX.out] at this
                rw [HX.out]
                exact this
              have HAL := Lib.hid hAl
              clear hbox hBa hcnt hAl HLK c1 c2
              generalize (wr.alloc (.cells #[.int .i64 (1 + k255 q), .int .i64 (k : Int), .string y] 38)).drew = V at HBOX HL1 ⊢
              have x0 := cell_block HBOX.out 0
              have x1 := cell_block HBOX.out 1
              have x2 := cell_block HBOX.out 2
              change V.cell? ⟨wr.heap.size, 0, none⟩ = some (.int .i64 (1 + k255 q)) at x0
              change V.cell? ⟨wr.heap.size, 1, none⟩ = some (.int .i64 (k : Int)) at x1
              change V.cell? ⟨wr.heap.size, 2, none⟩ = some (.string y) at x2
              by_cases h8 : y.size ≤ 8192
              · rw [if_pos h8] at H14
                dsimp only at H14
                go_wp2_with fail
                refine (H14.out _).mono ?_
                rintro e W5 ⟨rfl, hB5⟩
                have HBOX5 := Lib.hid ((hB5.block _ (lt_of_block HBOX.out)).trans HBOX.out)
                have HL5 := Lib.hid (HL1.out.keep hB5)
                have y0 := cell_block HBOX5.out 0
                have y1 := cell_block HBOX5.out 1
                have y2 := cell_block HBOX5.out 2
                change W5.cell? ⟨wr.heap.size, 0, none⟩ = some (.int .i64 (1 + k255 q)) at y0
                change W5.cell? ⟨wr.heap.size, 1, none⟩ = some (.int .i64 (k : Int)) at y1
                change W5.cell? ⟨wr.heap.size, 2, none⟩ = some (.string y) at y2
                have HA2 := Lib.hid (allBytes_succ (K := K) (ss := ss) k)
                have hBl : (Tlv.bytes (recAt K ss k)).length ≤ 8203 := by rw [Tlv.bytes_len, HX.out]; show y.data.toList.length + 11 ≤ _; rw [Array.length_toList]; show y.size + 11 ≤ _; omega
                have HRC : Hid ((rc (recAt K ss k)).toList = [.int .i64 (1 + k255 q), .int .i64 (k : Int), .string y]) := by rw [HX.out]; exact rfl
                have HBL := Lib.hid hBl
                clear hB5 x0 x1 x2 hBl HL1 H14
                generalize hAA : Tlv.allBytes (recsOf K ss k) = A at HA2 HAL ⊢
                have HAA := Lib.hid hAA
                generalize Tlv.bytes (recAt K ss k) = Bx at HA2 HBL ⊢
                obtain ⟨A2, hA2⟩ : ∃ A2, A2 = A ++ Bx := ⟨_, rfl⟩
                have hszA : (lstr A).size = A.length := lstr_size A
                have hszB : (lstr Bx).size = Bx.length := lstr_size Bx
                have hszA2 : (lstr A2).size = A2.length := lstr_size A2
                have hlim : A.length + Bx.length ≤ 9223372036854775807 := by have h1 := HAL.out; have h2 := HBL.out; omega
                have hcat : lstr A ++ lstr Bx = lstr A2 := by rw [hA2]; exact lstr_cat A Bx
                have HA2' : Hid (Tlv.allBytes (recsOf K ss (k + 1)) = A2) := by rw [hA2]; exact HA2.out
                clear hA2 hAA HA2
                have HLa := Lib.hid (HL5.out.keep ((Below.refl W5.heap.size W5).alloc (Nat.le_refl _) (.cells #[.int .i64 (1 + k255 q), .int .i64 (k : Int), .string y] 38)))
                obtain ⟨i0, hi, hz0, hz1, hz2⟩ := info_parts info38
                obtain ⟨j0, gi, gz0, gz1, gz2⟩ := info_parts info3
                clear h2' h3' hwr hq0 hq1
                dsimp only
                go_wp2_with (first
                  | (at_builtin; (refine wpList_append_lies _ rfl _ _ 27 rfl w.heap.size 38 i0 _ 3 32 Try.underlying27 hi hz0 hz1 hz2 rfl (by omega) (.slice aw k cw) k (rcells (recsOf K ss k)) (by rfl) HLa.out.want ⟨W5.heap.size, 0, none⟩ 1 1 [.int .i64 (1 + k255 q), .int .i64 (k : Int), .string y] (by rfl) (by rfl) (World.news_of_block (heap_alloc_new _ _)) (by simp [Value.oneCell']) (by omega) (by unfold maxLen; omega) (by omega) HLa.out.below.size _ rfl ?_); intro g5 cap5 W6 hown5 hgrow5 hat5 hlt5
                     have HE6 : Hid (W6.ownsRow w.heap.size 3 1 (.slice ae k ce) k (endsOf K ss k)) := owns_kept HLa.out.ends fun j hj => hgrow5.block j (HLa.out.ends.lt j hj).2 (fun e => row_apart HLa.out.want HLa.out.ends e.symm hj)
                     have HE7 := Lib.hid (owns_below HE6.out ((Below.refl W6.heap.size W6).alloc (Nat.le_refl _) (.cells #[.int .i64 (A2.length : Int)] 3)))
                     have HS7 : Hid (w.heap.size ≤ (W6.alloc (.cells #[.int .i64 (A2.length : Int)] 3)).heap.size) := (by have h1 := HLa.out.below.size; have h2 := hgrow5.size; show _ ≤ _; simp; omega)
                     have HOW5 := Lib.hid hown5
                     have HGR5 := Lib.hid hgrow5
                     clear hown5 hgrow5 hat5 hlt5)
                  | (at_builtin; (refine wpList_append_lies _ rfl _ _ 36 rfl w.heap.size 3 j0 _ 1 8 Try.underlying36 gi gz0 gz1 gz2 rfl (by omega) (.slice ae k ce) k (endsOf K ss k) (by rfl) HE7.out ⟨W6.heap.size, 0, none⟩ 1 1 [.int .i64 (A2.length : Int)] (by rfl) (by rfl) (World.news_of_block (heap_alloc_new _ _)) (by simp [Value.oneCell']) (by omega) (by unfold maxLen; omega) (by omega) HS7.out _ rfl ?_); intro g8 cap8 W8 hown8 hgrow8 hat8 hlt8
                     have HL8 := Lib.hid (HLa.out.more (by omega) HKS.out (by rw [HY.out]; exact h8) HGR5.out (by rw [HRC.out]; exact HOW5.out) ((Below.refl W6.heap.size W6).alloc (Nat.le_refl _) (.cells #[.int .i64 (A2.length : Int)] 3)) hgrow8 (by rw [HA2'.out]; exact hown8))
                     clear hown8 hgrow8 hat8 hlt8))
                refine ⟨⟨u10, .slice (some ⟨g5, 0, none⟩) (k + 1) cap5, .string (lstr A2), .slice (some ⟨g8, 0, none⟩) (k + 1) cap8, .int .i64 ((k : Int) + 1), ⟨k + 1, by omega, by go_num, by rw [HA2'.out], _, cap5, rfl, _, cap8, rfl, HL8.out⟩, rfl, rfl, rfl, rfl, rfl⟩, ?_⟩
                simp [intOf]; omega
              · rw [if_neg h8] at H14
                have h8' : (8192 : Int) < (y.size : Int) := by omega
                dsimp only at H14
                go_wp2_with fail
                refine (H14.out _).mono ?_
                rintro e W5 ⟨rfl, hB5⟩
                have c5 := ((HL1.out.keep hB5).below.cell (p := ⟨b, off + k, none⟩) hbl).trans HC0.out
                have HB5 := Lib.hid (HL1.out.keep hB5).below
                clear hB5 x0 x1 x2
                dsimp only
                go_wp2_with fail
                go_ret
                exact ⟨rfl, HB5.out⟩
            · obtain rfl : k = tl := by omega
              have HT := Lib.hid L
              have hxs : (recsOf K ss k).length = k := recsOf_length k
              have HXS := Lib.hid hxs
              have hAl : (Tlv.allBytes (recsOf K ss k)).length ≤ 13100 := by
                have h1 := L.count
                rw [show ss.take k = ss by rw [hS.count, List.take_length]] at h1
                have := HC12.out
                omega
              have HAL := Lib.hid hAl
              have HFA := Lib.hid (Tlv.feed_all _ L.good)
              have HGOOD := Lib.hid L.good
              have HEN := Lib.hid (fun (W : World) (L : Laid w K ss k W (.slice aw k cw) (.slice ae k ce)) (hk : 0 < k) => ends_at L hk)
              have H11 : Hid (∀ W, Recs W aw (recsOf K ss k) → Calls Try.prog 11 #[.slice aw k cw] W fun e w' => ∃ ao' cap', e = .returned (.slice ao' (recsOf K ss k).length cap') ∧ w'.ownsRow W.heap.size 58 3 (.slice ao' (recsOf K ss k).length cap') (recsOf K ss k).length (rcells (recsOf K ss k)) ∧ Below W.heap.size W w') := fun W hW => by
                have := of_any aw cw (recsOf K ss k) W hW (by rw [hxs]; omega)
                rw [hxs] at this ⊢
                exact this
              have HRW : Hid (∀ W, Laid w K ss k W (.slice aw k cw) (.slice ae k ce) → Recs W aw (recsOf K ss k)) := fun W L => recs_of L.want
              have H11n : Hid (∀ n W, n ≤ k → ∀ cap', Recs W aw (recsOf K ss k) → Calls Try.prog 11 #[.slice aw n cap'] W fun e w' => ∃ ao' cap', e = .returned (.slice ao' ((recsOf K ss k).take n).length cap') ∧ w'.ownsRow W.heap.size 58 3 (.slice ao' ((recsOf K ss k).take n).length cap') ((recsOf K ss k).take n).length (rcells ((recsOf K ss k).take n)) ∧ Below W.heap.size W w') := fun n W hn cap' hW => by
                have hl : ((recsOf K ss k).take n).length = n := by rw [List.length_take, hxs]; omega
                have := of_any aw cap' ((recsOf K ss k).take n) W (hW.take n) (by rw [hl]; omega)
                rw [hl] at this ⊢
                exact this
              clear L hAl hxs hk hlt hK hS
              generalize recsOf K ss k = xs at HXS HAL HFA HGOOD HEN H11 HRW H11n ⊢
              go_wp2_with fail
              refine (new_any wr).mono ?_
              rintro e V1 ⟨rfl, D1, hb1, hl1⟩
              dsimp only
              go_wp2_with fail
              refine (feed_fresh_eq (w0 := wr) (Tlv.allBytes xs) (rs := xs) (er := 0) (by rw [HFA.out]) (by rw [HFA.out]) D1 hb1 (Nat.le_refl _) (by have := HAL.out; omega)).mono ?_
              rintro e V2 ⟨ag, cg, rfl, hr2, hb2⟩
              have HT2 := Lib.hid (HT.out.keep hb2)
              have HR2 := Lib.hid hr2
              clear D1 hb1 hl1 hr2 hb2 HT
              dsimp only
              go_wp2_with fail
              refine (of_any ag cg xs _ (recs_of HR2.out) (by rw [HXS.out]; omega)).mono ?_
              rintro e V3 ⟨a3, c3, rfl, hr3, hb3⟩
              have HT3 := Lib.hid (HT2.out.keep hb3)
              have HR3 := Lib.hid hr3
              clear hr3 hb3 HT2 HR2
              dsimp only
              go_wp2_with fail
              refine (H11.out _ (HRW.out _ HT3.out)).mono ?_
              rintro e V4 ⟨a4, c4, rfl, hr4, hb4⟩
              have HT4 := Lib.hid (HT3.out.keep hb4)
              have HR4 := Lib.hid hr4
              have HR3' := Lib.hid (owns_below HR3.out hb4)
              clear hr4 hb4 HT3 HR3
              dsimp only
              go_wp2_with fail
              refine (same_any a3 a4 c3 c4 xs xs _ (recs_of HR3'.out) (recs_of HR4.out) (by rw [HXS.out]; omega) (by rw [HXS.out]; omega)).mono ?_
              rintro e V5 ⟨rfl, hb5⟩
              rw [show sameAll xs xs = true from decide_eq_true rfl]
              have HT5 := Lib.hid (HT4.out.keep hb5)
              clear hb5 HT4 HR4 HR3'
              dsimp only
              by_cases hA0 : Tlv.allBytes xs = []
              · rw [hA0, show lstr [] = ⟨#[]⟩ from rfl]
                go_wp2_with fail
                go_ret
                exact ⟨rfl, HT5.out.below⟩
              · have hne : ((lstr (Tlv.allBytes xs)).toList == (⟨#[]⟩ : ByteArray).toList) = false := str_ne (fun e => hA0 (lstr_inj (e.trans (show (⟨#[]⟩ : ByteArray) = lstr [] from rfl))))
                have hApos : 0 < (Tlv.allBytes xs).length := by
                  rcases Nat.eq_zero_or_pos (Tlv.allBytes xs).length with h | h
                  · exact absurd (List.eq_nil_of_length_eq_zero h) hA0
                  · exact h
                have hk0 : 0 < k := by
                  rcases Nat.eq_zero_or_pos k with h | h
                  · exfalso; apply hA0
                    rw [List.eq_nil_of_length_eq_zero (show xs.length = 0 by rw [HXS.out, h])]; rfl
                  · exact h
                have hszA : (lstr (Tlv.allBytes xs)).size = (Tlv.allBytes xs).length := lstr_size _
                have hAp' : (0 : Int) < ((Tlv.allBytes xs).length : Int) := by omega
                have hc0 : 0 ≤ ct % ((Tlv.allBytes xs).length : Int) := Int.emod_nonneg _ (by omega)
                have hc1 : ct % ((Tlv.allBytes xs).length : Int) < ((Tlv.allBytes xs).length : Int) := Int.emod_lt_of_pos _ hAp'
                obtain ⟨a1, ha1⟩ : ∃ a : Nat, ct % ((Tlv.allBytes xs).length : Int) = (a : Int) := ⟨(ct % ((Tlv.allBytes xs).length : Int)).toNat, by omega⟩
                have ha1l : a1 < (Tlv.allBytes xs).length := by omega
                have hd0 : 0 ≤ at_ % ((Tlv.allBytes xs).length : Int) := Int.emod_nonneg _ (by omega)
                have hd1 : at_ % ((Tlv.allBytes xs).length : Int) < ((Tlv.allBytes xs).length : Int) := Int.emod_lt_of_pos _ hAp'
                obtain ⟨a2, ha2⟩ : ∃ a : Nat, at_ % ((Tlv.allBytes xs).length : Int) = (a : Int) := ⟨(at_ % ((Tlv.allBytes xs).length : Int)).toNat, by omega⟩
                have ha2l : a2 < (Tlv.allBytes xs).length := by omega
                obtain ⟨ge, rfl, hge, hends⟩ := HEN.out V5 HT5.out hk0
                clear hc0 hc1 hd0 hd1 hA0
                have HA1 := Lib.hid ha1l
                have HA2 := Lib.hid ha2l
                have hkint : (k : Int) ≤ 100 := by omega
                clear hne
                have hE0 : (Tlv.allBytes (xs.take 0)).length = 0 := rfl
                have hEk : (Tlv.allBytes (xs.take k)).length = (Tlv.allBytes xs).length := by rw [← HXS.out, List.take_length]
                have HE0 := Lib.hid hE0
                have HEk := Lib.hid hEk
                have HENDS := Lib.hid hends
                have HBE := Lib.hid (fun n => show (Tlv.allBytes (xs.take n)).length ≤ 13100 from Nat.le_trans (by
                  have e : Tlv.allBytes xs = Tlv.allBytes (xs.take n) ++ Tlv.allBytes (xs.drop n) := by rw [← Tlv.allBytes_append, List.take_append_drop]
                  rw [e, List.length_append]; omega) HAL.out)
                clear hE0 hEk hends
                go_wp2_with fail
                all_goals try (go_ret; exact ⟨rfl, HT5.out.below⟩)
                go_loop [21] (fun i => ∃ n : Nat, n ≤ k ∧ i = .int .i64 n ∧ (∀ j, j < n → (Tlv.allBytes (xs.take (j + 1))).length ≤ a1)) (fun i => k - (intOf i).toNat)
                case atStart => exact ⟨0, by omega, rfl, fun j hj => by omega⟩
                case round =>
                  obtain ⟨n, hn, rfl, hlow⟩ := hrel
                  have HLOW := Lib.hid hlow
                  clear hlow
                  by_cases hnk : n < k
                  · have hnk' : (n : Int) < (k : Int) := by omega
                    have hcell := HENDS.out n hnk
                    have HCELL := Lib.hid hcell
                    by_cases hle : (Tlv.allBytes (xs.take (n + 1))).length ≤ a1
                    · have HLE := Lib.hid hle
                      generalize (Tlv.allBytes (xs.take (n + 1))).length = E at hcell hle
                      have hle' : (E : Int) ≤ (a1 : Int) := by omega
                      go_wp2_with fail
                      go_round
                      case rel => exact ⟨n + 1, by omega, by go_num, fun j hj => by
                          rcases Nat.lt_or_ge j n with h | h
                          · exact HLOW.out j h
                          · obtain rfl : j = n := by omega
                            exact HLE.out⟩
                      case measure => simp [intOf]; omega
                    · have HGT := Lib.hid (show a1 < (Tlv.allBytes (xs.take (n + 1))).length by omega)
                      generalize (Tlv.allBytes (xs.take (n + 1))).length = E at hcell hle
                      have hle' : (a1 : Int) < (E : Int) := by omega
                      have HBEG : Hid ((Tlv.allBytes (xs.take n)).length ≤ a1) := by
                        rcases Nat.eq_zero_or_pos n with h | h
                        · rw [h, HE0.out]; exact Nat.zero_le _
                        · have := HLOW.out (n - 1) (by omega)
                          rwa [show n - 1 + 1 = n by omega] at this
                      have HCUT := Lib.hid (Tlv.feed_cut xs HGOOD.out n a1 (by rw [HXS.out]; exact hnk) HBEG.out HGT.out)
                      have HYL : Hid ((xs.take n).length = n) := by rw [List.length_take, HXS.out]; show min n k = n; omega
                      have HFD : Hid (∀ r W', Rd W' r (.slice none 0 0) ([], 0, 0) → Below V5.heap.size V5 W' → V5.heap.size ≤ r → Calls Try.prog 9 #[ptr r, .string ((lstr (Tlv.allBytes xs)).extract 0 a1)] W' fun e w' => ∃ ao cap, e = .returned (.tuple #[.slice ao n cap, .int .i64 0]) ∧ w'.ownsRow V5.heap.size 38 3 (.slice ao n cap) n (rcells (xs.take n)) ∧ Below V5.heap.size V5 w') := fun r W' D hb hr => by
                        rw [head_eq, lstr_data]
                        refine feed_n (w0 := V5) ((Tlv.allBytes xs).take a1) HYL.out HCUT.out.1 HCUT.out.2 D hb hr ?_
                        rw [List.length_take]; have := HAL.out; omega
                      have HOF := Lib.hid (of_n (xs.take n) n HYL.out (by omega))
                      have HSM := Lib.hid (same_n (xs.take n) n HYL.out (by omega))
                      obtain ⟨ys, hys⟩ : ∃ ys, ys = xs.take n := ⟨_, rfl⟩
                      rw [← hys] at HFD HOF HSM
                      have HRY := Lib.hid (fun W (L : Laid w K ss k W (.slice aw k cw) (.slice (some ⟨ge, 0, none⟩) k ce)) => show Recs W aw ys by rw [hys]; exact (HRW.out W L).take n)
                      have ha1' : (a1 : Int) ≤ ((Tlv.allBytes xs).length : Int) := by omega
                      have ha10 : (0 : Int) ≤ (a1 : Int) := by omega
                      clear HCELL
                      go_wp2_with fail
                      go_region_held3 (fun _ => True) (trivial) (first
                        | (go_at_call 8; (with_reducible refine (new_any _).mono ?_); rintro e w6 ⟨rfl, D6, hb6, hl6⟩; have hC6 := HFD.out V5.heap.size _ D6 ((Below.refl V5.heap.size V5).drew.trans hb6) (Nat.le_refl _))
                        | (go_at_call 9; (with_reducible refine hC6.mono ?_); rintro e w7 ⟨ao7, cp7, rfl, hr7, hb7⟩))
                      have HT7 := Lib.hid (HT5.out.keep hb7)
                      have R7 : Two ao7 aw ys w7.drew := Two.drew ⟨recs_of hr7, HRY.out w7 HT7.out⟩
                      have hn0 : (0 : Int) ≤ (n : Int) := by omega
                      have hncw : (n : Int) ≤ (cw : Int) := by
                        have := cap_ge HT5.out.want
                        omega
                      clear hC6 D6 hb6 hl6 HFD hcell hr7 hb7 ha1' ha10
                      go_wp2_with fail
                      go_region_held3 (Two ao7 aw ys) (first | exact R7 | exact R7.below hba | exact R7.below hbb | exact (R7.below hba).below hbb | exact (R7.below hbb).below hba | exact ((R7.below hba).below hbb).below hbc | exact ((R7.below hbb).below hba).below hbc) (first
                        | (go_at_call 11; (with_reducible refine (HOF.out _ ao7 _ (Two.left (by assumption))).mono ?_); rintro e wa ⟨aa, ca, rfl, hra, hba⟩)
                        | (go_at_call 11; (with_reducible refine (HOF.out _ aw _ (Two.right (by assumption))).mono ?_); rintro e wb ⟨ab, cb, rfl, hrb, hbb⟩)
                        | (go_at_call 10; (with_reducible refine (HSM.out _ aa ab _ _ ((recs_of hra).below hbb) (recs_of hrb)).mono ?_); rintro e wc ⟨rfl, hbc⟩)
                        | (go_at_call 10; (with_reducible refine (HSM.out _ aa ab _ _ (recs_of hra) ((recs_of hrb).below hba)).mono ?_); rintro e wc ⟨rfl, hbc⟩))
                      have HT8 : Hid (Laid w K ss k wc (.slice aw k cw) (.slice (some ⟨ge, 0, none⟩) k ce)) := by
                        first
                        | exact HT7.out.keep ((((Below.refl w7.heap.size w7).drew.trans hba).trans (hbb.mono hba.size)).trans (hbc.mono (Nat.le_trans hba.size hbb.size)))
                        | exact HT7.out.keep ((((Below.refl w7.heap.size w7).drew.trans hbb).trans (hba.mono hbb.size)).trans (hbc.mono (Nat.le_trans hbb.size hba.size)))
                      clear hra hba hrb hbb hbc R7 HT7
                      by_cases ht0 : t = 0
                      · have ht0' : (t.toNat : Int) = 0 := by rw [ht0]; rfl
                        go_wp2_with fail
                        go_ret
                        exact ⟨rfl, HT8.out.below⟩
                      · have ht0' : ¬ (t.toNat : Int) = 0 := by
                          intro e; apply ht0
                          rw [← UInt8.toNat_inj]
                          show t.toNat = 0
                          omega
                        have HT0 := Lib.hid ht0
                        obtain ⟨cb, w9, hconv, hby, hb9, hl9⟩ := bytes_of (lstr (Tlv.allBytes xs)) wc
                        rw [hszA] at hconv
                        rw [lstr_data] at hby
                        have c9 := hby.cell a2 HA2.out
                        have f9 := hby.free a2 HA2.out
                        have HFT := Lib.hid (fun m hm g1 g2 g5 g6 => Tlv.feed_turn xs HGOOD.out m a2 hm g1 g2 g5 g6 t HT0.out)
                        have HBY := Lib.hid (hby.set a2 HA2.out ((Tlv.allBytes xs).getD a2 0 ^^^ t))
                        have HBW : Hid (Below wc.heap.size wc (w9.setCell ⟨wc.heap.size, a2, none⟩ (bv ((Tlv.allBytes xs).getD a2 0 ^^^ t)))) := hb9.setCell (Nat.le_refl _) _
                        have HSL : Hid (((Tlv.allBytes xs).set a2 ((Tlv.allBytes xs).getD a2 0 ^^^ t)).length = (Tlv.allBytes xs).length) := List.length_set
                        have HGL : Hid (wc.heap.size < (w9.setCell ⟨wc.heap.size, a2, none⟩ (bv ((Tlv.allBytes xs).getD a2 0 ^^^ t))).heap.size) := by
                          show _ < _
                          simp [World.setCell]
                          exact hl9
                        generalize (Tlv.allBytes xs).getD a2 0 = q8 at c9 HFT HBY HBW HSL HGL
                        generalize (Tlv.allBytes xs).set a2 (q8 ^^^ t) = LT at HFT HBY HSL
                        have ha2' : (a2 : Int) < ((Tlv.allBytes xs).length : Int) := by omega
                        have ha20 : (0 : Int) ≤ (a2 : Int) := by omega
                        clear hby hb9 hl9 ht0
                        go_wp2_with fail
                        have HT10 := Lib.hid (HT8.out.keep HBW.out)
                        obtain ⟨ge', hge', _, hends⟩ := HEN.out _ HT10.out hk0
                        injection hge' with hge'
                        injection hge' with hge'
                        subst hge'
                        have HENDS2 := Lib.hid hends
                        clear hends c9 f9 hconv HT8 HBW
                        have hxv : bv (q8 ^^^ t) = .int .u8 ((q8.toNat ^^^ t.toNat : Nat) : Int) := by unfold bv; rw [UInt8.toNat_xor]
                        rw [hxv] at HBY HGL HT10 HENDS2
                        generalize w9.setCell ⟨wc.heap.size, a2, none⟩ (.int .u8 ((q8.toNat ^^^ t.toNat : Nat) : Int)) = w10 at HBY HGL HT10 HENDS2 ⊢
                        clear hxv
                        go_loop [21] (fun i => ∃ m : Nat, m ≤ k ∧ i = .int .i64 m ∧ (∀ j, j < m → (Tlv.allBytes (xs.take (j + 1))).length ≤ a2)) (fun i => k - (intOf i).toNat)
                        case atStart => exact ⟨0, by omega, rfl, fun j hj => by omega⟩
                        case round =>
                          obtain ⟨m, hm, rfl, hlow⟩ := hrel
                          have HLOW2 := Lib.hid hlow
                          clear hlow
                          by_cases hmk : m < k
                          · have hmk' : (m : Int) < (k : Int) := by omega
                            have hcell := HENDS2.out m hmk
                            by_cases hle : (Tlv.allBytes (xs.take (m + 1))).length ≤ a2
                            · have HLE := Lib.hid hle
                              generalize (Tlv.allBytes (xs.take (m + 1))).length = E at hcell hle
                              have hle' : (E : Int) ≤ (a2 : Int) := by omega
                              go_wp2_with fail
                              go_round
                              case rel => exact ⟨m + 1, by omega, by go_num, fun j hj => by
                                  rcases Nat.lt_or_ge j m with h | h
                                  · exact HLOW2.out j h
                                  · obtain rfl : j = m := by omega
                                    exact HLE.out⟩
                              case measure => simp [intOf]; omega
                            · have HGT := Lib.hid (show a2 < (Tlv.allBytes (xs.take (m + 1))).length by omega)
                              generalize (Tlv.allBytes (xs.take (m + 1))).length = E at hcell hle
                              have hle' : (a2 : Int) < (E : Int) := by omega
                              have HBEG : Hid ((Tlv.allBytes (xs.take m)).length ≤ a2) := by
                                rcases Nat.eq_zero_or_pos m with h | h
                                · rw [h, HE0.out]; exact Nat.zero_le _
                                · have := HLOW2.out (m - 1) (by omega)
                                  rwa [show m - 1 + 1 = m by omega] at this
                              have HF1 := Lib.hid (HFT.out m (by rw [HXS.out]; exact hmk) HBEG.out HGT.out)
                              have hm0 : (0 : Int) ≤ (m : Int) := by omega
                              rcases Nat.eq_zero_or_pos m with hz | hpos
                              · subst hz
                                rw [HE0.out, Nat.sub_zero] at HF1
                                rw [show ((0 : Nat) : Int) = 0 from rfl]
                                rw [show ((0 : Nat) : Int) = 0 from rfl] at hmk'
                                have hw1 : IntKind.i64.wrap (a2 : Int) = (a2 : Int) := IntWalk.i64_in _ (by have := HAL.out; omega)
                                by_cases h5 : a2 = 5
                                · have h5' : (a2 : Int) = 5 := by omega
                                  go_wp2_with fail
                                  go_ret
                                  exact ⟨rfl, HT10.out.below⟩
                                · by_cases h6 : a2 = 6
                                  · have h6' : (a2 : Int) = 6 := by omega
                                    go_wp2_with fail
                                    go_ret
                                    exact ⟨rfl, HT10.out.below⟩
                                  · have h5' : ¬ (a2 : Int) = 5 := by omega
                                    have h6' : ¬ (a2 : Int) = 6 := by omega
                                    have HFM : Hid (Tlv.feed 0 LT = (xs.take 0, [], ((0 : Nat) : Int), 8)) := HF1.out h5 h6
                                    clear h5 h6 HF1
                                    go_wp2_with fail
                                    all_goals try (go_ret; exact ⟨rfl, HT10.out.below⟩)
                                    have HYM : Hid ((xs.take 0).length = 0) := by rw [List.length_take, HXS.out]; show min 0 k = 0; omega
                                    have HOFM := Lib.hid (of_n (xs.take 0) 0 HYM.out (by omega))
                                    have HSMM := Lib.hid (same_n (xs.take 0) 0 HYM.out (by omega))
                                    have HFDM : Hid (∀ r W', Rd W' r (.slice none 0 0) ([], 0, 0) → Below w10.heap.size w10 W' → w10.heap.size ≤ r → Calls Try.prog 9 #[ptr r, .string (lstr LT)] W' fun e w' => ∃ ao cap, e = .returned (.tuple #[.slice ao 0 cap, .int .i64 8]) ∧ w'.ownsRow w10.heap.size 38 3 (.slice ao 0 cap) 0 (rcells (xs.take 0)) ∧ Below w10.heap.size w10 w') := fun r W' D hb hr => by
                                      refine feed_n (w0 := w10) LT HYM.out (by rw [HFM.out]) (by rw [HFM.out]) D hb hr ?_
                                      rw [HSL.out]; have := HAL.out; omega
                                    have HRM := Lib.hid (fun W (L : Laid w K ss k W (.slice aw k cw) (.slice (some ⟨ge, 0, none⟩) k ce)) => show Recs W aw (xs.take 0) from (HRW.out W L).take 0)
                                    have hmcw : (0 : Int) ≤ (cw : Int) := by
                                      have := cap_ge HT10.out.want
                                      omega
                                    have hback := bytes_back HBY.out (Tlv.allBytes xs).length cb HSL.out.symm
                                    have HBK := Lib.hid (fun W (h : Below w10.heap.size w10 W) => bytes_back (HBY.out.below HGL.out h) (Tlv.allBytes xs).length cb HSL.out.symm)
                                    go_region_held3 (fun W => (convert 35 9 (.slice (some ⟨wc.heap.size, 0, none⟩) (Tlv.allBytes xs).length cb)).run Try.prog W = .ok (.string (lstr LT)) W) (first | exact HBK.out _ ((Below.refl w10.heap.size w10).drew) | exact HBK.out _ ((Below.refl w10.heap.size w10).drew.trans hb6) | exact HBK.out _ hb7) (first
                                      | (go_at_call 8; (with_reducible refine (new_any _).mono ?_); rintro e w6 ⟨rfl, D6, hb6, hl6⟩; have hC6 := HFDM.out w10.heap.size _ D6 ((Below.refl w10.heap.size w10).drew.trans hb6) (Nat.le_refl _))
                                      | (go_at_call 9; (with_reducible refine hC6.mono ?_); rintro e w7 ⟨ao7, cp7, rfl, hr7, hb7⟩))
                                    have HT7 := Lib.hid (HT10.out.keep hb7)
                                    have R7 : Two ao7 aw (xs.take 0) w7.drew := Two.drew ⟨recs_of hr7, HRM.out w7 HT7.out⟩
                                    obtain ⟨ys, hys⟩ : ∃ ys, ys = xs.take 0 := ⟨_, rfl⟩
                                    rw [← hys] at HOFM HSMM R7
                                    clear hC6 D6 hb6 hl6 HFDM hback hr7 hb7 hys
                                    go_wp2_with fail
                                    go_region_held3 (Two ao7 aw ys) (first | exact R7 | exact R7.below hba | exact R7.below hbb | exact (R7.below hba).below hbb | exact (R7.below hbb).below hba | exact ((R7.below hba).below hbb).below hbc | exact ((R7.below hbb).below hba).below hbc) (first
                                      | (go_at_call 11; (with_reducible refine (HOFM.out _ ao7 _ (Two.left (by assumption))).mono ?_); rintro e wa ⟨aa, ca, rfl, hra, hba⟩)
                                      | (go_at_call 11; (with_reducible refine (HOFM.out _ aw _ (Two.right (by assumption))).mono ?_); rintro e wb ⟨ab, cb', rfl, hrb, hbb⟩)
                                      | (go_at_call 10; (with_reducible refine (HSMM.out _ aa ab _ _ ((recs_of hra).below hbb) (recs_of hrb)).mono ?_); rintro e wd ⟨rfl, hbc⟩)
                                      | (go_at_call 10; (with_reducible refine (HSMM.out _ aa ab _ _ (recs_of hra) ((recs_of hrb).below hba)).mono ?_); rintro e wd ⟨rfl, hbc⟩))
                                    all_goals
                                      have HT8 : Hid (Laid w K ss k wd (.slice aw k cw) (.slice (some ⟨ge, 0, none⟩) k ce)) := by
                                        first
                                        | exact HT7.out.keep ((((Below.refl w7.heap.size w7).drew.trans hba).trans (hbb.mono hba.size)).trans (hbc.mono (Nat.le_trans hba.size hbb.size)))
                                        | exact HT7.out.keep ((((Below.refl w7.heap.size w7).drew.trans hbb).trans (hba.mono hbb.size)).trans (hbc.mono (Nat.le_trans hbb.size hba.size)))
                                      clear hra hba hrb hbb hbc R7 HT7
                                      go_wp2_with fail
                                      go_ret
                                      exact ⟨rfl, HT8.out.below⟩
                              · have hm1 : (0 : Int) < (m : Int) := by omega
                                have hm2 : IntKind.i64.wrap ((m : Int) - 1) = (m : Int) - 1 := IntWalk.i64_in _ (by omega)
                                have hm3 : ((m : Int) - 1).toNat = m - 1 := by omega
                                have hm4 : (0 : Int) ≤ (m : Int) - 1 := by omega
                                have hm5 : (m : Int) - 1 < (k : Int) := by omega
                                have hcell1 := HENDS2.out (m - 1) (by omega)
                                rw [show m - 1 + 1 = m by omega] at hcell1
                                have HBG := Lib.hid (HBE.out m)
                                generalize (Tlv.allBytes (xs.take m)).length = G at hcell1 HBEG HF1 HBG
                                have hG : (G : Int) ≤ (a2 : Int) := by have := HBEG.out; omega
                                have hw1 : IntKind.i64.wrap ((a2 : Int) - (G : Int)) = (a2 : Int) - (G : Int) := IntWalk.i64_in _ (by have := HAL.out; omega)
                                by_cases h5 : a2 - G = 5
                                · have h5' : (a2 : Int) - (G : Int) = 5 := by omega
                                  go_wp2_with fail
                                  go_ret
                                  exact ⟨rfl, HT10.out.below⟩
                                · by_cases h6 : a2 - G = 6
                                  · have h6' : (a2 : Int) - (G : Int) = 6 := by omega
                                    go_wp2_with fail
                                    go_ret
                                    exact ⟨rfl, HT10.out.below⟩
                                  · have h5' : ¬ (a2 : Int) - (G : Int) = 5 := by omega
                                    have h6' : ¬ (a2 : Int) - (G : Int) = 6 := by omega
                                    have HFM : Hid (Tlv.feed 0 LT = (xs.take m, [], (m : Int), 8)) := HF1.out h5 h6
                                    clear h5 h6 HF1
                                    go_wp2_with fail
                                    all_goals try (go_ret; exact ⟨rfl, HT10.out.below⟩)
                                    have HYM : Hid ((xs.take m).length = m) := by rw [List.length_take, HXS.out]; show min m k = m; omega
                                    have HOFM := Lib.hid (of_n (xs.take m) m HYM.out (by omega))
                                    have HSMM := Lib.hid (same_n (xs.take m) m HYM.out (by omega))
                                    have HFDM : Hid (∀ r W', Rd W' r (.slice none 0 0) ([], 0, 0) → Below w10.heap.size w10 W' → w10.heap.size ≤ r → Calls Try.prog 9 #[ptr r, .string (lstr LT)] W' fun e w' => ∃ ao cap, e = .returned (.tuple #[.slice ao m cap, .int .i64 8]) ∧ w'.ownsRow w10.heap.size 38 3 (.slice ao m cap) m (rcells (xs.take m)) ∧ Below w10.heap.size w10 w') := fun r W' D hb hr => by
                                      refine feed_n (w0 := w10) LT HYM.out (by rw [HFM.out]) (by rw [HFM.out]) D hb hr ?_
                                      rw [HSL.out]; have := HAL.out; omega
                                    have HRM := Lib.hid (fun W (L : Laid w K ss k W (.slice aw k cw) (.slice (some ⟨ge, 0, none⟩) k ce)) => show Recs W aw (xs.take m) from (HRW.out W L).take m)
                                    have hmcw : (m : Int) ≤ (cw : Int) := by
                                      have := cap_ge HT10.out.want
                                      omega
                                    have hback := bytes_back HBY.out (Tlv.allBytes xs).length cb HSL.out.symm
                                    have HBK := Lib.hid (fun W (h : Below w10.heap.size w10 W) => bytes_back (HBY.out.below HGL.out h) (Tlv.allBytes xs).length cb HSL.out.symm)
                                    go_region_held3 (fun W => (convert 35 9 (.slice (some ⟨wc.heap.size, 0, none⟩) (Tlv.allBytes xs).length cb)).run Try.prog W = .ok (.string (lstr LT)) W) (first | exact HBK.out _ ((Below.refl w10.heap.size w10).drew) | exact HBK.out _ ((Below.refl w10.heap.size w10).drew.trans hb6) | exact HBK.out _ hb7) (first
                                      | (go_at_call 8; (with_reducible refine (new_any _).mono ?_); rintro e w6 ⟨rfl, D6, hb6, hl6⟩; have hC6 := HFDM.out w10.heap.size _ D6 ((Below.refl w10.heap.size w10).drew.trans hb6) (Nat.le_refl _))
                                      | (go_at_call 9; (with_reducible refine hC6.mono ?_); rintro e w7 ⟨ao7, cp7, rfl, hr7, hb7⟩))
                                    have HT7 := Lib.hid (HT10.out.keep hb7)
                                    have R7 : Two ao7 aw (xs.take m) w7.drew := Two.drew ⟨recs_of hr7, HRM.out w7 HT7.out⟩
                                    obtain ⟨ys, hys⟩ : ∃ ys, ys = xs.take m := ⟨_, rfl⟩
                                    rw [← hys] at HOFM HSMM R7
                                    clear hC6 D6 hb6 hl6 HFDM hback hr7 hb7 hys
                                    go_wp2_with fail
                                    go_region_held3 (Two ao7 aw ys) (first | exact R7 | exact R7.below hba | exact R7.below hbb | exact (R7.below hba).below hbb | exact (R7.below hbb).below hba | exact ((R7.below hba).below hbb).below hbc | exact ((R7.below hbb).below hba).below hbc) (first
                                      | (go_at_call 11; (with_reducible refine (HOFM.out _ ao7 _ (Two.left (by assumption))).mono ?_); rintro e wa ⟨aa, ca, rfl, hra, hba⟩)
                                      | (go_at_call 11; (with_reducible refine (HOFM.out _ aw _ (Two.right (by assumption))).mono ?_); rintro e wb ⟨ab, cb', rfl, hrb, hbb⟩)
                                      | (go_at_call 10; (with_reducible refine (HSMM.out _ aa ab _ _ ((recs_of hra).below hbb) (recs_of hrb)).mono ?_); rintro e wd ⟨rfl, hbc⟩)
                                      | (go_at_call 10; (with_reducible refine (HSMM.out _ aa ab _ _ (recs_of hra) ((recs_of hrb).below hba)).mono ?_); rintro e wd ⟨rfl, hbc⟩))
                                    all_goals
                                      have HT8 : Hid (Laid w K ss k wd (.slice aw k cw) (.slice (some ⟨ge, 0, none⟩) k ce)) := by
                                        first
                                        | exact HT7.out.keep ((((Below.refl w7.heap.size w7).drew.trans hba).trans (hbb.mono hba.size)).trans (hbc.mono (Nat.le_trans hba.size hbb.size)))
                                        | exact HT7.out.keep ((((Below.refl w7.heap.size w7).drew.trans hbb).trans (hba.mono hbb.size)).trans (hbc.mono (Nat.le_trans hbb.size hba.size)))
                                      clear hra hba hrb hbb hbc R7 HT7
                                      go_wp2_with fail
                                      go_ret
                                      exact ⟨rfl, HT8.out.below⟩
                          · exfalso
                            obtain rfl : m = k := by omega
                            have := HLOW2.out (m - 1) (by omega)
                            rw [show m - 1 + 1 = m by omega, HEk.out] at this
                            have := HA2.out
                            omega
                  · exfalso
                    obtain rfl : n = k := by omega
                    have := HLOW.out (n - 1) (by omega)
                    rw [show n - 1 + 1 = n by omega, HEk.out] at this
                    have := HA1.out
                    omega
end Go.Proofs.Ytpolpgghdeljbaa
