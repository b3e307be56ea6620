/- The document's Sum. -/
import Derived.Test.YtheobkepoocamaaGreatDoorRefBlocks
namespace Go.Proofs.YtheobkepoocamaaGreatDoor
set_option maxRecDepth 100000
open Go.RowKit Sha
attribute [local go_sem 9000] sem_add32 sem_xor32 sem_and32 sem_or32 sem_not32 sem_shr32 sem_shl32 run_w8 run_b8

set_option maxRecDepth 100000 in
set_option maxHeartbeats 40000000 in
theorem refSum_any (a0 : Option Addr) (len cap0 : Nat) (ss : List ByteArray) (w : World) (hS : Strs a0 len ss w) (hsz : (cat ss).length ≤ 1000000000) (hlen : len ≤ 1000000000) :
    Calls Tryz.prog 62 #[.slice a0 len cap0] w fun e w' => e = .returned (.string (lstr (sha (cat ss)))) ∧ Below w.heap.size w w' := by
  obtain ⟨i0, hi, hz0, hz1, hz2⟩ := info_parts info5
  go_enter Tryz.func62, Tryz.ntmps62
  go_wp2_with fail
  go_loopw [3, 4] (fun v i wr => ∃ (k : Nat) (a : Option Addr) (c : Nat), k ≤ len ∧ i = .int .i64 k ∧ v = .slice a (cat (ss.take k)).length c ∧ Owns w.heap.size a c (cat (ss.take k)) wr ∧ Below w.heap.size w wr) (fun _ i _ => len - (intOf i).toNat)
  case atStart => exact ⟨0, none, 0, by omega, rfl, rfl, Owns.nil _ _, Below.refl _ _⟩
  case round =>
    obtain ⟨k, a, c, hk, rfl, rfl, hO, hW⟩ := hrel
    by_cases hlt : k < len
    · obtain ⟨b, off, rfl, hcell⟩ := hS.cell k hlt
      have hc : wr.cell? ⟨b, off + k, none⟩ = some (.string (ss.getD k ByteArray.empty)) := (hW.cell (p := ⟨b, off + k, none⟩) (block_lt_of_cell hcell)).trans hcell
      have hks : k < ss.length := by rw [← hS.count]; exact hlt
      have hle := cat_le ss (k + 1)
      rw [cat_take_succ ss k hks, List.length_append] at hle
      have HC := Lib.hid (cat_take_succ ss k hks)
      generalize ss.getD k ByteArray.empty = x at hc hle HC
      have hk0 : (k : Int) < (len : Int) := by omega
      have hxl : x.data.toList.length = x.size := Array.length_toList
      have hx : (cat (ss.take k)).length + x.size ≤ 1000000000 := by omega
      have HXL := Lib.hid hxl
      clear hcell hks hle hxl
      generalize cat (ss.take k) = l at hO HC hx ⊢
      go_wp2_with (refine Lib.wpList_append_own_string _ rfl (.tmp 29) (.tmp 33) 86 9 rfl w.heap.size 5 i0 Tryz.underlying86 Tryz.underlying9 hi hz0 hz1 hz2 _ _ _ rfl hO _ rfl (by unfold maxLen; omega) (by omega) hW.size ?_; intro v' w2 hown hgrow _)
      go_roundw
      case rel =>
        obtain ⟨a2, c2, rfl, hO2⟩ := Owns.of (l := l ++ x.data.toList) (by rw [← byteCells_append]; exact hown) (by rw [List.length_append, HXL.out])
        refine ⟨k + 1, a2, c2, by omega, by go_num, by rw [HC.out], by rw [HC.out]; exact hO2, hW.grown hgrow hW.size (own_lt hO)⟩
      case measure => simp [intOf]; omega
    · obtain rfl : k = len := by omega
      rw [hS.count, List.take_length] at hO ⊢
      clear hlt hk
      generalize hcat : cat ss = S at hO hsz ⊢
      have HCAT := Lib.hid hcat
      clear hcat
      obtain ⟨i0, hi, hz0, hz1, hz2⟩ := info_parts info5
      have hl0 : (0 : Int) ≤ (S.length : Int) := by omega
      have hl1 : (S.length : Int) ≤ 1000000000 := by omega
      go_wp2_with (refine wpList_append_own _ rfl (.tmp 38) (.tmp 39) 86 rfl w.heap.size 5 i0 (.int .u8 0) 1 1 Tryz.underlying86 hi hz0 hz1 hz2 rfl (by decide) _ _ _ rfl (World.ownsRow.alloc hO _) ⟨wr.heap.size, 0, none⟩ 1 1 [.int .u8 128] rfl rfl (one_new wr _) (one_cell _) (by unfold maxLen; omega) (by omega) (Nat.le_trans hW.size (by simp)) ?_; intro v' w2 hown hgrow _)
      obtain ⟨L0, HL0⟩ : ∃ L0, Hid (L0 = S ++ 128 :: List.replicate 0 0) := ⟨_, Lib.hid rfl⟩
      obtain ⟨a2, c2, rfl, hO2⟩ := Owns.of (l := L0) (by rw [HL0.out, ← byteCells_append]; exact hown) (by rw [HL0.out, List.length_append]; rfl)
      have hW2 := (hW.alloc hW.size _).grown hgrow (Nat.le_trans hW.size (by simp)) (own_lt hO)
      clear hown hgrow hO hW
      go_loopw [3] (fun v wr => ∃ (z : Nat) (a : Option Addr) (c : Nat), z ≤ (119 - S.length % 64) % 64 ∧ v = .slice a (S ++ 128 :: List.replicate z 0).length c ∧ Owns w.heap.size a c (S ++ 128 :: List.replicate z 0) wr ∧ Below w.heap.size w wr) (fun v _ => S.length + 65 - sliceLen v)
      case atStart => exact ⟨0, a2, c2, by omega, by rw [HL0.out], by rw [← HL0.out]; exact hO2, hW2⟩
      case round =>
        clear hO2 hW2
        obtain ⟨z, a3, c3, hz, rfl, hO3, hW3⟩ := hrel
        obtain ⟨i0, hi, hz0, hz1, hz2⟩ := info_parts info5
        have HL := Lib.hid (show S ++ 128 :: List.replicate (z + 1) 0 = (S ++ 128 :: List.replicate z 0) ++ [0] by rw [List.append_assoc, List.cons_append, List.replicate_succ'])
        have hL : (S ++ 128 :: List.replicate z 0).length = S.length + 1 + z := by rw [List.length_append, List.length_cons, List.length_replicate]; omega
        by_cases hlt : z < (119 - S.length % 64) % 64
        · generalize S ++ 128 :: List.replicate z 0 = L at hO3 hL HL ⊢
          have hL0 : (0 : Int) ≤ (L.length : Int) := by omega
          have hL1 : (L.length : Int) ≤ 1000000100 := by omega
          have hne : ((L.length : Int) % 64 != 56) = true := by rw [bne_iff_ne]; omega
          have HZ := Lib.hid hL
          clear hL
          go_wp2_with (refine wpList_append_own _ rfl (.tmp 45) (.tmp 46) 86 rfl w.heap.size 5 i0 (.int .u8 0) 1 1 Tryz.underlying86 hi hz0 hz1 hz2 rfl (by decide) _ _ _ rfl (World.ownsRow.alloc hO3 _) ⟨wr.heap.size, 0, none⟩ 1 1 [.int .u8 0] rfl rfl (one_new wr _) (one_cell _) (by unfold maxLen; omega) (by omega) (Nat.le_trans hW3.size (by simp)) ?_; intro v' w2 hown hgrow _)
          go_roundw
          case rel =>
            obtain ⟨a4, c4, rfl, hO4⟩ := Owns.of (l := L ++ [0]) (by rw [← byteCells_append]; exact hown) (by rw [List.length_append]; rfl)
            exact ⟨z + 1, a4, c4, by omega, by rw [HL.out], by rw [HL.out]; exact hO4, (hW3.alloc hW3.size _).grown hgrow (Nat.le_trans hW3.size (by simp)) (own_lt hO3)⟩
          case measure =>
            obtain ⟨a4, c4, rfl, hO4⟩ := Owns.of (l := L ++ [0]) (by rw [← byteCells_append]; exact hown) (by rw [List.length_append]; rfl)
            have := HZ.out
            simp [sliceLen]; omega
        · have hzz : z = (119 - S.length % 64) % 64 := by omega
          have HP := Lib.hid (show pad S = (S ++ 128 :: List.replicate z 0) ++ num (8 * S.length) 8 by rw [hzz]; rfl)
          have HX := Lib.hid (show sha S = (blocks (pad S) ((pad S).length / 64)).out from rfl)
          generalize S ++ 128 :: List.replicate z 0 = L at hO3 hL HP ⊢
          clear HL hz
          have hL0 : (0 : Int) ≤ (L.length : Int) := by omega
          have hL1 : (L.length : Int) ≤ 1000000100 := by omega
          have hne : ((L.length : Int) % 64 != 56) = false := by rw [bne_eq_false_iff_eq]; omega
          have HM := Lib.hid (show (L.length + 8) % 64 = 0 by omega)
          have hn1 : (0 : Int) ≤ 8 * (S.length : Int) := by omega
          have hN := numStr_size (8 * S.length) 8
          have HND := Lib.hid (show Lib.strCells (numStr (8 * S.length) 8) = Lib.byteCells (num (8 * S.length) 8) from rfl)
          clear hL hzz hlt
          go_wp2_with fail
          refine (number_any (8 * S.length) _ _ _ (by omega) (by omega) (by omega) (by omega)).mono ?_
          rintro e w4 ⟨rfl, hw4⟩
          rw [show (8 : Int).toNat = 8 from rfl]
          generalize numStr (8 * S.length) 8 = ns at hN HND ⊢
          have hW4 := hW3.trans (hw4.mono hW3.size)
          have hO4 : Owns w.heap.size a3 c3 L w4 := owns_below hO3 hw4
          clear hO3 hW3 hw4
          dsimp only
          go_wp2_with (first
            | (refine Lib.wpList_append_own_string _ rfl (.tmp 48) (.tmp 50) 86 9 rfl w.heap.size 5 i0 Tryz.underlying86 Tryz.underlying9 hi hz0 hz1 hz2 _ _ _ rfl hO4 _ rfl (by unfold maxLen; omega) (by omega) hW4.size ?_; intro v' w2 hown hgrow _)
            | (refine wpList_store_row rfl 117 _ _ rfl _ (row8 init.get) rfl rfl 117 (row8 (fun _ => 0)) (heap_alloc_new _ _) (by rw [row8_size]; kernel_rfl) (by rw [row8_size, row8_size]) (row8_one _) ?_
               change wpList _ _ _ _ _ ((w2.alloc (.cells (row8 (fun _ => 0)) 117)).setRow w2.heap.size (row8 init.get))
               obtain ⟨a5, c5, rfl, hO5⟩ := Owns.of (l := L ++ num (8 * S.length) 8) (by rw [← byteCells_append, ← HND.out]; exact hown) (by rw [List.length_append, num_length, hN])
               rw [← HP.out] at hO5
               have hW5 := hW4.grown hgrow hW4.size (own_lt hO4)
               have hPL : (pad S).length = L.length + 8 := by rw [HP.out, List.length_append, num_length]
               rw [show (L ++ num (8 * S.length) 8).length = (pad S).length by rw [HP.out]]
               clear hown hgrow hO4 hW4
               have hM5 := main_start hO5 hW5
               have HPL := Lib.hid (show (pad S).length % 64 = 0 by have := HM.out; omega)
               have hP0 : (0 : Int) ≤ ((pad S).length : Int) := by omega
               have hP1 : ((pad S).length : Int) ≤ 1000000200 := by omega
               have HPos := Lib.hid (show 0 < (pad S).length by omega)
               clear hPL HP
               generalize pad S = P at hM5 HPL hP0 hP1 HPos HX ⊢
               generalize World.setRow _ _ _ = w5 at hM5 ⊢
               generalize w2.heap.size = hB at hM5 ⊢
               clear hO5 hW5)
            | fail)
          refine (constants_any _).mono ?_
          rintro e w6 ⟨rfl, hw6⟩
          have hM6 := hM5.under hw6
          clear hM5 hw6
          dsimp only
          go_wp2_with (first
            | (refine wpList_store_row rfl 118 _ _ rfl w6.heap.size (wrow kAt) rfl rfl 118 (wrow (fun _ => 0)) (heap_alloc_new _ _) (by rw [wrow_size]; kernel_rfl) (by rw [wrow_size, wrow_size]) (wrow_one _) ?_
               change wpList _ _ _ _ _ ((w6.alloc (.cells (wrow (fun _ => 0)) 118)).setRow w6.heap.size (wrow kAt))
               have hM7 := hM6.main
               generalize World.setRow _ _ _ = w7 at hM7 ⊢
               generalize w6.heap.size = kB at hM7 ⊢
               clear hM6)
            | fail)
          obtain ⟨gP, rfl⟩ := hM7.half.pad.addr HPos.out
          refine main_loop w P gP c5 hB kB HPL.out HPos.out hP1 w7 hM7 _ _ _ _ _ _ _ _ _ _ _ _ _ _ _ _ _ _ _ _ _ _ _ _ _ _ _ _ _ _ _ _ _ _ _ _ _ _ _ _ _ _ _ _ _ _ _ _ _ _ _ _ _ _ _ _ _ _ _ _ _ _ _ _ _ _ _ _ _ _ _ _ _ _ _ _ _ _ _ _ _ _ _ _ _ _ _ _ _ _ _ _ _ _ _ _ _ _ _ _ _ _ _ _ _ _ _ _ _ _ _ _ _ _ _ _ _ _ _ _ _ _ _ _ _ _ _ _ _ _ _ _ _ _ _ _ _ _ _ _ _ _ _ _ _ _ _ _ _ _ _ _ _ _ _ _ _ _ _ _ _ _ _ _ _ _ _ _ _ _ _ _ _ _ _ _ _ _ _ _ _ _ _ _ _ _ _ _ _ _ _ _ _ _ _ _ _ _ _ _ _ _ _ _ _ _ _ _ _ _ _ _ _ _ _ _ _ _ _ _ _ _ _ _ _ _ _ _ _ _ _ _ _ _ _ _ _ _ _ _ _ _ _ _ _ _ _ _ _ _ _ _ _ _ _ _ _ _ _ _ _ _ _ _ _ _ _ _ _ _ _ _ ?_
          intro v9 v10 v11 v12 v13 v14 v15 v16 v17 v18 v19 v20 v54 v55 v56 v57 v58 v59 v60 v61 v62 v63 v64 v65 v66 v67 v68 v69 v70 v71 v72 v73 v74 v75 v76 v77 v78 v79 v80 v81 v82 v83 v84 v85 v86 v87 v88 v89 v90 v91 v92 v93 v94 v95 v96 v97 v98 v99 v100 v101 v102 v103 v104 v105 v106 v107 v108 v109 v110 v111 v112 v113 v114 v115 v116 v117 v118 v119 v120 v121 v122 v123 v124 v125 v126 v127 v128 v129 v130 v131 v132 v133 v134 v135 v136 v137 v138 v139 v140 v141 v142 v143 v144 v145 v146 v147 v148 v149 v150 v151 v152 v153 v154 v155 v156 v157 v158 v159 v160 v161 v162 v163 v164 v165 v166 v167 v168 v169 v170 v171 v172 v173 v174 v175 v176 v177 v178 v179 v180 v181 v182 v183 v184 v185 v186 v187 v188 v189 v190 v191 v192 v193 v194 v195 v196 v197 v198 v199 v200 v201 v202 v203 v204 v205 v206 v207 v208 v209 v210 v211 v212 v213 v214 v215 v216 v217 v218 v219 v220 v221 v222 v223 v224 v225 v226 v227 v228 v229 v230 v231 v232 v233 v234 v235 v236 v237 v238 v239 v240 v241 v242 v243 v244 v245 v246 v247 v248 v249 v250 v251 v252 v253 v254 v255 v256 v257 v258 v259 v260 v261 v262 v8 wr hM
          · have HO := HX.out
            generalize blocks P (P.length / 64) = s at hM HO
            have HX2 := Lib.hid HO
            clear HO
            go_wp2_with fail
            obtain ⟨wo, rfl⟩ : ∃ wo : World, wo = wr := ⟨_, rfl⟩
            go_loopw [21, 22] (fun v i wr => ∃ k : Nat, k ≤ 8 ∧ i = .int .i64 k ∧ v = .string (lstr (s.outK k)) ∧ Below wo.heap.size wo wr) (fun _ i _ => 8 - (intOf i).toNat)
            case atStart => exact ⟨0, by omega, rfl, rfl, Below.refl _ _⟩
            case round =>
              obtain ⟨k, hk, rfl, rfl, hW⟩ := hrel
              by_cases hk8 : k < 8
              · have hk0 : (k : Int) < 8 := by omega
                have hh1 := (hW.block hB (lt_of_block hM.half.hh)).trans hM.half.hh
                have ca : wr.cell? ⟨hB, k, none⟩ = some (wv (s.get k)) := (cell_of_row wr hB k _ _ _ hh1).trans (row8_get _ k hk8)
                have HK := Lib.hid (show lstr (s.outK k) ++ lstr (wordBytes (s.get k)) = lstr (s.outK (k + 1)) from lstr_append _ _)
                have hl : (lstr (s.outK k)).size = 4 * k := by rw [lstr_size, outK_length]
                generalize lstr (s.outK k) = out at HK hl ⊢
                generalize s.get k = x at ca HK
                have hx0 := u32_lo x
                have hx1 := u32_hi x
                have hs0 : (out.size : Int) ≤ 32 := by omega
                clear hl hh1
                go_wp2_with fail
                refine (number_any x.toNat _ _ _ rfl (by omega) (by omega) (by omega)).mono ?_
                rintro e w6 ⟨rfl, hw6⟩
                rw [show (4 : Int).toNat = 4 from rfl]
                have hN := numStr_size x.toNat 4
                have HN := Lib.hid (show numStr x.toNat 4 = lstr (wordBytes x) by
                  show lstr (num x.toNat 4) = _
                  rw [num4, BitVec.ofNat_toNat, BitVec.setWidth_eq])
                generalize numStr x.toNat 4 = ns at hN HN ⊢
                have hn0 : (ns.size : Int) ≤ 4 := by omega
                clear hN
                dsimp only
                go_wp2_with fail
                go_roundw
                case rel => exact ⟨k + 1, by omega, by go_num, by rw [HN.out, HK.out], hW.trans (hw6.mono hW.size)⟩
                case measure => simp [intOf]; omega
              · obtain rfl : k = 8 := by omega
                clear hk hk8
                have HE := Lib.hid (show lstr (s.outK 8) = lstr (sha S) by rw [outK_eight, HX2.out])
                have HE2 := Lib.hid (show lstr (sha S) = lstr (sha (cat ss)) by rw [HCAT.out])
                go_wp2_with fail
                go_ret
                exact ⟨by rw [← HE2.out, ← HE.out]; rfl, hM.half.below.trans (hW.mono hM.half.below.size)⟩
end Go.Proofs.YtheobkepoocamaaGreatDoor
