/- The loop of the rounds. -/
import Derived.Test.YtheobkepoocamaaGreatDoorRefLems
namespace Go.Proofs.YtheobkepoocamaaGreatDoor
set_option maxRecDepth 100000
open Go.RowKit Sha
attribute [local go_sem 9000] sem_add32 sem_xor32 sem_and32 sem_or32 sem_not32 sem_shr32 sem_shl32 run_w8 run_b8

set_option maxRecDepth 1000000 in
set_option maxHeartbeats 40000000 in
theorem loop5 (w : World) (P : List UInt8) (gP c5 hB kB gw gv : Nat) (m : Nat → UInt8) (s : St) (wo wx : World) (hR : RoundsW gw gv m s wo wx) (hM : MainW w P (some ⟨gP, 0, none⟩) c5 hB kB s wo) (Q : Exit → Act → World → Prop)
    (k0 k1 k2 k3 k4 k5 k6 k8 k10 k11 k12 k20 k21 k22 k23 k24 k25 k26 k27 k28 k29 k30 k31 k32 k33 k34 k35 k36 k37 k38 k39 k40 k41 k42 k43 k44 k45 k46 k47 k48 k49 k50 k51 k52 k53 k54 k55 k56 k57 k58 k59 k60 k61 k62 k63 k64 k65 k66 k67 k68 k69 k70 k71 k72 k73 k74 k75 k76 k77 k78 k79 k80 k81 k82 k83 k84 k85 k86 k87 k88 k89 k90 k91 k92 k93 k94 k95 k96 k97 k98 k99 k100 k101 k102 k103 k104 k105 k106 k107 k108 k109 k110 k111 k112 k113 k114 k115 k116 k117 k118 k119 k120 k121 k122 k123 k124 k125 k126 k127 k128 k129 k130 k131 k132 k133 k134 k135 k136 k137 k138 k139 k140 k141 k142 k143 k144 k145 k146 k147 k148 k149 k150 k151 k152 k153 k154 k155 k156 k157 k158 k250 k251 k252 k253 k254 k255 k256 k257 k258 k259 k260 k261 k262 k263 k264 k265 k266 k267 k268 k269 k270 k271 k272 k273 k274 : Value) (v15 v16 v17 v18 v19 v159 v160 v161 v162 v163 v164 v165 v166 v167 v168 v169 v170 v171 v172 v173 v174 v175 v176 v177 v178 v179 v180 v181 v182 v183 v184 v185 v186 v187 v188 v189 v190 v191 v192 v193 v194 v195 v196 v197 v198 v199 v200 v201 v202 v203 v204 v205 v206 v207 v208 v209 v210 v211 v212 v213 v214 v215 v216 v217 v218 v219 v220 v221 v222 v223 v224 v225 v226 v227 v228 v229 v230 v231 v232 v233 v234 v235 v236 v237 v238 v239 v240 v241 v242 v243 v244 v245 v246 v247 v248 v249 : Value)
    (hexit : ∀ (v15 v16 v17 v18 v19 v159 v160 v161 v162 v163 v164 v165 v166 v167 v168 v169 v170 v171 v172 v173 v174 v175 v176 v177 v178 v179 v180 v181 v182 v183 v184 v185 v186 v187 v188 v189 v190 v191 v192 v193 v194 v195 v196 v197 v198 v199 v200 v201 v202 v203 v204 v205 v206 v207 v208 v209 v210 v211 v212 v213 v214 v215 v216 v217 v218 v219 v220 v221 v222 v223 v224 v225 v226 v227 v228 v229 v230 v231 v232 v233 v234 v235 v236 v237 v238 v239 v240 v241 v242 v243 v244 v245 v246 v247 v248 v249 v14 : Value) (wr : World), RoundsW gw gv m (rounds m s 64) wo wr → Q (.exit 8) { tmps := #[k0, k1, k2, k3, k4, k5, k6, .pointer (some ⟨kB, 0, none⟩), k8, .pointer (some ⟨gw, 0, none⟩), k10, k11, k12, .pointer (some ⟨gv, 0, none⟩), v14, v15, v16, v17, v18, v19, k20, k21, k22, k23, k24, k25, k26, k27, k28, k29, k30, k31, k32, k33, k34, k35, k36, k37, k38, k39, k40, k41, k42, k43, k44, k45, k46, k47, k48, k49, k50, k51, k52, k53, k54, k55, k56, k57, k58, k59, k60, k61, k62, k63, k64, k65, k66, k67, k68, k69, k70, k71, k72, k73, k74, k75, k76, k77, k78, k79, k80, k81, k82, k83, k84, k85, k86, k87, k88, k89, k90, k91, k92, k93, k94, k95, k96, k97, k98, k99, k100, k101, k102, k103, k104, k105, k106, k107, k108, k109, k110, k111, k112, k113, k114, k115, k116, k117, k118, k119, k120, k121, k122, k123, k124, k125, k126, k127, k128, k129, k130, k131, k132, k133, k134, k135, k136, k137, k138, k139, k140, k141, k142, k143, k144, k145, k146, k147, k148, k149, k150, k151, k152, k153, k154, k155, k156, k157, k158, v159, v160, v161, v162, v163, v164, v165, v166, v167, v168, v169, v170, v171, v172, v173, v174, v175, v176, v177, v178, v179, v180, v181, v182, v183, v184, v185, v186, v187, v188, v189, v190, v191, v192, v193, v194, v195, v196, v197, v198, v199, v200, v201, v202, v203, v204, v205, v206, v207, v208, v209, v210, v211, v212, v213, v214, v215, v216, v217, v218, v219, v220, v221, v222, v223, v224, v225, v226, v227, v228, v229, v230, v231, v232, v233, v234, v235, v236, v237, v238, v239, v240, v241, v242, v243, v244, v245, v246, v247, v248, v249, k250, k251, k252, k253, k254, k255, k256, k257, k258, k259, k260, k261, k262, k263, k264, k265, k266, k267, k268, k269, k270, k271, k272, k273, k274], defers := [] } wr) :
    Code.wp Tryz.prog (.loop (body 4)) Q { tmps := #[k0, k1, k2, k3, k4, k5, k6, .pointer (some ⟨kB, 0, none⟩), k8, .pointer (some ⟨gw, 0, none⟩), k10, k11, k12, .pointer (some ⟨gv, 0, none⟩), .int .i64 0, v15, v16, v17, v18, v19, k20, k21, k22, k23, k24, k25, k26, k27, k28, k29, k30, k31, k32, k33, k34, k35, k36, k37, k38, k39, k40, k41, k42, k43, k44, k45, k46, k47, k48, k49, k50, k51, k52, k53, k54, k55, k56, k57, k58, k59, k60, k61, k62, k63, k64, k65, k66, k67, k68, k69, k70, k71, k72, k73, k74, k75, k76, k77, k78, k79, k80, k81, k82, k83, k84, k85, k86, k87, k88, k89, k90, k91, k92, k93, k94, k95, k96, k97, k98, k99, k100, k101, k102, k103, k104, k105, k106, k107, k108, k109, k110, k111, k112, k113, k114, k115, k116, k117, k118, k119, k120, k121, k122, k123, k124, k125, k126, k127, k128, k129, k130, k131, k132, k133, k134, k135, k136, k137, k138, k139, k140, k141, k142, k143, k144, k145, k146, k147, k148, k149, k150, k151, k152, k153, k154, k155, k156, k157, k158, v159, v160, v161, v162, v163, v164, v165, v166, v167, v168, v169, v170, v171, v172, v173, v174, v175, v176, v177, v178, v179, v180, v181, v182, v183, v184, v185, v186, v187, v188, v189, v190, v191, v192, v193, v194, v195, v196, v197, v198, v199, v200, v201, v202, v203, v204, v205, v206, v207, v208, v209, v210, v211, v212, v213, v214, v215, v216, v217, v218, v219, v220, v221, v222, v223, v224, v225, v226, v227, v228, v229, v230, v231, v232, v233, v234, v235, v236, v237, v238, v239, v240, v241, v242, v243, v244, v245, v246, v247, v248, v249, k250, k251, k252, k253, k254, k255, k256, k257, k258, k259, k260, k261, k262, k263, k264, k265, k266, k267, k268, k269, k270, k271, k272, k273, k274], defers := [] } wx := by
  have HXT := Lib.hid hexit
  clear hexit
  conv => arg 2; arg 1; whnf
  dsimp only
  go_loopw [14] (fun i wr => ∃ t : Nat, t ≤ 64 ∧ i = .int .i64 t ∧ RoundsW gw gv m (rounds m s t) wo wr) (fun i _ => 64 - (intOf i).toNat)
  case atStart => exact ⟨0, by omega, rfl, hR⟩
  case round =>
    clear hR
    obtain ⟨t, ht, rfl, hR⟩ := hrel
    by_cases ht64 : t < 64
    · have HST := Lib.hid (show rounds m s (t + 1) = Sha.round (rounds m s t) (kAt t) (wd m t) from rfl)
      generalize rounds m s t = st at hR HST
      have ht0 : (t : Int) < 64 := by omega
      have c4 := hR.cell 4 (by omega)
      simp only [St.get] at c4
      go_wp2_with fail
      go_quiet ((go_at_call 80; exact Calls.quiet_of_same (turn_q _ _ _ (by omega) (by omega))))
      replace hR := hR.drewN nq
      clear c4
      generalize World.drewN wr nq = wq at hR ⊢
      have c4 := hR.cell 4 (by omega)
      have c5 := hR.cell 5 (by omega)
      have c6 := hR.cell 6 (by omega)
      have c7 := hR.cell 7 (by omega)
      simp only [St.get] at c4 c5 c6 c7
      have hkk := (cell_of_row wq kB t _ _ _ ((hR.below.block kB (lt_of_block hM.kk)).trans hM.kk)).trans (wrow_get _ t ht64)
      have hww := (cell_of_row wq gw t _ _ _ hR.own).trans (wrow_get _ t ht64)
      go_wp2_with fail
      go_quiet (fail)
      replace hR := hR.drewN nq
      clear c4 c5 c6 c7 hkk hww
      generalize World.drewN wq nq = wz at hR ⊢
      have c0 := hR.cell 0 (by omega)
      simp only [St.get] at c0
      go_wp2_with fail
      go_quiet ((go_at_call 80; exact Calls.quiet_of_same (turn_q _ _ _ (by omega) (by omega))))
      replace hR := hR.drewN nq
      clear c0
      generalize World.drewN wz nq = wy at hR ⊢
      have c0 := hR.cell 0 (by omega)
      have c1 := hR.cell 1 (by omega)
      have c2' := hR.cell 2 (by omega)
      have c3' := hR.cell 3 (by omega)
      have c4 := hR.cell 4 (by omega)
      have c5 := hR.cell 5 (by omega)
      have c6 := hR.cell 6 (by omega)
      simp only [St.get] at c0 c1 c2' c3' c4 c5 c6
      go_wp2_with (first
        | (refine wpList_store_row rfl 117 _ _ rfl gv (row8 (Sha.round st (kAt t) (wd m t)).get) rfl rfl 117 (row8 st.get) hR.vv (by rw [row8_size]; kernel_rfl) (by rw [row8_size, row8_size]) (row8_one _) ?_)
        | fail)
      go_roundw
      case rel => exact ⟨t + 1, by omega, by go_num, by rw [HST.out]; exact hR.step⟩
      case measure => simp [intOf]; omega
    · have hR2 : RoundsW gw gv m (rounds m s 64) wo wr := by
        obtain rfl : t = 64 := by omega
        exact hR
      have hge : (64 : Int) ≤ (t : Int) := by omega
      clear hR ht ht64
      go_wp2_with fail
      exact HXT.out _ _ _ _ _ _ _ _ _ _ _ _ _ _ _ _ _ _ _ _ _ _ _ _ _ _ _ _ _ _ _ _ _ _ _ _ _ _ _ _ _ _ _ _ _ _ _ _ _ _ _ _ _ _ _ _ _ _ _ _ _ _ _ _ _ _ _ _ _ _ _ _ _ _ _ _ _ _ _ _ _ _ _ _ _ _ _ _ _ _ _ _ _ _ _ _ _ wr hR2
end Go.Proofs.YtheobkepoocamaaGreatDoor
