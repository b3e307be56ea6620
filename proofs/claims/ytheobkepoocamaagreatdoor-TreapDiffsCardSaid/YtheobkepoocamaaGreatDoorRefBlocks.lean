/- The loop over the blocks. -/
import Derived.Test.YtheobkepoocamaaGreatDoorRefLa
import Derived.Test.YtheobkepoocamaaGreatDoorRefLb
import Derived.Test.YtheobkepoocamaaGreatDoorRefLc
namespace Go.Proofs.YtheobkepoocamaaGreatDoor
set_option maxRecDepth 100000
open Go.RowKit Sha
attribute [local go_sem 9000] sem_add32 sem_xor32 sem_and32 sem_or32 sem_not32 sem_shr32 sem_shl32 run_w8 run_b8

set_option maxRecDepth 1000000 in
set_option maxHeartbeats 40000000 in
theorem main_loop (w : World) (P : List UInt8) (gP c5 hB kB : Nat) (hmod : P.length % 64 = 0) (hpos : 0 < P.length) (hP1 : (P.length : Int) ≤ 1000000200) (w7 : World) (hM7 : MainW w P (some ⟨gP, 0, none⟩) c5 hB kB init w7) (Q : Exit → Act → World → Prop)
    (k0 k1 k2 k4 k5 k21 k22 k23 k24 k25 k26 k27 k28 k29 k30 k31 k32 k33 k34 k35 k36 k37 k38 k39 k40 k41 k42 k43 k44 k45 k46 k47 k48 k49 k50 k51 k52 k53 k263 k264 k265 k266 k267 k268 k269 k270 k271 k272 k273 k274 : Value) (v9 v10 v11 v12 v13 v14 v15 v16 v17 v18 v19 v20 v54 v55 v56 v57 v58 v59 v60 v61 v62 v63 v64 v65 v66 v67 v68 v69 v70 v71 v72 v73 v74 v75 v76 v77 v78 v79 v80 v81 v82 v83 v84 v85 v86 v87 v88 v89 v90 v91 v92 v93 v94 v95 v96 v97 v98 v99 v100 v101 v102 v103 v104 v105 v106 v107 v108 v109 v110 v111 v112 v113 v114 v115 v116 v117 v118 v119 v120 v121 v122 v123 v124 v125 v126 v127 v128 v129 v130 v131 v132 v133 v134 v135 v136 v137 v138 v139 v140 v141 v142 v143 v144 v145 v146 v147 v148 v149 v150 v151 v152 v153 v154 v155 v156 v157 v158 v159 v160 v161 v162 v163 v164 v165 v166 v167 v168 v169 v170 v171 v172 v173 v174 v175 v176 v177 v178 v179 v180 v181 v182 v183 v184 v185 v186 v187 v188 v189 v190 v191 v192 v193 v194 v195 v196 v197 v198 v199 v200 v201 v202 v203 v204 v205 v206 v207 v208 v209 v210 v211 v212 v213 v214 v215 v216 v217 v218 v219 v220 v221 v222 v223 v224 v225 v226 v227 v228 v229 v230 v231 v232 v233 v234 v235 v236 v237 v238 v239 v240 v241 v242 v243 v244 v245 v246 v247 v248 v249 v250 v251 v252 v253 v254 v255 v256 v257 v258 v259 v260 v261 v262 : Value)
    (hexit : ∀ (v9 v10 v11 v12 v13 v14 v15 v16 v17 v18 v19 v20 v54 v55 v56 v57 v58 v59 v60 v61 v62 v63 v64 v65 v66 v67 v68 v69 v70 v71 v72 v73 v74 v75 v76 v77 v78 v79 v80 v81 v82 v83 v84 v85 v86 v87 v88 v89 v90 v91 v92 v93 v94 v95 v96 v97 v98 v99 v100 v101 v102 v103 v104 v105 v106 v107 v108 v109 v110 v111 v112 v113 v114 v115 v116 v117 v118 v119 v120 v121 v122 v123 v124 v125 v126 v127 v128 v129 v130 v131 v132 v133 v134 v135 v136 v137 v138 v139 v140 v141 v142 v143 v144 v145 v146 v147 v148 v149 v150 v151 v152 v153 v154 v155 v156 v157 v158 v159 v160 v161 v162 v163 v164 v165 v166 v167 v168 v169 v170 v171 v172 v173 v174 v175 v176 v177 v178 v179 v180 v181 v182 v183 v184 v185 v186 v187 v188 v189 v190 v191 v192 v193 v194 v195 v196 v197 v198 v199 v200 v201 v202 v203 v204 v205 v206 v207 v208 v209 v210 v211 v212 v213 v214 v215 v216 v217 v218 v219 v220 v221 v222 v223 v224 v225 v226 v227 v228 v229 v230 v231 v232 v233 v234 v235 v236 v237 v238 v239 v240 v241 v242 v243 v244 v245 v246 v247 v248 v249 v250 v251 v252 v253 v254 v255 v256 v257 v258 v259 v260 v261 v262 v8 : Value) (wr : World), MainW w P (some ⟨gP, 0, none⟩) c5 hB kB (blocks P (P.length / 64)) wr → Q (.exit 4) { tmps := #[k0, k1, k2, .slice (some ⟨gP, 0, none⟩) P.length c5, k4, k5, .pointer (some ⟨hB, 0, none⟩), .pointer (some ⟨kB, 0, none⟩), v8, v9, v10, v11, v12, v13, v14, v15, v16, v17, v18, v19, v20, k21, k22, k23, k24, k25, k26, k27, k28, k29, k30, k31, k32, k33, k34, k35, k36, k37, k38, k39, k40, k41, k42, k43, k44, k45, k46, k47, k48, k49, k50, k51, k52, k53, v54, v55, v56, v57, v58, v59, v60, v61, v62, v63, v64, v65, v66, v67, v68, v69, v70, v71, v72, v73, v74, v75, v76, v77, v78, v79, v80, v81, v82, v83, v84, v85, v86, v87, v88, v89, v90, v91, v92, v93, v94, v95, v96, v97, v98, v99, v100, v101, v102, v103, v104, v105, v106, v107, v108, v109, v110, v111, v112, v113, v114, v115, v116, v117, v118, v119, v120, v121, v122, v123, v124, v125, v126, v127, v128, v129, v130, v131, v132, v133, v134, v135, v136, v137, v138, v139, v140, v141, v142, v143, v144, v145, v146, v147, v148, v149, v150, v151, v152, v153, v154, v155, v156, v157, v158, v159, v160, v161, v162, v163, v164, v165, v166, v167, v168, v169, v170, v171, v172, v173, v174, v175, v176, v177, v178, v179, v180, v181, v182, v183, v184, v185, v186, v187, v188, v189, v190, v191, v192, v193, v194, v195, v196, v197, v198, v199, v200, v201, v202, v203, v204, v205, v206, v207, v208, v209, v210, v211, v212, v213, v214, v215, v216, v217, v218, v219, v220, v221, v222, v223, v224, v225, v226, v227, v228, v229, v230, v231, v232, v233, v234, v235, v236, v237, v238, v239, v240, v241, v242, v243, v244, v245, v246, v247, v248, v249, v250, v251, v252, v253, v254, v255, v256, v257, v258, v259, v260, v261, v262, k263, k264, k265, k266, k267, k268, k269, k270, k271, k272, k273, k274], defers := [] } wr) :
    Code.wp Tryz.prog (.loop (body 2)) Q { tmps := #[k0, k1, k2, .slice (some ⟨gP, 0, none⟩) P.length c5, k4, k5, .pointer (some ⟨hB, 0, none⟩), .pointer (some ⟨kB, 0, none⟩), .int .i64 0, v9, v10, v11, v12, v13, v14, v15, v16, v17, v18, v19, v20, k21, k22, k23, k24, k25, k26, k27, k28, k29, k30, k31, k32, k33, k34, k35, k36, k37, k38, k39, k40, k41, k42, k43, k44, k45, k46, k47, k48, k49, k50, k51, k52, k53, v54, v55, v56, v57, v58, v59, v60, v61, v62, v63, v64, v65, v66, v67, v68, v69, v70, v71, v72, v73, v74, v75, v76, v77, v78, v79, v80, v81, v82, v83, v84, v85, v86, v87, v88, v89, v90, v91, v92, v93, v94, v95, v96, v97, v98, v99, v100, v101, v102, v103, v104, v105, v106, v107, v108, v109, v110, v111, v112, v113, v114, v115, v116, v117, v118, v119, v120, v121, v122, v123, v124, v125, v126, v127, v128, v129, v130, v131, v132, v133, v134, v135, v136, v137, v138, v139, v140, v141, v142, v143, v144, v145, v146, v147, v148, v149, v150, v151, v152, v153, v154, v155, v156, v157, v158, v159, v160, v161, v162, v163, v164, v165, v166, v167, v168, v169, v170, v171, v172, v173, v174, v175, v176, v177, v178, v179, v180, v181, v182, v183, v184, v185, v186, v187, v188, v189, v190, v191, v192, v193, v194, v195, v196, v197, v198, v199, v200, v201, v202, v203, v204, v205, v206, v207, v208, v209, v210, v211, v212, v213, v214, v215, v216, v217, v218, v219, v220, v221, v222, v223, v224, v225, v226, v227, v228, v229, v230, v231, v232, v233, v234, v235, v236, v237, v238, v239, v240, v241, v242, v243, v244, v245, v246, v247, v248, v249, v250, v251, v252, v253, v254, v255, v256, v257, v258, v259, v260, v261, v262, k263, k264, k265, k266, k267, k268, k269, k270, k271, k272, k273, k274], defers := [] } w7 := by
  have HPL := Lib.hid hmod
  have HPos := Lib.hid hpos
  have HXT := Lib.hid hexit
  have hP0 : (0 : Int) ≤ (P.length : Int) := by omega
  clear hmod hpos hexit
  conv => arg 2; arg 1; whnf
  dsimp only
  go_loopw [8] (fun i wr => ∃ q : Nat, q ≤ P.length / 64 ∧ i = .int .i64 ((64 * q : Nat) : Int) ∧ MainW w P (some ⟨gP, 0, none⟩) c5 hB kB (blocks P q) wr) (fun i _ => P.length - (intOf i).toNat)
  case atStart => exact ⟨0, by omega, rfl, hM7⟩
  case round =>
    clear hM7
    obtain ⟨q, hq, rfl, hM⟩ := hrel
    have hPL := HPL.out
    by_cases hlt : q < P.length / 64
    · have h64 : 64 * q + 64 ≤ P.length := by omega
      have hq0 : ((64 * q : Nat) : Int) < (P.length : Int) := by omega
      have HB := Lib.hid (show blocks P (q + 1) = Sha.press (blocks P q) (fun i => P.getD (64 * q + i) 0) from rfl)
      have HQ := Lib.hid (show ((64 * q : Nat) : Int) + 64 = ((64 * (q + 1) : Nat) : Int) by omega)
      have HLT := Lib.hid hlt
      generalize blocks P q = s at hM HB ⊢
      have hqq : (0 : Int) ≤ ((64 * q : Nat) : Int) := by omega
      generalize 64 * q = o at h64 hq0 HB HQ hqq ⊢
      clear hPL hlt hq
      go_wp2_with fail
      obtain ⟨wo, rfl⟩ : ∃ wo : World, wo = wr := ⟨_, rfl⟩
      refine loop4 w P gP c5 o hB kB s hP1 h64 wo _ (OwnW.start _ wo) hM _ _ _ _ _ _ _ _ _ _ _ _ _ _ _ _ _ _ _ _ _ _ _ _ _ _ _ _ _ _ _ _ _ _ _ _ _ _ _ _ _ _ _ _ _ _ _ _ _ _ _ _ _ _ _ _ _ _ _ _ _ _ _ _ _ _ _ _ _ _ _ _ _ _ _ _ _ _ _ _ _ _ _ _ _ _ _ _ _ _ _ _ _ _ _ _ _ _ _ _ _ _ _ _ _ _ _ _ _ _ _ _ _ _ _ _ _ _ _ _ _ _ _ _ _ _ _ _ _ _ _ _ _ _ _ _ _ _ _ _ _ _ _ _ _ _ _ _ _ _ _ _ _ _ _ _ _ _ _ _ _ _ _ _ _ _ _ _ _ _ _ _ _ _ _ _ _ _ _ _ _ _ _ _ _ _ _ _ _ _ _ _ _ _ _ _ _ _ _ _ _ _ _ _ _ _ _ _ _ _ _ _ _ _ _ _ _ _ _ _ _ _ _ _ _ _ _ _ _ _ _ _ _ _ _ _ _ _ _ _ _ _ _ _ _ _ _ _ _ _ _ _ _ _ _ _ _ _ _ _ _ _ _ _ _ _ _ _ _ _ _ _ ?_
      intro v11 v12 v60 v61 v62 v63 v64 v65 v66 v67 v68 v69 v70 v71 v72 v73 v74 v75 v76 v77 v78 v79 v80 v81 v82 v83 v84 v85 v86 v87 v88 v89 v90 v91 v92 v93 v94 v95 v96 v97 v98 v99 v100 v101 v102 v103 v104 v105 v106 v107 v108 v109 v110 v111 v112 v113 v114 v115 v116 v117 v118 v119 v120 v121 v122 v123 v124 v125 v126 v127 v128 v129 v130 v131 v132 v133 v134 v135 v136 v137 v138 v139 v140 v141 v142 v143 v144 v145 v146 v147 v148 v149 v150 v151 v152 v153 v154 v155 v156 v157 v10 wr hr
      have hh1 : wr.heap[hB]? = some (.cells (row8 s.get) 117 (0, 0)) := (hr.below.block hB (lt_of_block hM.half.hh)).trans hM.half.hh
      generalize hmm : (fun i => P.getD (o + i) 0) = m at hr HB
      clear hmm
      have hR := RoundsW.start (s := s) hr
      go_wp2_with (first
        | (refine wpList_load_row rfl 117 _ rfl hB rfl 117 (row8 s.get) (0, 0) _ hh1 Tryz.underlying117 rfl (by rw [row8_size]; kernel_rfl) ?_)
        | (refine wpList_store_row rfl 117 _ _ rfl wr.heap.size (row8 s.get) rfl rfl 117 (row8 (fun _ => 0)) (heap_alloc_new _ _) (by rw [row8_size]; kernel_rfl) (by rw [row8_size, row8_size]) (row8_one _) ?_
           change wpList _ _ _ _ _ ((wr.alloc (.cells (row8 (fun _ => 0)) 117)).setRow wr.heap.size (row8 s.get))
           generalize World.setRow _ _ _ = wv0 at hR ⊢
           generalize wr.heap.size = gv at hR ⊢)
        | fail)
      clear hh1 hr
      generalize wo.heap.size = gw at hR ⊢
      refine loop5 w P gP c5 hB kB gw gv m s wo _ hR hM _ _ _ _ _ _ _ _ _ _ _ _ _ _ _ _ _ _ _ _ _ _ _ _ _ _ _ _ _ _ _ _ _ _ _ _ _ _ _ _ _ _ _ _ _ _ _ _ _ _ _ _ _ _ _ _ _ _ _ _ _ _ _ _ _ _ _ _ _ _ _ _ _ _ _ _ _ _ _ _ _ _ _ _ _ _ _ _ _ _ _ _ _ _ _ _ _ _ _ _ _ _ _ _ _ _ _ _ _ _ _ _ _ _ _ _ _ _ _ _ _ _ _ _ _ _ _ _ _ _ _ _ _ _ _ _ _ _ _ _ _ _ _ _ _ _ _ _ _ _ _ _ _ _ _ _ _ _ _ _ _ _ _ _ _ _ _ _ _ _ _ _ _ _ _ _ _ _ _ _ _ _ _ _ _ _ _ _ _ _ _ _ _ _ _ _ _ _ _ _ _ _ _ _ _ _ _ _ _ _ _ _ _ _ _ _ _ _ _ _ _ _ _ _ _ _ _ _ _ _ _ _ _ _ _ _ _ _ _ _ _ _ _ _ _ _ _ _ _ _ _ _ _ _ _ _ _ _ _ _ _ _ _ _ _ _ _ _ _ _ _ _ ?_
      clear hR
      intro v15 v16 v17 v18 v19 v159 v160 v161 v162 v163 v164 v165 v166 v167 v168 v169 v170 v171 v172 v173 v174 v175 v176 v177 v178 v179 v180 v181 v182 v183 v184 v185 v186 v187 v188 v189 v190 v191 v192 v193 v194 v195 v196 v197 v198 v199 v200 v201 v202 v203 v204 v205 v206 v207 v208 v209 v210 v211 v212 v213 v214 v215 v216 v217 v218 v219 v220 v221 v222 v223 v224 v225 v226 v227 v228 v229 v230 v231 v232 v233 v234 v235 v236 v237 v238 v239 v240 v241 v242 v243 v244 v245 v246 v247 v248 v249 v14 wr hR
      have HF := Lib.hid (show Sha.press s m = addSt s (rounds m s 64) from rfl)
      generalize rounds m s 64 = f at hR HF
      have hA : AddW hB gv s f 0 wo wr := ⟨((hR.below.block hB (lt_of_block hM.half.hh)).trans hM.half.hh), hR.vv, (OnlyB.refl hB wo).of_below hR.below, by have := lt_of_block hM.half.hh; have := hR.low; omega⟩
      clear hR
      go_wp2_with fail
      refine loop6 hB gv s f wo _ hA _ _ _ _ _ _ _ _ _ _ _ _ _ _ _ _ _ _ _ _ _ _ _ _ _ _ _ _ _ _ _ _ _ _ _ _ _ _ _ _ _ _ _ _ _ _ _ _ _ _ _ _ _ _ _ _ _ _ _ _ _ _ _ _ _ _ _ _ _ _ _ _ _ _ _ _ _ _ _ _ _ _ _ _ _ _ _ _ _ _ _ _ _ _ _ _ _ _ _ _ _ _ _ _ _ _ _ _ _ _ _ _ _ _ _ _ _ _ _ _ _ _ _ _ _ _ _ _ _ _ _ _ _ _ _ _ _ _ _ _ _ _ _ _ _ _ _ _ _ _ _ _ _ _ _ _ _ _ _ _ _ _ _ _ _ _ _ _ _ _ _ _ _ _ _ _ _ _ _ _ _ _ _ _ _ _ _ _ _ _ _ _ _ _ _ _ _ _ _ _ _ _ _ _ _ _ _ _ _ _ _ _ _ _ _ _ _ _ _ _ _ _ _ _ _ _ _ _ _ _ _ _ _ _ _ _ _ _ _ _ _ _ _ _ _ _ _ _ _ _ _ _ _ _ _ _ _ _ _ _ _ _ _ _ _ _ _ _ _ _ _ _ _ ?_
      clear hA
      intro v250 v251 v252 v253 v254 v255 v256 v257 v258 v259 v260 v261 v262 v20 wr hA
      have hq1 : (o : Int) ≤ 1000000200 := by omega
      go_wp2_with fail
      go_roundw
      case rel => exact ⟨q + 1, by have := HLT.out; omega, by rw [← HQ.out], by rw [HB.out, HF.out]; exact hM.next HPos.out hA⟩
      case measure => simp [intOf]; omega
    · replace hM : MainW w P (some ⟨gP, 0, none⟩) c5 hB kB (blocks P (P.length / 64)) wr := by
        obtain rfl : q = P.length / 64 := by omega
        exact hM
      have hge : (P.length : Int) ≤ ((64 * q : Nat) : Int) := by omega
      clear hPL hlt hq
      go_wp2_with fail
      exact HXT.out _ _ _ _ _ _ _ _ _ _ _ _ _ _ _ _ _ _ _ _ _ _ _ _ _ _ _ _ _ _ _ _ _ _ _ _ _ _ _ _ _ _ _ _ _ _ _ _ _ _ _ _ _ _ _ _ _ _ _ _ _ _ _ _ _ _ _ _ _ _ _ _ _ _ _ _ _ _ _ _ _ _ _ _ _ _ _ _ _ _ _ _ _ _ _ _ _ _ _ _ _ _ _ _ _ _ _ _ _ _ _ _ _ _ _ _ _ _ _ _ _ _ _ _ _ _ _ _ _ _ _ _ _ _ _ _ _ _ _ _ _ _ _ _ _ _ _ _ _ _ _ _ _ _ _ _ _ _ _ _ _ _ _ _ _ _ _ _ _ _ _ _ _ _ _ _ _ _ _ _ _ _ _ _ _ _ _ _ _ _ _ _ _ _ _ _ _ _ _ _ _ _ _ _ _ _ _ _ _ _ _ _ _ _ _ _ _ _ _ _ _ _ wr hM
end Go.Proofs.YtheobkepoocamaaGreatDoor
