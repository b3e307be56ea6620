/- The loop of the words of a block. -/
import Derived.Test.YtheobkepoocamaaGreatDoorRefLems
namespace Go.Proofs.YtheobkepoocamaaGreatDoor
set_option maxRecDepth 100000
open Go.RowKit Sha
attribute [local go_sem 9000] sem_add32 sem_xor32 sem_and32 sem_or32 sem_not32 sem_shr32 sem_shl32 run_w8 run_b8

set_option maxRecDepth 1000000 in
set_option maxHeartbeats 40000000 in
theorem loop4 (w : World) (P : List UInt8) (gP c5 o hB kB : Nat) (s : St) (hP1 : (P.length : Int) ≤ 1000000200) (h64 : o + 64 ≤ P.length) (wo wx : World) (hwx : OwnW wo.heap.size (part (fun i => P.getD (o + i) 0) 0) wo wx) (hM : MainW w P (some ⟨gP, 0, none⟩) c5 hB kB s wo) (Q : Exit → Act → World → Prop)
    (k0 k1 k2 k4 k5 k6 k7 k13 k14 k15 k16 k17 k18 k19 k20 k21 k22 k23 k24 k25 k26 k27 k28 k29 k30 k31 k32 k33 k34 k35 k36 k37 k38 k39 k40 k41 k42 k43 k44 k45 k46 k47 k48 k49 k50 k51 k52 k53 k54 k55 k56 k57 k58 k59 k158 k159 k160 k161 k162 k163 k164 k165 k166 k167 k168 k169 k170 k171 k172 k173 k174 k175 k176 k177 k178 k179 k180 k181 k182 k183 k184 k185 k186 k187 k188 k189 k190 k191 k192 k193 k194 k195 k196 k197 k198 k199 k200 k201 k202 k203 k204 k205 k206 k207 k208 k209 k210 k211 k212 k213 k214 k215 k216 k217 k218 k219 k220 k221 k222 k223 k224 k225 k226 k227 k228 k229 k230 k231 k232 k233 k234 k235 k236 k237 k238 k239 k240 k241 k242 k243 k244 k245 k246 k247 k248 k249 k250 k251 k252 k253 k254 k255 k256 k257 k258 k259 k260 k261 k262 k263 k264 k265 k266 k267 k268 k269 k270 k271 k272 k273 k274 : Value) (v11 v12 v60 v61 v62 v63 v64 v65 v66 v67 v68 v69 v70 v71 v72 v73 v74 v75 v76 v77 v78 v79 v80 v81 v82 v83 v84 v85 v86 v87 v88 v89 v90 v91 v92 v93 v94 v95 v96 v97 v98 v99 v100 v101 v102 v103 v104 v105 v106 v107 v108 v109 v110 v111 v112 v113 v114 v115 v116 v117 v118 v119 v120 v121 v122 v123 v124 v125 v126 v127 v128 v129 v130 v131 v132 v133 v134 v135 v136 v137 v138 v139 v140 v141 v142 v143 v144 v145 v146 v147 v148 v149 v150 v151 v152 v153 v154 v155 v156 v157 : Value)
    (hexit : ∀ (v11 v12 v60 v61 v62 v63 v64 v65 v66 v67 v68 v69 v70 v71 v72 v73 v74 v75 v76 v77 v78 v79 v80 v81 v82 v83 v84 v85 v86 v87 v88 v89 v90 v91 v92 v93 v94 v95 v96 v97 v98 v99 v100 v101 v102 v103 v104 v105 v106 v107 v108 v109 v110 v111 v112 v113 v114 v115 v116 v117 v118 v119 v120 v121 v122 v123 v124 v125 v126 v127 v128 v129 v130 v131 v132 v133 v134 v135 v136 v137 v138 v139 v140 v141 v142 v143 v144 v145 v146 v147 v148 v149 v150 v151 v152 v153 v154 v155 v156 v157 v10 : Value) (wr : World), OwnW wo.heap.size (part (fun i => P.getD (o + i) 0) 64) wo wr → Q (.exit 6) { tmps := #[k0, k1, k2, .slice (some ⟨gP, 0, none⟩) P.length c5, k4, k5, k6, k7, .int .i64 (o : Int), .pointer (some ⟨wo.heap.size, 0, none⟩), v10, v11, v12, k13, k14, k15, k16, k17, k18, k19, k20, k21, k22, k23, k24, k25, k26, k27, k28, k29, k30, k31, k32, k33, k34, k35, k36, k37, k38, k39, k40, k41, k42, k43, k44, k45, k46, k47, k48, k49, k50, k51, k52, k53, k54, k55, k56, k57, k58, k59, v60, v61, v62, v63, v64, v65, v66, v67, v68, v69, v70, v71, v72, v73, v74, v75, v76, v77, v78, v79, v80, v81, v82, v83, v84, v85, v86, v87, v88, v89, v90, v91, v92, v93, v94, v95, v96, v97, v98, v99, v100, v101, v102, v103, v104, v105, v106, v107, v108, v109, v110, v111, v112, v113, v114, v115, v116, v117, v118, v119, v120, v121, v122, v123, v124, v125, v126, v127, v128, v129, v130, v131, v132, v133, v134, v135, v136, v137, v138, v139, v140, v141, v142, v143, v144, v145, v146, v147, v148, v149, v150, v151, v152, v153, v154, v155, v156, v157, k158, k159, k160, k161, k162, k163, k164, k165, k166, k167, k168, k169, k170, k171, k172, k173, k174, k175, k176, k177, k178, k179, k180, k181, k182, k183, k184, k185, k186, k187, k188, k189, k190, k191, k192, k193, k194, k195, k196, k197, k198, k199, k200, k201, k202, k203, k204, k205, k206, k207, k208, k209, k210, k211, k212, k213, k214, k215, k216, k217, k218, k219, k220, k221, k222, k223, k224, k225, k226, k227, k228, k229, k230, k231, k232, k233, k234, k235, k236, k237, k238, k239, k240, k241, k242, k243, k244, k245, k246, k247, k248, k249, k250, k251, k252, k253, k254, k255, k256, k257, k258, k259, k260, k261, k262, k263, k264, k265, k266, k267, k268, k269, k270, k271, k272, k273, k274], defers := [] } wr) :
    Code.wp Tryz.prog (.loop (body 3)) Q { tmps := #[k0, k1, k2, .slice (some ⟨gP, 0, none⟩) P.length c5, k4, k5, k6, k7, .int .i64 (o : Int), .pointer (some ⟨wo.heap.size, 0, none⟩), .int .i64 0, v11, v12, k13, k14, k15, k16, k17, k18, k19, k20, k21, k22, k23, k24, k25, k26, k27, k28, k29, k30, k31, k32, k33, k34, k35, k36, k37, k38, k39, k40, k41, k42, k43, k44, k45, k46, k47, k48, k49, k50, k51, k52, k53, k54, k55, k56, k57, k58, k59, v60, v61, v62, v63, v64, v65, v66, v67, v68, v69, v70, v71, v72, v73, v74, v75, v76, v77, v78, v79, v80, v81, v82, v83, v84, v85, v86, v87, v88, v89, v90, v91, v92, v93, v94, v95, v96, v97, v98, v99, v100, v101, v102, v103, v104, v105, v106, v107, v108, v109, v110, v111, v112, v113, v114, v115, v116, v117, v118, v119, v120, v121, v122, v123, v124, v125, v126, v127, v128, v129, v130, v131, v132, v133, v134, v135, v136, v137, v138, v139, v140, v141, v142, v143, v144, v145, v146, v147, v148, v149, v150, v151, v152, v153, v154, v155, v156, v157, k158, k159, k160, k161, k162, k163, k164, k165, k166, k167, k168, k169, k170, k171, k172, k173, k174, k175, k176, k177, k178, k179, k180, k181, k182, k183, k184, k185, k186, k187, k188, k189, k190, k191, k192, k193, k194, k195, k196, k197, k198, k199, k200, k201, k202, k203, k204, k205, k206, k207, k208, k209, k210, k211, k212, k213, k214, k215, k216, k217, k218, k219, k220, k221, k222, k223, k224, k225, k226, k227, k228, k229, k230, k231, k232, k233, k234, k235, k236, k237, k238, k239, k240, k241, k242, k243, k244, k245, k246, k247, k248, k249, k250, k251, k252, k253, k254, k255, k256, k257, k258, k259, k260, k261, k262, k263, k264, k265, k266, k267, k268, k269, k270, k271, k272, k273, k274], defers := [] } wx := by
  have HXT := Lib.hid hexit
  have hqq : (0 : Int) ≤ (o : Int) := by omega
  have hq0 : (o : Int) < (P.length : Int) := by omega
  clear hexit
  conv => arg 2; arg 1; whnf
  dsimp only
  go_loopw [10] (fun i wr => ∃ t : Nat, t ≤ 64 ∧ i = .int .i64 t ∧ OwnW wo.heap.size (part (fun i => P.getD (o + i) 0) t) wo wr) (fun i _ => 64 - (intOf i).toNat)
  case atStart => exact ⟨0, by omega, rfl, hwx⟩
  case round =>
    obtain ⟨t, ht, rfl, hr⟩ := hrel
    by_cases ht64 : t < 64
    · by_cases ht16 : t < 16
      · have hb := fun j (hj : j < 64) => (hM.half.pad.under hr.below (o + j) (by omega))
        have b0 := hb (4 * t) (by omega)
        have b1 := hb (4 * t + 1) (by omega)
        have b2 := hb (4 * t + 2) (by omega)
        have b3 := hb (4 * t + 3) (by omega)
        rw [← Nat.add_assoc] at b1 b2 b3
        have hwv := ref_first P o t ht16
        generalize hmm : (fun i => P.getD (o + i) 0) = m at hr hwv ⊢
        have HMM := Lib.hid hmm
        clear hmm
        rw [← Nat.add_assoc, ← Nat.add_assoc, ← Nat.add_assoc] at hwv
        have hx0 : ((o : Int) + 4 * (t : Int)) = ((o + 4 * t : Nat) : Int) := by omega
        have hx1 : o + 4 * t + 4 ≤ P.length := by omega
        generalize o + 4 * t = i1 at b0 b1 b2 b3 hx0 hx1 hwv
        simp only [List.getD_eq_getElem?_getD] at hwv
        have HW := Lib.hid hwv
        clear hwv
        have e0 : IntKind.i64.wrap (4 * (t : Int)) = 4 * (t : Int) := IntWalk.i64_in _ (by omega)
        have e1 : IntKind.i64.wrap ((o : Int) + 4 * (t : Int)) = (i1 : Int) := by rw [← hx0]; exact IntWalk.i64_in _ (by omega)
        have e2 : IntKind.i64.wrap ((i1 : Int) + 1) = (i1 : Int) + 1 := IntWalk.i64_in _ (by omega)
        have e3 : IntKind.i64.wrap ((i1 : Int) + 2) = (i1 : Int) + 2 := IntWalk.i64_in _ (by omega)
        have e4 : IntKind.i64.wrap ((i1 : Int) + 3) = (i1 : Int) + 3 := IntWalk.i64_in _ (by omega)
        have l0 : (i1 : Int) < (P.length : Int) := by omega
        have l1 : (i1 : Int) + 1 < (P.length : Int) := by omega
        have l2 : (i1 : Int) + 2 < (P.length : Int) := by omega
        have l3 : (i1 : Int) + 3 < (P.length : Int) := by omega
        have m0 : i1 < P.length := by omega
        have m1 : i1 + 1 < P.length := by omega
        have m2 : i1 + 2 < P.length := by omega
        have m3 : i1 + 3 < P.length := by omega
        have ht0 : (t : Int) < 64 := by omega
        have ht1 : (t : Int) < 16 := by omega
        have hd := hr.cell t ht64
        have hf := hr.free t
        have t1 : ((i1 : Int) + 1).toNat = i1 + 1 := by omega
        have t2 : ((i1 : Int) + 2).toNat = i1 + 2 := by omega
        have t3 : ((i1 : Int) + 3).toNat = i1 + 3 := by omega
        have n1 : (0 : Int) ≤ (i1 : Int) + 1 := by omega
        have n2 : (0 : Int) ≤ (i1 : Int) + 2 := by omega
        have n3 : (0 : Int) ≤ (i1 : Int) + 3 := by omega
        clear hx0 hb
        go_wp2_with fail
        go_still_tail 43, (by kernel_rfl)
        clear e0 e1 e2 e3 e4 t1 t2 t3
        change wpList _ _ _ _ _ wr.drew
        go_wp2_with fail
        go_roundw
        case rel => exact ⟨t + 1, by omega, by go_num, hr.step _ (by have h := HW.out; rw [List.getElem?_eq_getElem m0, List.getElem?_eq_getElem m1, List.getElem?_eq_getElem m2, List.getElem?_eq_getElem m3] at h; exact h)⟩
        case measure => simp [intOf]; omega
      · have ht16' : 16 ≤ t := by omega
        generalize hmm : (fun i => P.getD (o + i) 0) = m at hr ⊢
        have HMM := Lib.hid hmm
        clear hmm
        have p15 : part m t (t - 15) = wd m (t - 15) := if_pos (by omega)
        have p2 : part m t (t - 2) = wd m (t - 2) := if_pos (by omega)
        have c15 := hr.cell (t - 15) (by omega)
        have c2' := hr.cell (t - 2) (by omega)
        rw [p15] at c15
        rw [p2] at c2'
        clear p15 p2
        have hi15 : (0 : Int) ≤ (t : Int) - 15 := by omega
        have hj15 : (t : Int) - 15 < 64 := by omega
        have hi2 : (0 : Int) ≤ (t : Int) - 2 := by omega
        have hj2 : (t : Int) - 2 < 64 := by omega
        have ht0 : (t : Int) < 64 := by omega
        have ht1 : (16 : Int) ≤ (t : Int) := by omega
        have g15 : (15 : Int) ≤ (t : Int) := by omega
        have g2 : (2 : Int) ≤ (t : Int) := by omega
        go_wp2_with fail
        go_quiet ((go_at_call 80; exact Calls.quiet_of_same (turn_q _ _ _ (by omega) (by omega))))
        replace hr := hr.drewN nq
        clear c15 c2'
        generalize World.drewN wr nq = wq at hr ⊢
        have p2 : part m t (t - 2) = wd m (t - 2) := if_pos (by omega)
        have c2' := hr.cell (t - 2) (by omega)
        rw [p2] at c2'
        clear p2
        go_wp2_with fail
        go_quiet ((go_at_call 80; exact Calls.quiet_of_same (turn_q _ _ _ (by omega) (by omega))))
        replace hr := hr.drewN nq
        clear c2'
        generalize World.drewN wq nq = wz at hr ⊢
        have p16 : part m t (t - 16) = wd m (t - 16) := if_pos (by omega)
        have p7 : part m t (t - 7) = wd m (t - 7) := if_pos (by omega)
        have c16 := hr.cell (t - 16) (by omega)
        have c7 := hr.cell (t - 7) (by omega)
        rw [p16] at c16
        rw [p7] at c7
        clear p16 p7
        have hd := hr.cell t ht64
        have hf := hr.free t
        have hi16 : (0 : Int) ≤ (t : Int) - 16 := by omega
        have hj16 : (t : Int) - 16 < 64 := by omega
        have hi7 : (0 : Int) ≤ (t : Int) - 7 := by omega
        have hj7 : (t : Int) - 7 < 64 := by omega
        have g7 : (7 : Int) ≤ (t : Int) := by omega
        go_wp2_with fail
        have e16 : IntKind.i64.wrap ((t : Int) - 16) = (t : Int) - 16 := IntWalk.i64_in _ (by omega)
        have e7 : IntKind.i64.wrap ((t : Int) - 7) = (t : Int) - 7 := IntWalk.i64_in _ (by omega)
        have t16 : ((t : Int) - 16).toNat = t - 16 := by omega
        have t7 : ((t : Int) - 7).toNat = t - 7 := by omega
        go_still_tail 15, (by kernel_rfl)
        clear e16 e7 t16 t7
        change wpList _ _ _ _ _ wz.drew
        go_wp2_with fail
        go_roundw
        case rel => exact ⟨t + 1, by omega, by go_num, hr.step _ (by rw [wd_next m t ht16']; exact next_comm _ _ _ _)⟩
        case measure => simp [intOf]; omega
    · have hr2 : OwnW wo.heap.size (part (fun i => P.getD (o + i) 0) 64) wo wr := by
        obtain rfl : t = 64 := by omega
        exact hr
      have hge : (64 : Int) ≤ (t : Int) := by omega
      clear hr ht ht64
      go_wp2_with fail
      exact HXT.out _ _ _ _ _ _ _ _ _ _ _ _ _ _ _ _ _ _ _ _ _ _ _ _ _ _ _ _ _ _ _ _ _ _ _ _ _ _ _ _ _ _ _ _ _ _ _ _ _ _ _ _ _ _ _ _ _ _ _ _ _ _ _ _ _ _ _ _ _ _ _ _ _ _ _ _ _ _ _ _ _ _ _ _ _ _ _ _ _ _ _ _ _ _ _ _ _ _ _ _ _ wr hr2
end Go.Proofs.YtheobkepoocamaaGreatDoor
