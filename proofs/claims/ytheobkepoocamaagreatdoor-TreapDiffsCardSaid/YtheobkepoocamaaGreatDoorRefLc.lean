/- The loop of the sums. -/
import Derived.Test.YtheobkepoocamaaGreatDoorRefLems
namespace Go.Proofs.YtheobkepoocamaaGreatDoor
set_option maxRecDepth 100000
open Go.RowKit Sha
attribute [local go_sem 9000] sem_add32 sem_xor32 sem_and32 sem_or32 sem_not32 sem_shr32 sem_shl32 run_w8 run_b8

set_option maxRecDepth 1000000 in
set_option maxHeartbeats 40000000 in
theorem loop6 (hB gv : Nat) (s f : St) (wo wx : World) (hA : AddW hB gv s f 0 wo wx) (Q : Exit → Act → World → Prop)
    (k0 k1 k2 k3 k4 k5 k7 k8 k9 k10 k11 k12 k14 k15 k16 k17 k18 k19 k21 k22 k23 k24 k25 k26 k27 k28 k29 k30 k31 k32 k33 k34 k35 k36 k37 k38 k39 k40 k41 k42 k43 k44 k45 k46 k47 k48 k49 k50 k51 k52 k53 k54 k55 k56 k57 k58 k59 k60 k61 k62 k63 k64 k65 k66 k67 k68 k69 k70 k71 k72 k73 k74 k75 k76 k77 k78 k79 k80 k81 k82 k83 k84 k85 k86 k87 k88 k89 k90 k91 k92 k93 k94 k95 k96 k97 k98 k99 k100 k101 k102 k103 k104 k105 k106 k107 k108 k109 k110 k111 k112 k113 k114 k115 k116 k117 k118 k119 k120 k121 k122 k123 k124 k125 k126 k127 k128 k129 k130 k131 k132 k133 k134 k135 k136 k137 k138 k139 k140 k141 k142 k143 k144 k145 k146 k147 k148 k149 k150 k151 k152 k153 k154 k155 k156 k157 k158 k159 k160 k161 k162 k163 k164 k165 k166 k167 k168 k169 k170 k171 k172 k173 k174 k175 k176 k177 k178 k179 k180 k181 k182 k183 k184 k185 k186 k187 k188 k189 k190 k191 k192 k193 k194 k195 k196 k197 k198 k199 k200 k201 k202 k203 k204 k205 k206 k207 k208 k209 k210 k211 k212 k213 k214 k215 k216 k217 k218 k219 k220 k221 k222 k223 k224 k225 k226 k227 k228 k229 k230 k231 k232 k233 k234 k235 k236 k237 k238 k239 k240 k241 k242 k243 k244 k245 k246 k247 k248 k249 k263 k264 k265 k266 k267 k268 k269 k270 k271 k272 k273 k274 : Value) (v250 v251 v252 v253 v254 v255 v256 v257 v258 v259 v260 v261 v262 : Value)
    (hexit : ∀ (v250 v251 v252 v253 v254 v255 v256 v257 v258 v259 v260 v261 v262 v20 : Value) (wr : World), AddW hB gv s f 8 wo wr → Q (.exit 10) { tmps := #[k0, k1, k2, k3, k4, k5, .pointer (some ⟨hB, 0, none⟩), k7, k8, k9, k10, k11, k12, .pointer (some ⟨gv, 0, none⟩), k14, k15, k16, k17, k18, k19, v20, k21, k22, k23, k24, k25, k26, k27, k28, k29, k30, k31, k32, k33, k34, k35, k36, k37, k38, k39, k40, k41, k42, k43, k44, k45, k46, k47, k48, k49, k50, k51, k52, k53, k54, k55, k56, k57, k58, k59, k60, k61, k62, k63, k64, k65, k66, k67, k68, k69, k70, k71, k72, k73, k74, k75, k76, k77, k78, k79, k80, k81, k82, k83, k84, k85, k86, k87, k88, k89, k90, k91, k92, k93, k94, k95, k96, k97, k98, k99, k100, k101, k102, k103, k104, k105, k106, k107, k108, k109, k110, k111, k112, k113, k114, k115, k116, k117, k118, k119, k120, k121, k122, k123, k124, k125, k126, k127, k128, k129, k130, k131, k132, k133, k134, k135, k136, k137, k138, k139, k140, k141, k142, k143, k144, k145, k146, k147, k148, k149, k150, k151, k152, k153, k154, k155, k156, k157, k158, k159, k160, k161, k162, k163, k164, k165, k166, k167, k168, k169, k170, k171, k172, k173, k174, k175, k176, k177, k178, k179, k180, k181, k182, k183, k184, k185, k186, k187, k188, k189, k190, k191, k192, k193, k194, k195, k196, k197, k198, k199, k200, k201, k202, k203, k204, k205, k206, k207, k208, k209, k210, k211, k212, k213, k214, k215, k216, k217, k218, k219, k220, k221, k222, k223, k224, k225, k226, k227, k228, k229, k230, k231, k232, k233, k234, k235, k236, k237, k238, k239, k240, k241, k242, k243, k244, k245, k246, k247, k248, k249, v250, v251, v252, v253, v254, v255, v256, v257, v258, v259, v260, v261, v262, k263, k264, k265, k266, k267, k268, k269, k270, k271, k272, k273, k274], defers := [] } wr) :
    Code.wp Tryz.prog (.loop (body 5)) Q { tmps := #[k0, k1, k2, k3, k4, k5, .pointer (some ⟨hB, 0, none⟩), k7, k8, k9, k10, k11, k12, .pointer (some ⟨gv, 0, none⟩), k14, k15, k16, k17, k18, k19, .int .i64 0, k21, k22, k23, k24, k25, k26, k27, k28, k29, k30, k31, k32, k33, k34, k35, k36, k37, k38, k39, k40, k41, k42, k43, k44, k45, k46, k47, k48, k49, k50, k51, k52, k53, k54, k55, k56, k57, k58, k59, k60, k61, k62, k63, k64, k65, k66, k67, k68, k69, k70, k71, k72, k73, k74, k75, k76, k77, k78, k79, k80, k81, k82, k83, k84, k85, k86, k87, k88, k89, k90, k91, k92, k93, k94, k95, k96, k97, k98, k99, k100, k101, k102, k103, k104, k105, k106, k107, k108, k109, k110, k111, k112, k113, k114, k115, k116, k117, k118, k119, k120, k121, k122, k123, k124, k125, k126, k127, k128, k129, k130, k131, k132, k133, k134, k135, k136, k137, k138, k139, k140, k141, k142, k143, k144, k145, k146, k147, k148, k149, k150, k151, k152, k153, k154, k155, k156, k157, k158, k159, k160, k161, k162, k163, k164, k165, k166, k167, k168, k169, k170, k171, k172, k173, k174, k175, k176, k177, k178, k179, k180, k181, k182, k183, k184, k185, k186, k187, k188, k189, k190, k191, k192, k193, k194, k195, k196, k197, k198, k199, k200, k201, k202, k203, k204, k205, k206, k207, k208, k209, k210, k211, k212, k213, k214, k215, k216, k217, k218, k219, k220, k221, k222, k223, k224, k225, k226, k227, k228, k229, k230, k231, k232, k233, k234, k235, k236, k237, k238, k239, k240, k241, k242, k243, k244, k245, k246, k247, k248, k249, v250, v251, v252, v253, v254, v255, v256, v257, v258, v259, v260, v261, v262, k263, k264, k265, k266, k267, k268, k269, k270, k271, k272, k273, k274], defers := [] } wx := by
  have HXT := Lib.hid hexit
  clear hexit
  conv => arg 2; arg 1; whnf
  dsimp only
  go_loopw [20] (fun i wr => ∃ k : Nat, k ≤ 8 ∧ i = .int .i64 k ∧ AddW hB gv s f k wo wr) (fun i _ => 8 - (intOf i).toNat)
  case atStart => exact ⟨0, by omega, rfl, hA⟩
  case round =>
    clear hA
    obtain ⟨k, hk, rfl, hA⟩ := hrel
    by_cases hk8 : k < 8
    · have hk0 : (k : Int) < 8 := by omega
      have ca : wr.cell? ⟨hB, k, none⟩ = some (wv (s.get k)) := by
        rw [cell_of_row wr hB k _ _ _ hA.hh, row8_get _ k hk8, mix, if_neg (by omega)]
      have cb : wr.cell? ⟨gv, k, none⟩ = some (wv (f.get k)) := (cell_of_row wr gv k _ _ _ hA.vv).trans (row8_get _ k hk8)
      have hf := frozen_of_row wr hB k _ _ hA.hh
      go_wp2_with fail
      go_still_tail 9, (by kernel_rfl)
      change wpList _ _ _ _ _ wr.drew
      go_wp2_with fail
      go_roundw
      case rel => exact ⟨k + 1, by omega, by go_num, hA.step hk8⟩
      case measure => simp [intOf]; omega
    · have hA2 : AddW hB gv s f 8 wo wr := by
        obtain rfl : k = 8 := by omega
        exact hA
      have hge : (8 : Int) ≤ (k : Int) := by omega
      clear hA hk hk8
      go_wp2_with fail
      exact HXT.out _ _ _ _ _ _ _ _ _ _ _ _ _ _ wr hA2
end Go.Proofs.YtheobkepoocamaaGreatDoor
