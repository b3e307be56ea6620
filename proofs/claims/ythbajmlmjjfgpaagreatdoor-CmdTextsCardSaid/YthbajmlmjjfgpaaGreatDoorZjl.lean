/- CmdTexts: Any command can be written or can't, and has just the document's text; any text is just its command, or none; what was printed is parsed. Conditions: those of the form alone. -/
import Derived.Test.YthbajmlmjjfgpaaGreatDoorTie
import Derived.Test.YthbajmlmjjfgpaaGreatDoorCards
import Derived.SevenTiedAt
import Derived.Test.YthbajmlmjjfgpaaGreatDoorP01
set_option maxRecDepth 1000000
open Go.Proofs.Tryz
namespace Go.Proofs.YthbajmlmjjfgpaaGreatDoor
open Go.ChangeShapes Go.WideShapes Go.ChangeAt Go.WideMaps Go.WideElems Go.RowKit Go.Joins Go.Deep
open Go.ChangeMaps (open_string shut_string)
theorem cmdTexts_lifted (os : Os) (started : os.Started) (H : Type) (enc : TypeId × Value -> H) :
  ReturnsInHanded {} Tryz.checked os 3 .any (λw args => (Rows.cmdTextsSpec.pre enc prog Tryz.f3 [] false w args /\ laidMetH prog Rows.cmdTextsRow.laid w) /\ sizedMet enc prog Tryz.f3 (OpenSpec.ofChange Rows.cmdTextsSpec) false w args)
   (Rows.cmdTextsSpec.post enc prog Tryz.f3 false true false false) := by
 refine returnsInHanded_of_change_and (C := Tryz.checked) (X := λw _ => laidMetH prog Rows.cmdTextsRow.laid w) (λ_ _ _ hh h => h.of_heap hh) own started (by kernel_rfl) func3
  (ChangeSpec.witness_shaped (enc := enc) (C := Tryz.checked) (os := os) (X := λw _ => laidMetH prog Rows.cmdTextsRow.laid w) false (World.laidAll prog os Rows.cmdTextsRow.laid) #[.agg #[.int .i64 0, .int .i64 0, .int .i64 0, .int .i64 0, .int .i64 0, .int .i64 0, .string ⟨#[]⟩, .string ⟨#[]⟩], .int .i64 0, .string ⟨#[]⟩] 8 (World.laidAll_os _ _ _)
   (World.shaped_of_ZipB (by kernel_rfl) (by kernel_rfl)) (by kernel_rfl) (by kernel_rfl) (by kernel_rfl)
   (by rw [MakeChecks.laidMetH_plain _ _ _ (by kernel_rfl)]; exact laidMet_laidAll _ (by kernel_rfl) (by kernel_rfl))) ?_
 intro W base args ds gs before hval0 hW _ hsz0 hL _
 have hsz : (DataW.weightsEach prog (Tryz.f3.params.toList ++ Rows.cmdTextsSpec.plain.varTypes prog) (ds ++ gs)).all (· <= reachBytes) = true := hsz0
 clear hsz0
 have hval : ∀ (j : Nat) t v, Tryz.f3.params[j]? = some t -> args[j]? = some v -> Value.okWide prog W .any base t v := hval0
 have hW' := hW
 obtain ⟨p, q, hA0, hV, rfl, hfz, hnd⟩ := hW
 have hA : DataW.TrodAll enc prog W 0 (λ_ => true) true Tryz.f3.params.toList args.toList ds p := hA0
 rw [Tryz.params3] at hA hval hsz
 obtain ⟨v0, v1, v2, d0, d1, d2, p0, p1, p2, rfl, rfl, rfl, h0, h1, h2⟩ := trodAll_three hA
 obtain ⟨rfl, rfl⟩ := trodVars_none hV
 rw [MakeChecks.laidMetH_plain _ _ _ (by kernel_rfl)] at hL
 have hDg := of_laid hL (by kernel_rfl) (by kernel_rfl) (by kernel_rfl) (by kernel_rfl)
 have hTn := tn_of hL.tail.tail (by kernel_rfl) (by kernel_rfl)
 have h0k := h0
 obtain ⟨⟨x00, x01, x02, x03, x04, x05, x06, x07⟩, rfl, hq0⟩ := cmd_open hsz (j := 0) rfl rfl (hval 0 23 v0 rfl rfl) h0
 obtain ⟨z1, rfl, rfl, rfl, hz1⟩ := open_int underlying3 (hval 1 3 v1 rfl rfl) h1
 obtain ⟨s2, rfl, rfl, rfl, hs2⟩ := open_string underlying9 (hval 2 9 v2 rfl rfl) h2
 clear hA0 hval0
 simp only [List.append_nil] at hW'
 refine (cmdTexts_any x00 x01 x02 x03 x04 x05 x06 x07 s2 z1 W (bounded (sized_string hsz (j := 2) (t := 9) rfl rfl)) hDg hTn).mono ?_
 rintro e W2 ⟨rfl, hn⟩
 have hlt0 : ∀ x ∈ p0, x.block < W.heap.size := λx hx => by simpa using hW'.lt x (by simp [hx])
 refine ⟨_, rfl, _, _, _, [], p0, [], hW', trodAll_mk1 (shut_bool underlying4 _), ?_, rfl, hn.frame _, λh => by cases h⟩
 have := trodAll_mk3 (Below.trod laidOut (by kernel_rfl) (of_decide_eq_true (by kernel_rfl)) h0k hn hlt0) (shut_int (enc := enc) underlying3 hz1) (shut_string (enc := enc) underlying9 hs2)
 simp only [List.append_nil] at this
 exact this
theorem cmdTexts_place : (Rows.cmdTextsRow.inPlace == prog.inPlace 3) = true := by kernel_rfl
theorem cmdTexts_follow : (Rows.cmdTextsRow.unfollowed == prog.unfollowed 3) = true := by kernel_rfl
theorem cmdTexts_recurs : (Rows.cmdTextsRow.recurses == prog.recurses 3) = true := by kernel_rfl
theorem cmdTexts_vars : (Rows.cmdTextsRow.named == prog.varsNamed 3) = true := by kernel_rfl
theorem cmdTexts_goes : false = Rows.cmdTextsRow.goesBy Tryz.pinned.checked.prog := by kernel_rfl
theorem cmdTexts_closed : joinedFacts Tryz.pinned.checked.prog 3 Tryz.f3 Rows.cmdTextsSpec Rows.cmdTextsRow = true := by
 show joinedFacts prog 3 Tryz.f3 Rows.cmdTextsSpec Rows.cmdTextsRow = true
 unfold joinedFacts
 rw [cmdTexts_place, cmdTexts_follow, cmdTexts_recurs, cmdTexts_vars]
 kernel_rfl
theorem cmdTexts_named : Tryz.pinned.checked.prog.funcNamed Rows.cmdTextsRow.func = some 3 := by kernel_rfl
theorem cmdTexts_inst : Tryz.f3.isInstance Tryz.pinned.checked.prog Rows.cmdTextsRow.origin Rows.cmdTextsRow.targs := of_decide_eq_true (by kernel_rfl)
theorem cmdTexts_wrap : Tryz.f3.isWrapper Tryz.pinned.checked.prog Rows.cmdTextsRow.wrapper Rows.cmdTextsRow.mainSum := by
 unfold Func.isWrapper
 first | (rw [if_pos (by decide +kernel)]; kernel_rfl) | (rw [if_neg (by decide +kernel)]; exact ⟨rfl, rfl⟩)
theorem cmdTexts_holds : Rows.CmdTextsSaid :=
 OpenClaim.holds_of_wide 3 Tryz.f3 rfl rfl rfl rfl rfl rfl rfl ⟨rfl, rfl, rfl, rfl, rfl⟩ rfl rfl rfl rfl rfl cmdTexts_named func3 cmdTexts_closed cmdTexts_inst cmdTexts_wrap
  (λos started H enc _ => cmdTexts_lifted os started H enc)
theorem cmdTexts_card : Rows.CmdTextsCardSaid :=
 Claim7.holds_tied_plain_at .later [] [.data, .data, .data] true Rows.cmdTextsCard.stood.harness false
  cmdTexts_holds (λ_ h => by cases h) (by kernel_rfl) (λ_ h => by cases h) cmdTexts_row_tie rfl ⟨rfl, rfl⟩ (by kernel_rfl) rfl
  (λf fn hf hfn => by
   obtain rfl : f = 3 := Option.some.inj ((show prog.funcNamed Rows.cmdTextsRow.func = some 3 by kernel_rfl).symm.trans hf) |>.symm
   obtain rfl : fn = Tryz.f3 := (Option.some.inj (func3.symm.trans hfn)).symm
   exact ⟨by kernel_rfl, λj t ht => by
    rw [Tryz.params3] at ht
    have hm : t ∈ [23, 3, 9] := by simpa using Array.mem_of_getElem? ht
    have hall : ([23, 3, 9].all λu => !Tryz.prog.wantsStandIn u) = true := by kernel_rfl
    exact (show prog.wantsStandIn t = false by simpa using List.all_eq_true.1 hall t hm)⟩)
  cmdTexts_goes
#print axioms cmdTexts_card
end Go.Proofs.YthbajmlmjjfgpaaGreatDoor
