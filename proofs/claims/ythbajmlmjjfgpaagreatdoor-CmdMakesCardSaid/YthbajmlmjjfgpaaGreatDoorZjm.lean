/- CmdMakes: A file, a directory and a link that commands make are those that operations make: the same map comes of both. Conditions: those of the form alone. -/
import Derived.Test.YthbajmlmjjfgpaaGreatDoorTie
import Derived.Test.YthbajmlmjjfgpaaGreatDoorCards
import Derived.SevenTiedAt
import Derived.Test.YthbajmlmjjfgpaaGreatDoorA00
set_option maxRecDepth 1000000
open Go.Proofs.Tryz
namespace Go.Proofs.YthbajmlmjjfgpaaGreatDoor
open Go.ChangeShapes Go.WideShapes Go.ChangeAt Go.WideMaps Go.WideElems Go.RowKit Go.Joins Go.Deep
open Go.ChangeMaps (open_string shut_string)
section
variable {H : Type} {enc : TypeId × Value -> H} {P : Program} {w : World} {base : Nat} {spare : Nat -> Bool} {held : Bool}
theorem trodAll_five {t0 t1 t2 t3 t4 : TypeId} {args : Array Value} {ds : List (DataW H)} {ps : List MemPlace} (h : DataW.TrodAll enc P w base spare held [t0, t1, t2, t3, t4] args.toList ds ps) :
  ∃ v0 v1 v2 v3 v4 d0 d1 d2 d3 d4 p0 p1 p2 p3 p4, args = #[v0, v1, v2, v3, v4] /\ ds = [d0, d1, d2, d3, d4] /\ ps = p0 ++ p1 ++ p2 ++ p3 ++ p4 /\ DataW.Trod enc P w base spare held t0 v0 d0 p0 /\ DataW.Trod enc P w base spare held t1 v1 d1 p1 /\ DataW.Trod enc P w base spare held t2 v2 d2 p2 /\ DataW.Trod enc P w base spare held t3 v3 d3 p3 /\ DataW.Trod enc P w base spare held t4 v4 d4 p4 := by
 obtain ⟨v0, vs0, d0, ds0, p0, q0, hargs, rfl, rfl, h0, r0⟩ := trodAll_cons h
 obtain ⟨v1, vs1, d1, ds1, p1, q1, rfl, rfl, rfl, h1, r1⟩ := trodAll_cons r0
 obtain ⟨v2, vs2, d2, ds2, p2, q2, rfl, rfl, rfl, h2, r2⟩ := trodAll_cons r1
 obtain ⟨v3, vs3, d3, ds3, p3, q3, rfl, rfl, rfl, h3, r3⟩ := trodAll_cons r2
 obtain ⟨v4, vs4, d4, ds4, p4, q4, rfl, rfl, rfl, h4, r4⟩ := trodAll_cons r3
 obtain ⟨rfl, rfl, rfl⟩ := trodAll_nil r4
 exact ⟨v0, v1, v2, v3, v4, d0, d1, d2, d3, d4, p0, p1, p2, p3, p4, by cases args; simp_all, rfl, by simp, h0, h1, h2, h3, h4⟩
theorem trodAll_mk5 {t0 t1 t2 t3 t4 : TypeId} {v0 v1 v2 v3 v4 : Value} {d0 d1 d2 d3 d4 : DataW H} {p0 p1 p2 p3 p4 : List MemPlace} (h0 : DataW.Trod enc P w base spare held t0 v0 d0 p0) (h1 : DataW.Trod enc P w base spare held t1 v1 d1 p1) (h2 : DataW.Trod enc P w base spare held t2 v2 d2 p2) (h3 : DataW.Trod enc P w base spare held t3 v3 d3 p3) (h4 : DataW.Trod enc P w base spare held t4 v4 d4 p4) : DataW.TrodAll enc P w base spare held [t0, t1, t2, t3, t4] [v0, v1, v2, v3, v4] [d0, d1, d2, d3, d4] (p0 ++ (p1 ++ (p2 ++ (p3 ++ p4)))) := ⟨p0, p1 ++ (p2 ++ (p3 ++ p4)), h0, trodAll_mk4 h1 h2 h3 h4, rfl⟩
end
theorem cmdMakes_lifted (os : Os) (started : os.Started) (H : Type) (enc : TypeId × Value -> H) :
  ReturnsInHanded {} Tryz.checked os 5 .any (λw args => (Rows.cmdMakesSpec.pre enc prog Tryz.f5 [] false w args /\ laidMetH prog Rows.cmdMakesRow.laid w) /\ sizedMet enc prog Tryz.f5 (OpenSpec.ofChange Rows.cmdMakesSpec) false w args)
   (Rows.cmdMakesSpec.post enc prog Tryz.f5 false true false false) := by
 refine returnsInHanded_of_change_and (C := Tryz.checked) (X := λw _ => laidMetH prog Rows.cmdMakesRow.laid w) (λ_ _ _ hh h => h.of_heap hh) own started (by kernel_rfl) func5
  (ChangeSpec.witness_shaped (enc := enc) (C := Tryz.checked) (os := os) (X := λw _ => laidMetH prog Rows.cmdMakesRow.laid w) false (World.laidAll prog os Rows.cmdMakesRow.laid) #[.slice none 0 0, .string ⟨#[]⟩, .int .i64 0, .int .i64 0, .string ⟨#[]⟩] 8 (World.laidAll_os _ _ _)
   (World.shaped_of_ZipB (by kernel_rfl) (by kernel_rfl)) (by kernel_rfl) (by kernel_rfl) (by kernel_rfl)
   (by rw [MakeChecks.laidMetH_plain _ _ _ (by kernel_rfl)]; exact laidMet_laidAll _ (by kernel_rfl) (by kernel_rfl))) ?_
 intro W base args ds gs before hval0 hW _ hsz0 hL _
 have hsz : (DataW.weightsEach prog (Tryz.f5.params.toList ++ Rows.cmdMakesSpec.plain.varTypes prog) (ds ++ gs)).all (· <= reachBytes) = true := hsz0
 clear hsz0
 have hval : ∀ (j : Nat) t v, Tryz.f5.params[j]? = some t -> args[j]? = some v -> Value.okWide prog W .any base t v := hval0
 have hW' := hW
 obtain ⟨p, q, hA0, hV, rfl, hfz, hnd⟩ := hW
 have hA : DataW.TrodAll enc prog W 0 (λ_ => true) true Tryz.f5.params.toList args.toList ds p := hA0
 rw [Tryz.params5] at hA hval hsz
 obtain ⟨v0, v1, v2, v3, v4, d0, d1, d2, d3, d4, p0, p1, p2, p3, p4, rfl, rfl, rfl, h0, h1, h2, h3, h4⟩ := trodAll_five hA
 obtain ⟨rfl, rfl⟩ := trodVars_none hV
 rw [MakeChecks.laidMetH_plain _ _ _ (by kernel_rfl)] at hL
 have hDg := of_laid hL (by kernel_rfl) (by kernel_rfl) (by kernel_rfl) (by kernel_rfl)
 have hTn := tn_of hL.tail.tail (by kernel_rfl) (by kernel_rfl)
 have h0k := h0
 obtain ⟨a0, n0, c0, rfl⟩ := okWide_slice underlying38 (hval 0 38 v0 rfl rfl)
 obtain ⟨fuel0, hf0⟩ := h0
 obtain ⟨a', n', c', l0, he, hO0, hn0⟩ := ops_open (show DataW.trod enc prog W 0 (λ_ => true) true fuel0 38 [.slice a0 n0 c0] = some (d0, p0) from hf0) (λx hx => of_decide_eq_true (List.all_eq_true.1 hsz _ (DataW.weights_mem_each (j := 0) rfl rfl x hx)))
 injection he with e1 e2 e3
 subst e1 e2 e3
 obtain ⟨s1, rfl, rfl, rfl, hs1⟩ := open_string underlying9 (hval 1 9 v1 rfl rfl) h1
 obtain ⟨z2, rfl, rfl, rfl, hz2⟩ := open_int underlying3 (hval 2 3 v2 rfl rfl) h2
 obtain ⟨z3, rfl, rfl, rfl, hz3⟩ := open_int underlying3 (hval 3 3 v3 rfl rfl) h3
 obtain ⟨s4, rfl, rfl, rfl, hs4⟩ := open_string underlying9 (hval 4 9 v4 rfl rfl) h4
 clear hA0 hval0
 simp only [List.append_nil] at hW'
 refine (cmdMakes_any a0 n0 c0 l0 s1 s4 z2 z3 W hO0 hn0 (bounded (sized_string hsz (j := 1) (t := 9) rfl rfl)) (bounded (sized_string hsz (j := 4) (t := 9) rfl rfl)) (i64_le hz2) (i64_le hz3) hDg hTn).mono ?_
 rintro e W2 ⟨rfl, hn⟩
 have hlt0 : ∀ x ∈ p0, x.block < W.heap.size := λx hx => by simpa using hW'.lt x (by simp [hx])
 refine ⟨_, rfl, _, _, _, [], p0, [], hW', trodAll_mk1 (shut_bool underlying4 _), ?_, rfl, hn.frame _, λh => by cases h⟩
 have := trodAll_mk5 (Below.trod laidOut (by kernel_rfl) (of_decide_eq_true (by kernel_rfl)) h0k hn hlt0) (shut_string (enc := enc) underlying9 hs1) (shut_int (enc := enc) underlying3 hz2) (shut_int (enc := enc) underlying3 hz3) (shut_string (enc := enc) underlying9 hs4)
 simp only [List.append_nil] at this
 exact this
theorem cmdMakes_place : (Rows.cmdMakesRow.inPlace == prog.inPlace 5) = true := by kernel_rfl
theorem cmdMakes_follow : (Rows.cmdMakesRow.unfollowed == prog.unfollowed 5) = true := by kernel_rfl
theorem cmdMakes_recurs : (Rows.cmdMakesRow.recurses == prog.recurses 5) = true := by kernel_rfl
theorem cmdMakes_vars : (Rows.cmdMakesRow.named == prog.varsNamed 5) = true := by kernel_rfl
theorem cmdMakes_goes : false = Rows.cmdMakesRow.goesBy Tryz.pinned.checked.prog := by kernel_rfl
theorem cmdMakes_closed : joinedFacts Tryz.pinned.checked.prog 5 Tryz.f5 Rows.cmdMakesSpec Rows.cmdMakesRow = true := by
 show joinedFacts prog 5 Tryz.f5 Rows.cmdMakesSpec Rows.cmdMakesRow = true
 unfold joinedFacts
 rw [cmdMakes_place, cmdMakes_follow, cmdMakes_recurs, cmdMakes_vars]
 kernel_rfl
theorem cmdMakes_named : Tryz.pinned.checked.prog.funcNamed Rows.cmdMakesRow.func = some 5 := by kernel_rfl
theorem cmdMakes_inst : Tryz.f5.isInstance Tryz.pinned.checked.prog Rows.cmdMakesRow.origin Rows.cmdMakesRow.targs := of_decide_eq_true (by kernel_rfl)
theorem cmdMakes_wrap : Tryz.f5.isWrapper Tryz.pinned.checked.prog Rows.cmdMakesRow.wrapper Rows.cmdMakesRow.mainSum := by
 unfold Func.isWrapper
 first | (rw [if_pos (by decide +kernel)]; kernel_rfl) | (rw [if_neg (by decide +kernel)]; exact ⟨rfl, rfl⟩)
theorem cmdMakes_holds : Rows.CmdMakesSaid :=
 OpenClaim.holds_of_wide 5 Tryz.f5 rfl rfl rfl rfl rfl rfl rfl ⟨rfl, rfl, rfl, rfl, rfl⟩ rfl rfl rfl rfl rfl cmdMakes_named func5 cmdMakes_closed cmdMakes_inst cmdMakes_wrap
  (λos started H enc _ => cmdMakes_lifted os started H enc)
theorem cmdMakes_card : Rows.CmdMakesCardSaid :=
 Claim7.holds_tied_plain_at .later [] [.data, .data, .data] true Rows.cmdMakesCard.stood.harness false
  cmdMakes_holds (λ_ h => by cases h) (by kernel_rfl) (λ_ h => by cases h) cmdMakes_row_tie rfl ⟨rfl, rfl⟩ (by kernel_rfl) rfl
  (λf fn hf hfn => by
   obtain rfl : f = 5 := Option.some.inj ((show prog.funcNamed Rows.cmdMakesRow.func = some 5 by kernel_rfl).symm.trans hf) |>.symm
   obtain rfl : fn = Tryz.f5 := (Option.some.inj (func5.symm.trans hfn)).symm
   exact ⟨by kernel_rfl, λj t ht => by
    rw [Tryz.params5] at ht
    have hm : t ∈ [38, 9, 3, 3, 9] := by simpa using Array.mem_of_getElem? ht
    have hall : ([38, 9, 3, 3, 9].all λu => !Tryz.prog.wantsStandIn u) = true := by kernel_rfl
    exact (show prog.wantsStandIn t = false by simpa using List.all_eq_true.1 hall t hm)⟩)
  cmdMakes_goes
#print axioms cmdMakes_card
end Go.Proofs.YthbajmlmjjfgpaaGreatDoor
