/- DigestTells: for every row of texts and every tag the law answers true; the two listed tables are tied to the program's text. Conditions: those of the form alone. -/
import Derived.Test.YtcakhfgmbeakoaaDoorProofs
import Derived.Test.YtcakhfgmbeakoaaDoorTie
import Derived.Test.YtcakhfgmbeakoaaDoorCards
import Derived.SevenTiedAt
namespace Go.Proofs.YtcakhfgmbeakoaaDoor
open Go

theorem digestTells_card : Rows.DigestTellsCardSaid :=
  Claim7.holds_tied_plain_at .later [] [.data, .data] true Rows.digestTellsCard.stood.harness false
    digestTells_holds (fun _ h => by cases h) (by kernel_rfl) (fun _ h => by cases h) digestTells_row_tie rfl ⟨rfl, rfl⟩ (by kernel_rfl) rfl
    (fun f fn hf hfn => by
      obtain rfl : f = 3 := Option.some.inj ((show Tryd.prog.funcNamed Rows.digestTellsRow.func = some 3 by kernel_rfl).symm.trans hf) |>.symm
      obtain rfl : fn = Tryd.f3 := (Option.some.inj (Tryd.func3.symm.trans hfn)).symm
      exact ⟨by kernel_rfl, fun j t ht => by
        rw [Tryd.params3] at ht
        have hm : t ∈ [22, 5] := by simpa using Array.mem_of_getElem? ht
        have hall : ([22, 5].all fun u => !Tryd.prog.wantsStandIn u) = true := by kernel_rfl
        exact (show Tryd.prog.wantsStandIn t = false by simpa using List.all_eq_true.1 hall t hm)⟩)
    (by kernel_rfl)
#print axioms digestTells_card
end Go.Proofs.YtcakhfgmbeakoaaDoor
