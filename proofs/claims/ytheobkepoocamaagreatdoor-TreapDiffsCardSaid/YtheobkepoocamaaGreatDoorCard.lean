/- TreapDiffs: whatever the two rows of acts, the law answers true, and its arguments read as before; the listed tables are tied to the program's text. Conditions: those of the form alone. -/
import Derived.Test.YtheobkepoocamaaGreatDoorProof
import Derived.Test.YtheobkepoocamaaGreatDoorTie
import Derived.Test.YtheobkepoocamaaGreatDoorCards
import Derived.SevenTiedAt
namespace Go.Proofs.YtheobkepoocamaaGreatDoor
open Go

theorem treapDiffs_card : Rows.TreapDiffsCardSaid :=
  Claim7.holds_tied_plain_at .later [] [.data, .data] true Rows.treapDiffsCard.stood.harness false
    treapDiffs_holds (fun _ h => by cases h) (by kernel_rfl) (fun _ h => by cases h) treapDiffs_row_tie rfl ⟨rfl, rfl⟩ (by kernel_rfl) rfl
    (fun f fn hf hfn => by
      obtain rfl : f = 3 := Option.some.inj ((show Tryz.prog.funcNamed Rows.treapDiffsRow.func = some 3 by kernel_rfl).symm.trans hf) |>.symm
      obtain rfl : fn = Tryz.f3 := (Option.some.inj (Tryz.func3.symm.trans hfn)).symm
      exact ⟨by kernel_rfl, fun j t ht => by
        rw [Tryz.params3] at ht
        have hm : t ∈ [22, 22] := by simpa using Array.mem_of_getElem? ht
        have hall : ([22, 22].all fun u => !Tryz.prog.wantsStandIn u) = true := by kernel_rfl
        exact (show Tryz.prog.wantsStandIn t = false by simpa using List.all_eq_true.1 hall t hm)⟩)
    (by kernel_rfl)
#print axioms treapDiffs_card
end Go.Proofs.YtheobkepoocamaaGreatDoor
