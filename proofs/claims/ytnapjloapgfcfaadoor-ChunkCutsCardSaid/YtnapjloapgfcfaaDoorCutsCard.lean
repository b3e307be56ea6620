/- ChunkCuts: for every input the law answers true; the listed tables are tied to the program's text. Conditions: those of the form alone. -/
import Derived.Test.YtnapjloapgfcfaaDoorCutsProof
import Derived.Test.YtnapjloapgfcfaaDoorTie
import Derived.Test.YtnapjloapgfcfaaDoorCards
import Derived.SevenTiedAt
namespace Go.Proofs.YtnapjloapgfcfaaDoor
open Go

theorem chunkCuts_card : Rows.ChunkCutsCardSaid :=
  Claim7.holds_tied_plain_at .later [] [.data, .data, .data, .pinned] true Rows.chunkCutsCard.stood.harness false
    chunkCuts_holds (fun _ h => by cases h) (by kernel_rfl) (fun _ h => by cases h) chunkCuts_row_tie rfl ⟨rfl, rfl⟩ (by kernel_rfl) rfl
    (fun f fn hf hfn => by
      obtain rfl : f = 7 := Option.some.inj ((show Tryd.prog.funcNamed Rows.chunkCutsRow.func = some 7 by kernel_rfl).symm.trans hf) |>.symm
      obtain rfl : fn = Tryd.f7 := (Option.some.inj (Tryd.func7.symm.trans hfn)).symm
      exact ⟨by kernel_rfl, fun j t ht => by
        rw [Tryd.params7] at ht
        have hm : t ∈ [9, 3, 3, 3] := by simpa using Array.mem_of_getElem? ht
        have hall : ([9, 3, 3, 3].all fun u => !Tryd.prog.wantsStandIn u) = true := by kernel_rfl
        exact (show Tryd.prog.wantsStandIn t = false by simpa using List.all_eq_true.1 hall t hm)⟩)
    (by kernel_rfl)
#print axioms chunkCuts_card
end Go.Proofs.YtnapjloapgfcfaaDoor
