/-
  DERIVED. GIVEN WITH THE SEED: THE CARDS: each row of YtheobkepoocamaaGreatDoorRows.lean that lists a variable, with what it lists TIED to the program's text (the seventh form; the later family's looks); each row that meets fmt, with fmt's text TOLD by the authors' own Lean function (tested against real Go, not proved from fmt's source: count such statements apart). THE CARD IS WHAT COUNTS. Prove the row's statement (the work); the ties are given (YtheobkepoocamaaGreatDoorTie.lean); close each card by the builder's one call (the guide's Derived/Test/ToyasCard.lean, 'card_holds'). Laid BY PROGRAM, IN A SANDBOX (cutbox-door.mjs). By AI agents, Wed Nov 11 2026. No macro, syntax, notation, axiom, sorry.
-/
import Derived.Test.YtheobkepoocamaaGreatDoorRows
import GoSem.ClaimSeven
namespace Go.Proofs.YtheobkepoocamaaGreatDoor
namespace Rows

/-- THE TIED CARD OF 'snapferrylaw08.TreapDiffs'. -/
def treapDiffsCard : Claim7 := { stood := { row := treapDiffsRow, standIns := [], harness := (true, "19636b4cc9f2b9fd241335e187bad122837ef2ecc5a4dc1e3000b2c2a34ce37a"), looks := false }, kinds := [], alts := [], laidByText := true, laidKinds := [.data, .data], laidTests := true, laidLooks := .later }
def TreapDiffsCardSaid : Prop := Claim7.holds Tryz.pinned (.plain (OpenSpec.ofChange treapDiffsSpec)) treapDiffsCard

/-- THE SECOND FORM's CARD OF 'snapferrylaw08.TreapDiffs'. -/
def treapDiffsUptoCard : Claim7 := { stood := { row := treapDiffsUptoRow, standIns := [], harness := (true, "19636b4cc9f2b9fd241335e187bad122837ef2ecc5a4dc1e3000b2c2a34ce37a"), looks := false }, kinds := [], alts := [], laidByText := true, laidKinds := [.data, .data], laidTests := true, laidLooks := .later }
def TreapDiffsUptoCardSaid : Prop := Claim7.holds Tryz.pinned (.plain (OpenSpec.upto treapDiffsSpec)) treapDiffsUptoCard
end Rows
end Go.Proofs.YtheobkepoocamaaGreatDoor
