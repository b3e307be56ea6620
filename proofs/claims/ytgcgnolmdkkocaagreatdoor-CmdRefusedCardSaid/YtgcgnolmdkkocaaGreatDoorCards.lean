/-
  DERIVED. GIVEN WITH THE SEED: THE CARDS: each row of YtgcgnolmdkkocaaGreatDoorRows.lean that lists a variable, with what it lists TIED to the program's text (the seventh form; the later family's looks); each row that meets fmt, with fmt's text TOLD by the authors' own Lean function (tested against real Go, not proved from fmt's source: count such statements apart). THE CARD IS WHAT COUNTS. Prove the row's statement (the work); the ties are given (YtgcgnolmdkkocaaGreatDoorTie.lean); close each card by the builder's one call (the guide's Derived/Test/ToyasCard.lean, 'card_holds'). Laid BY PROGRAM, IN A SANDBOX (cutbox-door.mjs). By AI agents, Wed Nov 11 2026. No macro, syntax, notation, axiom, sorry.
-/
import Derived.Test.YtgcgnolmdkkocaaGreatDoorRows
import GoSem.ClaimSeven
namespace Go.Proofs.YtgcgnolmdkkocaaGreatDoor
namespace Rows

/-- THE TIED CARD OF 'snapferrylaw11.FsMaps'. -/
def fsMapsCard : Claim7 := { stood := { row := fsMapsRow, standIns := [], harness := (true, "d7f85acdb5bd75809947ac02badcb36f7c49eadce04e7a50e35372d53a5796fa"), looks := true }, kinds := [], alts := [], laidByText := true, laidKinds := [.data, .data], laidTests := true, laidLooks := .later }
def FsMapsCardSaid : Prop := Claim7.holds Tryz.pinned (.plain (OpenSpec.ofChange fsMapsSpec)) fsMapsCard

/-- THE TIED CARD OF 'snapferrylaw12.SnapPlays'. -/
def snapPlaysCard : Claim7 := { stood := { row := snapPlaysRow, standIns := [], harness := (true, "d7f85acdb5bd75809947ac02badcb36f7c49eadce04e7a50e35372d53a5796fa"), looks := true }, kinds := [], alts := [], laidByText := true, laidKinds := [.data, .data], laidTests := true, laidLooks := .later }
def SnapPlaysCardSaid : Prop := Claim7.holds Tryz.pinned (.plain (OpenSpec.ofChange snapPlaysSpec)) snapPlaysCard

/-- THE TIED CARD OF 'snapferrylaw13.CmdTexts'. -/
def cmdTextsCard : Claim7 := { stood := { row := cmdTextsRow, standIns := [], harness := (true, "d7f85acdb5bd75809947ac02badcb36f7c49eadce04e7a50e35372d53a5796fa"), looks := true }, kinds := [], alts := [], laidByText := true, laidKinds := [.data, .data, .data], laidTests := true, laidLooks := .later }
def CmdTextsCardSaid : Prop := Claim7.holds Tryz.pinned (.plain (OpenSpec.ofChange cmdTextsSpec)) cmdTextsCard

/-- THE TIED CARD OF 'snapferrylaw13.CmdPlays'. -/
def cmdPlaysCard : Claim7 := { stood := { row := cmdPlaysRow, standIns := [], harness := (true, "d7f85acdb5bd75809947ac02badcb36f7c49eadce04e7a50e35372d53a5796fa"), looks := true }, kinds := [], alts := [], laidByText := true, laidKinds := [.data, .data, .data], laidTests := true, laidLooks := .later }
def CmdPlaysCardSaid : Prop := Claim7.holds Tryz.pinned (.plain (OpenSpec.ofChange cmdPlaysSpec)) cmdPlaysCard

/-- THE TIED CARD OF 'snapferrylaw13.CmdRefused'. -/
def cmdRefusedCard : Claim7 := { stood := { row := cmdRefusedRow, standIns := [], harness := (true, "d7f85acdb5bd75809947ac02badcb36f7c49eadce04e7a50e35372d53a5796fa"), looks := true }, kinds := [], alts := [], laidByText := true, laidKinds := [.data, .data, .data], laidTests := true, laidLooks := .later }
def CmdRefusedCardSaid : Prop := Claim7.holds Tryz.pinned (.plain (OpenSpec.ofChange cmdRefusedSpec)) cmdRefusedCard

/-- THE TIED CARD OF 'snapferrylaw13.CmdMakes'. -/
def cmdMakesCard : Claim7 := { stood := { row := cmdMakesRow, standIns := [], harness := (true, "d7f85acdb5bd75809947ac02badcb36f7c49eadce04e7a50e35372d53a5796fa"), looks := true }, kinds := [], alts := [], laidByText := true, laidKinds := [.data, .data, .data], laidTests := true, laidLooks := .later }
def CmdMakesCardSaid : Prop := Claim7.holds Tryz.pinned (.plain (OpenSpec.ofChange cmdMakesSpec)) cmdMakesCard

/-- THE TIED CARD OF 'snapferrylaw13.CmdResumes'. -/
def cmdResumesCard : Claim7 := { stood := { row := cmdResumesRow, standIns := [], harness := (true, "d7f85acdb5bd75809947ac02badcb36f7c49eadce04e7a50e35372d53a5796fa"), looks := true }, kinds := [], alts := [], laidByText := true, laidKinds := [.data, .data, .data], laidTests := true, laidLooks := .later }
def CmdResumesCardSaid : Prop := Claim7.holds Tryz.pinned (.plain (OpenSpec.ofChange cmdResumesSpec)) cmdResumesCard

/-- THE TIED CARD OF 'snapferrylaw13.CmdParents'. -/
def cmdParentsCard : Claim7 := { stood := { row := cmdParentsRow, standIns := [], harness := (true, "d7f85acdb5bd75809947ac02badcb36f7c49eadce04e7a50e35372d53a5796fa"), looks := true }, kinds := [], alts := [], laidByText := true, laidKinds := [.data, .data, .data], laidTests := true, laidLooks := .later }
def CmdParentsCardSaid : Prop := Claim7.holds Tryz.pinned (.plain (OpenSpec.ofChange cmdParentsSpec)) cmdParentsCard

/-- THE SECOND FORM's CARD OF 'snapferrylaw11.FsMaps'. -/
def fsMapsUptoCard : Claim7 := { stood := { row := fsMapsUptoRow, standIns := [], harness := (true, "d7f85acdb5bd75809947ac02badcb36f7c49eadce04e7a50e35372d53a5796fa"), looks := true }, kinds := [], alts := [], laidByText := true, laidKinds := [.data, .data], laidTests := true, laidLooks := .later }
def FsMapsUptoCardSaid : Prop := Claim7.holds Tryz.pinned (.plain (OpenSpec.upto fsMapsSpec)) fsMapsUptoCard

/-- THE SECOND FORM's CARD OF 'snapferrylaw12.SnapPlays'. -/
def snapPlaysUptoCard : Claim7 := { stood := { row := snapPlaysUptoRow, standIns := [], harness := (true, "d7f85acdb5bd75809947ac02badcb36f7c49eadce04e7a50e35372d53a5796fa"), looks := true }, kinds := [], alts := [], laidByText := true, laidKinds := [.data, .data], laidTests := true, laidLooks := .later }
def SnapPlaysUptoCardSaid : Prop := Claim7.holds Tryz.pinned (.plain (OpenSpec.upto snapPlaysSpec)) snapPlaysUptoCard

/-- THE SECOND FORM's CARD OF 'snapferrylaw13.CmdTexts'. -/
def cmdTextsUptoCard : Claim7 := { stood := { row := cmdTextsUptoRow, standIns := [], harness := (true, "d7f85acdb5bd75809947ac02badcb36f7c49eadce04e7a50e35372d53a5796fa"), looks := true }, kinds := [], alts := [], laidByText := true, laidKinds := [.data, .data, .data], laidTests := true, laidLooks := .later }
def CmdTextsUptoCardSaid : Prop := Claim7.holds Tryz.pinned (.plain (OpenSpec.upto cmdTextsSpec)) cmdTextsUptoCard

/-- THE SECOND FORM's CARD OF 'snapferrylaw13.CmdPlays'. -/
def cmdPlaysUptoCard : Claim7 := { stood := { row := cmdPlaysUptoRow, standIns := [], harness := (true, "d7f85acdb5bd75809947ac02badcb36f7c49eadce04e7a50e35372d53a5796fa"), looks := true }, kinds := [], alts := [], laidByText := true, laidKinds := [.data, .data, .data], laidTests := true, laidLooks := .later }
def CmdPlaysUptoCardSaid : Prop := Claim7.holds Tryz.pinned (.plain (OpenSpec.upto cmdPlaysSpec)) cmdPlaysUptoCard

/-- THE SECOND FORM's CARD OF 'snapferrylaw13.CmdRefused'. -/
def cmdRefusedUptoCard : Claim7 := { stood := { row := cmdRefusedUptoRow, standIns := [], harness := (true, "d7f85acdb5bd75809947ac02badcb36f7c49eadce04e7a50e35372d53a5796fa"), looks := true }, kinds := [], alts := [], laidByText := true, laidKinds := [.data, .data, .data], laidTests := true, laidLooks := .later }
def CmdRefusedUptoCardSaid : Prop := Claim7.holds Tryz.pinned (.plain (OpenSpec.upto cmdRefusedSpec)) cmdRefusedUptoCard

/-- THE SECOND FORM's CARD OF 'snapferrylaw13.CmdMakes'. -/
def cmdMakesUptoCard : Claim7 := { stood := { row := cmdMakesUptoRow, standIns := [], harness := (true, "d7f85acdb5bd75809947ac02badcb36f7c49eadce04e7a50e35372d53a5796fa"), looks := true }, kinds := [], alts := [], laidByText := true, laidKinds := [.data, .data, .data], laidTests := true, laidLooks := .later }
def CmdMakesUptoCardSaid : Prop := Claim7.holds Tryz.pinned (.plain (OpenSpec.upto cmdMakesSpec)) cmdMakesUptoCard

/-- THE SECOND FORM's CARD OF 'snapferrylaw13.CmdResumes'. -/
def cmdResumesUptoCard : Claim7 := { stood := { row := cmdResumesUptoRow, standIns := [], harness := (true, "d7f85acdb5bd75809947ac02badcb36f7c49eadce04e7a50e35372d53a5796fa"), looks := true }, kinds := [], alts := [], laidByText := true, laidKinds := [.data, .data, .data], laidTests := true, laidLooks := .later }
def CmdResumesUptoCardSaid : Prop := Claim7.holds Tryz.pinned (.plain (OpenSpec.upto cmdResumesSpec)) cmdResumesUptoCard

/-- THE SECOND FORM's CARD OF 'snapferrylaw13.CmdParents'. -/
def cmdParentsUptoCard : Claim7 := { stood := { row := cmdParentsUptoRow, standIns := [], harness := (true, "d7f85acdb5bd75809947ac02badcb36f7c49eadce04e7a50e35372d53a5796fa"), looks := true }, kinds := [], alts := [], laidByText := true, laidKinds := [.data, .data, .data], laidTests := true, laidLooks := .later }
def CmdParentsUptoCardSaid : Prop := Claim7.holds Tryz.pinned (.plain (OpenSpec.upto cmdParentsSpec)) cmdParentsUptoCard
end Rows
end Go.Proofs.YtgcgnolmdkkocaaGreatDoor
