/-
  DERIVED. GIVEN WITH THE SEED: THE CARDS: each row of YthbajmlmjjfgpaaGreatDoorRows.lean that lists a variable, with what it lists TIED to the program's text (the seventh form; the later family's looks); each row that meets fmt, with fmt's text TOLD by the authors' own Lean function (tested against real Go, not proved from fmt's source: count such statements apart). THE CARD IS WHAT COUNTS. Prove the row's statement (the work); the ties are given (YthbajmlmjjfgpaaGreatDoorTie.lean); close each card by the builder's one call (the guide's Derived/Test/ToyasCard.lean, 'card_holds'). Laid BY PROGRAM, IN A SANDBOX (cutbox-door.mjs). By AI agents, Wed Nov 11 2026. No macro, syntax, notation, axiom, sorry.
-/
import Derived.Test.YthbajmlmjjfgpaaGreatDoorRows
import GoSem.ClaimSeven
namespace Go.Proofs.YthbajmlmjjfgpaaGreatDoor
namespace Rows

/-- THE TIED CARD OF 'snapferrylaw13.CmdTexts'. -/
def cmdTextsCard : Claim7 := { stood := { row := cmdTextsRow, standIns := [], harness := (true, "39e69371ffa3ddda64e0d541b93263f05004f3ba6b40cc8750b1b75ddba65eb4"), looks := false }, kinds := [], alts := [], laidByText := true, laidKinds := [.data, .data, .data], laidTests := true, laidLooks := .later }
def CmdTextsCardSaid : Prop := Claim7.holds Tryz.pinned (.plain (OpenSpec.ofChange cmdTextsSpec)) cmdTextsCard

/-- THE TIED CARD OF 'snapferrylaw13.CmdPlays'. -/
def cmdPlaysCard : Claim7 := { stood := { row := cmdPlaysRow, standIns := [], harness := (true, "39e69371ffa3ddda64e0d541b93263f05004f3ba6b40cc8750b1b75ddba65eb4"), looks := false }, kinds := [], alts := [], laidByText := true, laidKinds := [.data, .data, .data], laidTests := true, laidLooks := .later }
def CmdPlaysCardSaid : Prop := Claim7.holds Tryz.pinned (.plain (OpenSpec.ofChange cmdPlaysSpec)) cmdPlaysCard

/-- THE TIED CARD OF 'snapferrylaw13.CmdMakes'. -/
def cmdMakesCard : Claim7 := { stood := { row := cmdMakesRow, standIns := [], harness := (true, "39e69371ffa3ddda64e0d541b93263f05004f3ba6b40cc8750b1b75ddba65eb4"), looks := false }, kinds := [], alts := [], laidByText := true, laidKinds := [.data, .data, .data], laidTests := true, laidLooks := .later }
def CmdMakesCardSaid : Prop := Claim7.holds Tryz.pinned (.plain (OpenSpec.ofChange cmdMakesSpec)) cmdMakesCard

/-- THE TIED CARD OF 'snapferrylaw13.CmdParents'. -/
def cmdParentsCard : Claim7 := { stood := { row := cmdParentsRow, standIns := [], harness := (true, "39e69371ffa3ddda64e0d541b93263f05004f3ba6b40cc8750b1b75ddba65eb4"), looks := false }, kinds := [], alts := [], laidByText := true, laidKinds := [.data, .data, .data], laidTests := true, laidLooks := .later }
def CmdParentsCardSaid : Prop := Claim7.holds Tryz.pinned (.plain (OpenSpec.ofChange cmdParentsSpec)) cmdParentsCard

/-- THE SECOND FORM's CARD OF 'snapferrylaw13.CmdTexts'. -/
def cmdTextsUptoCard : Claim7 := { stood := { row := cmdTextsUptoRow, standIns := [], harness := (true, "39e69371ffa3ddda64e0d541b93263f05004f3ba6b40cc8750b1b75ddba65eb4"), looks := false }, kinds := [], alts := [], laidByText := true, laidKinds := [.data, .data, .data], laidTests := true, laidLooks := .later }
def CmdTextsUptoCardSaid : Prop := Claim7.holds Tryz.pinned (.plain (OpenSpec.upto cmdTextsSpec)) cmdTextsUptoCard

/-- THE SECOND FORM's CARD OF 'snapferrylaw13.CmdPlays'. -/
def cmdPlaysUptoCard : Claim7 := { stood := { row := cmdPlaysUptoRow, standIns := [], harness := (true, "39e69371ffa3ddda64e0d541b93263f05004f3ba6b40cc8750b1b75ddba65eb4"), looks := false }, kinds := [], alts := [], laidByText := true, laidKinds := [.data, .data, .data], laidTests := true, laidLooks := .later }
def CmdPlaysUptoCardSaid : Prop := Claim7.holds Tryz.pinned (.plain (OpenSpec.upto cmdPlaysSpec)) cmdPlaysUptoCard

/-- THE SECOND FORM's CARD OF 'snapferrylaw13.CmdMakes'. -/
def cmdMakesUptoCard : Claim7 := { stood := { row := cmdMakesUptoRow, standIns := [], harness := (true, "39e69371ffa3ddda64e0d541b93263f05004f3ba6b40cc8750b1b75ddba65eb4"), looks := false }, kinds := [], alts := [], laidByText := true, laidKinds := [.data, .data, .data], laidTests := true, laidLooks := .later }
def CmdMakesUptoCardSaid : Prop := Claim7.holds Tryz.pinned (.plain (OpenSpec.upto cmdMakesSpec)) cmdMakesUptoCard

/-- THE SECOND FORM's CARD OF 'snapferrylaw13.CmdParents'. -/
def cmdParentsUptoCard : Claim7 := { stood := { row := cmdParentsUptoRow, standIns := [], harness := (true, "39e69371ffa3ddda64e0d541b93263f05004f3ba6b40cc8750b1b75ddba65eb4"), looks := false }, kinds := [], alts := [], laidByText := true, laidKinds := [.data, .data, .data], laidTests := true, laidLooks := .later }
def CmdParentsUptoCardSaid : Prop := Claim7.holds Tryz.pinned (.plain (OpenSpec.upto cmdParentsSpec)) cmdParentsUptoCard
end Rows
end Go.Proofs.YthbajmlmjjfgpaaGreatDoor
