/-
  DERIVED. GIVEN WITH THE SEED: THE CARDS: each row of YtabmamofnhcgbaaGreatDoorRows.lean that lists a variable, with what it lists TIED to the program's text (the seventh form; the later family's looks); each row that meets fmt, with fmt's text TOLD by the authors' own Lean function (tested against real Go, not proved from fmt's source: count such statements apart). THE CARD IS WHAT COUNTS. Prove the row's statement (the work); the ties are given (YtabmamofnhcgbaaGreatDoorTie.lean); close each card by the builder's one call (the guide's Derived/Test/ToyasCard.lean, 'card_holds'). Laid BY PROGRAM, IN A SANDBOX (cutbox-door.mjs). By AI agents, Wed Nov 11 2026. No macro, syntax, notation, axiom, sorry.
-/
import Derived.Test.YtabmamofnhcgbaaGreatDoorRows
import GoSem.ClaimSeven
namespace Go.Proofs.YtabmamofnhcgbaaGreatDoor
namespace Rows

/-- THE TIED CARD OF 'snapferrylaw11.FsPlays'. -/
def fsPlaysCard : Claim7 := { stood := { row := fsPlaysRow, standIns := [], harness := (true, "00af6c0cb7994ccbd562cb96b4e512d22ecf73a6be9fca87fab9eb6826814d2e"), looks := true }, kinds := [], alts := [], laidByText := true, laidKinds := [.data, .data], laidTests := true, laidLooks := .later }
def FsPlaysCardSaid : Prop := Claim7.holds Tryz.pinned (.plain (OpenSpec.ofChange fsPlaysSpec)) fsPlaysCard

/-- THE TIED CARD OF 'snapferrylaw11.FsMaps'. -/
def fsMapsCard : Claim7 := { stood := { row := fsMapsRow, standIns := [], harness := (true, "00af6c0cb7994ccbd562cb96b4e512d22ecf73a6be9fca87fab9eb6826814d2e"), looks := true }, kinds := [], alts := [], laidByText := true, laidKinds := [.data, .data], laidTests := true, laidLooks := .later }
def FsMapsCardSaid : Prop := Claim7.holds Tryz.pinned (.plain (OpenSpec.ofChange fsMapsSpec)) fsMapsCard

/-- THE TIED CARD OF 'snapferrylaw12.SnapPlays'. -/
def snapPlaysCard : Claim7 := { stood := { row := snapPlaysRow, standIns := [], harness := (true, "00af6c0cb7994ccbd562cb96b4e512d22ecf73a6be9fca87fab9eb6826814d2e"), looks := true }, kinds := [], alts := [], laidByText := true, laidKinds := [.data, .data], laidTests := true, laidLooks := .later }
def SnapPlaysCardSaid : Prop := Claim7.holds Tryz.pinned (.plain (OpenSpec.ofChange snapPlaysSpec)) snapPlaysCard

/-- THE TIED CARD OF 'snapferrylaw12.SnapApart'. -/
def snapApartCard : Claim7 := { stood := { row := snapApartRow, standIns := [], harness := (true, "00af6c0cb7994ccbd562cb96b4e512d22ecf73a6be9fca87fab9eb6826814d2e"), looks := true }, kinds := [], alts := [], laidByText := true, laidKinds := [.data, .data], laidTests := true, laidLooks := .later }
def SnapApartCardSaid : Prop := Claim7.holds Tryz.pinned (.plain (OpenSpec.ofChange snapApartSpec)) snapApartCard

/-- THE SECOND FORM's CARD OF 'snapferrylaw11.FsPlays'. -/
def fsPlaysUptoCard : Claim7 := { stood := { row := fsPlaysUptoRow, standIns := [], harness := (true, "00af6c0cb7994ccbd562cb96b4e512d22ecf73a6be9fca87fab9eb6826814d2e"), looks := true }, kinds := [], alts := [], laidByText := true, laidKinds := [.data, .data], laidTests := true, laidLooks := .later }
def FsPlaysUptoCardSaid : Prop := Claim7.holds Tryz.pinned (.plain (OpenSpec.upto fsPlaysSpec)) fsPlaysUptoCard

/-- THE SECOND FORM's CARD OF 'snapferrylaw11.FsMaps'. -/
def fsMapsUptoCard : Claim7 := { stood := { row := fsMapsUptoRow, standIns := [], harness := (true, "00af6c0cb7994ccbd562cb96b4e512d22ecf73a6be9fca87fab9eb6826814d2e"), looks := true }, kinds := [], alts := [], laidByText := true, laidKinds := [.data, .data], laidTests := true, laidLooks := .later }
def FsMapsUptoCardSaid : Prop := Claim7.holds Tryz.pinned (.plain (OpenSpec.upto fsMapsSpec)) fsMapsUptoCard

/-- THE SECOND FORM's CARD OF 'snapferrylaw12.SnapPlays'. -/
def snapPlaysUptoCard : Claim7 := { stood := { row := snapPlaysUptoRow, standIns := [], harness := (true, "00af6c0cb7994ccbd562cb96b4e512d22ecf73a6be9fca87fab9eb6826814d2e"), looks := true }, kinds := [], alts := [], laidByText := true, laidKinds := [.data, .data], laidTests := true, laidLooks := .later }
def SnapPlaysUptoCardSaid : Prop := Claim7.holds Tryz.pinned (.plain (OpenSpec.upto snapPlaysSpec)) snapPlaysUptoCard

/-- THE SECOND FORM's CARD OF 'snapferrylaw12.SnapApart'. -/
def snapApartUptoCard : Claim7 := { stood := { row := snapApartUptoRow, standIns := [], harness := (true, "00af6c0cb7994ccbd562cb96b4e512d22ecf73a6be9fca87fab9eb6826814d2e"), looks := true }, kinds := [], alts := [], laidByText := true, laidKinds := [.data, .data], laidTests := true, laidLooks := .later }
def SnapApartUptoCardSaid : Prop := Claim7.holds Tryz.pinned (.plain (OpenSpec.upto snapApartSpec)) snapApartUptoCard
end Rows
end Go.Proofs.YtabmamofnhcgbaaGreatDoor
