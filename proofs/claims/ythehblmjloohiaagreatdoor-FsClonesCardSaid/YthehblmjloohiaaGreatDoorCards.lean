/-
  DERIVED. GIVEN WITH THE SEED: THE CARDS: each row of YthehblmjloohiaaGreatDoorRows.lean that lists a variable, with what it lists TIED to the program's text (the seventh form; the later family's looks); each row that meets fmt, with fmt's text TOLD by the authors' own Lean function (tested against real Go, not proved from fmt's source: count such statements apart). THE CARD IS WHAT COUNTS. Prove the row's statement (the work); the ties are given (YthehblmjloohiaaGreatDoorTie.lean); close each card by the builder's one call (the guide's Derived/Test/ToyasCard.lean, 'card_holds'). Laid BY PROGRAM, IN A SANDBOX (cutbox-door.mjs). By AI agents, Wed Nov 11 2026. No macro, syntax, notation, axiom, sorry.
-/
import Derived.Test.YthehblmjloohiaaGreatDoorRows
import GoSem.ClaimSeven
namespace Go.Proofs.YthehblmjloohiaaGreatDoor
namespace Rows

/-- THE TIED CARD OF 'snapferrylaw11.FsPlays'. -/
def fsPlaysCard : Claim7 := { stood := { row := fsPlaysRow, standIns := [], harness := (true, "2a2758f4ed281231f619f7e199f41e442343805c1df0ff4a07accd22df13e7a3"), looks := false }, kinds := [], alts := [], laidByText := true, laidKinds := [.data, .data], laidTests := true, laidLooks := .later }
def FsPlaysCardSaid : Prop := Claim7.holds Tryz.pinned (.plain (OpenSpec.ofChange fsPlaysSpec)) fsPlaysCard

/-- THE TIED CARD OF 'snapferrylaw11.FsSound'. -/
def fsSoundCard : Claim7 := { stood := { row := fsSoundRow, standIns := [], harness := (true, "2a2758f4ed281231f619f7e199f41e442343805c1df0ff4a07accd22df13e7a3"), looks := false }, kinds := [], alts := [], laidByText := true, laidKinds := [.data, .data], laidTests := true, laidLooks := .later }
def FsSoundCardSaid : Prop := Claim7.holds Tryz.pinned (.plain (OpenSpec.ofChange fsSoundSpec)) fsSoundCard

/-- THE TIED CARD OF 'snapferrylaw11.FsMaps'. -/
def fsMapsCard : Claim7 := { stood := { row := fsMapsRow, standIns := [], harness := (true, "2a2758f4ed281231f619f7e199f41e442343805c1df0ff4a07accd22df13e7a3"), looks := false }, kinds := [], alts := [], laidByText := true, laidKinds := [.data, .data], laidTests := true, laidLooks := .later }
def FsMapsCardSaid : Prop := Claim7.holds Tryz.pinned (.plain (OpenSpec.ofChange fsMapsSpec)) fsMapsCard

/-- THE TIED CARD OF 'snapferrylaw11.FsRefused'. -/
def fsRefusedCard : Claim7 := { stood := { row := fsRefusedRow, standIns := [], harness := (true, "2a2758f4ed281231f619f7e199f41e442343805c1df0ff4a07accd22df13e7a3"), looks := false }, kinds := [], alts := [], laidByText := true, laidKinds := [.data, .data], laidTests := true, laidLooks := .later }
def FsRefusedCardSaid : Prop := Claim7.holds Tryz.pinned (.plain (OpenSpec.ofChange fsRefusedSpec)) fsRefusedCard

/-- THE TIED CARD OF 'snapferrylaw11.FsMoves'. -/
def fsMovesCard : Claim7 := { stood := { row := fsMovesRow, standIns := [], harness := (true, "2a2758f4ed281231f619f7e199f41e442343805c1df0ff4a07accd22df13e7a3"), looks := false }, kinds := [], alts := [], laidByText := true, laidKinds := [.data, .data], laidTests := true, laidLooks := .later }
def FsMovesCardSaid : Prop := Claim7.holds Tryz.pinned (.plain (OpenSpec.ofChange fsMovesSpec)) fsMovesCard

/-- THE TIED CARD OF 'snapferrylaw11.FsClones'. -/
def fsClonesCard : Claim7 := { stood := { row := fsClonesRow, standIns := [], harness := (true, "2a2758f4ed281231f619f7e199f41e442343805c1df0ff4a07accd22df13e7a3"), looks := false }, kinds := [], alts := [], laidByText := true, laidKinds := [.data, .data], laidTests := true, laidLooks := .later }
def FsClonesCardSaid : Prop := Claim7.holds Tryz.pinned (.plain (OpenSpec.ofChange fsClonesSpec)) fsClonesCard

/-- THE TIED CARD OF 'snapferrylaw11.FsTrees'. -/
def fsTreesCard : Claim7 := { stood := { row := fsTreesRow, standIns := [], harness := (true, "2a2758f4ed281231f619f7e199f41e442343805c1df0ff4a07accd22df13e7a3"), looks := false }, kinds := [], alts := [], laidByText := true, laidKinds := [.data, .data], laidTests := true, laidLooks := .later }
def FsTreesCardSaid : Prop := Claim7.holds Tryz.pinned (.plain (OpenSpec.ofChange fsTreesSpec)) fsTreesCard

/-- THE SECOND FORM's CARD OF 'snapferrylaw11.FsPlays'. -/
def fsPlaysUptoCard : Claim7 := { stood := { row := fsPlaysUptoRow, standIns := [], harness := (true, "2a2758f4ed281231f619f7e199f41e442343805c1df0ff4a07accd22df13e7a3"), looks := false }, kinds := [], alts := [], laidByText := true, laidKinds := [.data, .data], laidTests := true, laidLooks := .later }
def FsPlaysUptoCardSaid : Prop := Claim7.holds Tryz.pinned (.plain (OpenSpec.upto fsPlaysSpec)) fsPlaysUptoCard

/-- THE SECOND FORM's CARD OF 'snapferrylaw11.FsSound'. -/
def fsSoundUptoCard : Claim7 := { stood := { row := fsSoundUptoRow, standIns := [], harness := (true, "2a2758f4ed281231f619f7e199f41e442343805c1df0ff4a07accd22df13e7a3"), looks := false }, kinds := [], alts := [], laidByText := true, laidKinds := [.data, .data], laidTests := true, laidLooks := .later }
def FsSoundUptoCardSaid : Prop := Claim7.holds Tryz.pinned (.plain (OpenSpec.upto fsSoundSpec)) fsSoundUptoCard

/-- THE SECOND FORM's CARD OF 'snapferrylaw11.FsMaps'. -/
def fsMapsUptoCard : Claim7 := { stood := { row := fsMapsUptoRow, standIns := [], harness := (true, "2a2758f4ed281231f619f7e199f41e442343805c1df0ff4a07accd22df13e7a3"), looks := false }, kinds := [], alts := [], laidByText := true, laidKinds := [.data, .data], laidTests := true, laidLooks := .later }
def FsMapsUptoCardSaid : Prop := Claim7.holds Tryz.pinned (.plain (OpenSpec.upto fsMapsSpec)) fsMapsUptoCard

/-- THE SECOND FORM's CARD OF 'snapferrylaw11.FsRefused'. -/
def fsRefusedUptoCard : Claim7 := { stood := { row := fsRefusedUptoRow, standIns := [], harness := (true, "2a2758f4ed281231f619f7e199f41e442343805c1df0ff4a07accd22df13e7a3"), looks := false }, kinds := [], alts := [], laidByText := true, laidKinds := [.data, .data], laidTests := true, laidLooks := .later }
def FsRefusedUptoCardSaid : Prop := Claim7.holds Tryz.pinned (.plain (OpenSpec.upto fsRefusedSpec)) fsRefusedUptoCard

/-- THE SECOND FORM's CARD OF 'snapferrylaw11.FsMoves'. -/
def fsMovesUptoCard : Claim7 := { stood := { row := fsMovesUptoRow, standIns := [], harness := (true, "2a2758f4ed281231f619f7e199f41e442343805c1df0ff4a07accd22df13e7a3"), looks := false }, kinds := [], alts := [], laidByText := true, laidKinds := [.data, .data], laidTests := true, laidLooks := .later }
def FsMovesUptoCardSaid : Prop := Claim7.holds Tryz.pinned (.plain (OpenSpec.upto fsMovesSpec)) fsMovesUptoCard

/-- THE SECOND FORM's CARD OF 'snapferrylaw11.FsClones'. -/
def fsClonesUptoCard : Claim7 := { stood := { row := fsClonesUptoRow, standIns := [], harness := (true, "2a2758f4ed281231f619f7e199f41e442343805c1df0ff4a07accd22df13e7a3"), looks := false }, kinds := [], alts := [], laidByText := true, laidKinds := [.data, .data], laidTests := true, laidLooks := .later }
def FsClonesUptoCardSaid : Prop := Claim7.holds Tryz.pinned (.plain (OpenSpec.upto fsClonesSpec)) fsClonesUptoCard

/-- THE SECOND FORM's CARD OF 'snapferrylaw11.FsTrees'. -/
def fsTreesUptoCard : Claim7 := { stood := { row := fsTreesUptoRow, standIns := [], harness := (true, "2a2758f4ed281231f619f7e199f41e442343805c1df0ff4a07accd22df13e7a3"), looks := false }, kinds := [], alts := [], laidByText := true, laidKinds := [.data, .data], laidTests := true, laidLooks := .later }
def FsTreesUptoCardSaid : Prop := Claim7.holds Tryz.pinned (.plain (OpenSpec.upto fsTreesSpec)) fsTreesUptoCard
end Rows
end Go.Proofs.YthehblmjloohiaaGreatDoor
