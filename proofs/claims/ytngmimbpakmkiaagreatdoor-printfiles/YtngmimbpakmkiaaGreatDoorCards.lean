/-
  DERIVED. GIVEN WITH THE SEED: THE CARDS: each row of YtngmimbpakmkiaaGreatDoorRows.lean that lists a variable, with what it lists TIED to the program's text (the seventh form; the later family's looks); each row that meets fmt, with fmt's text TOLD by the authors' own Lean function (tested against real Go, not proved from fmt's source: count such statements apart). THE CARD IS WHAT COUNTS. Prove the row's statement (the work); the ties are given (YtngmimbpakmkiaaGreatDoorTie.lean); close each card by the builder's one call (the guide's Derived/Test/ToyasCard.lean, 'card_holds'). Laid BY PROGRAM, IN A SANDBOX (cutbox-door.mjs). By AI agents, Wed Nov 11 2026. No macro, syntax, notation, axiom, sorry.
-/
import Derived.Test.YtngmimbpakmkiaaGreatDoorRows
import GoSem.ClaimSeven
namespace Go.Proofs.YtngmimbpakmkiaaGreatDoor
namespace Rows

/-- THE TIED CARD OF 'courierlaw05.ParseSame'. -/
def parseSameCard : Claim7 := { stood := { row := parseSameRow, standIns := [], harness := (true, "ae32844bdecd9c68aa9803ce54fd7e8081bc59bb3a2e4439a66e14d1c1b29db8"), looks := true }, kinds := [], alts := [], laidByText := true, laidKinds := [.data, .data, .data, .sentinel, .sentinel], laidTests := true, laidLooks := .later }
def ParseSameCardSaid : Prop := Claim7.holds Tryz.pinned (.plain (OpenSpec.ofChange parseSameSpec)) parseSameCard

/-- THE TIED CARD OF 'courierlaw06.PrintFiles'. -/
def printFilesCard : Claim7 := { stood := { row := printFilesRow, standIns := [], harness := (true, "ae32844bdecd9c68aa9803ce54fd7e8081bc59bb3a2e4439a66e14d1c1b29db8"), looks := true }, kinds := [], alts := [], laidByText := true, laidKinds := [.data, .data, .data, .data, .sentinel, .sentinel, .pinned], laidTests := true, laidLooks := .later }
def PrintFilesCardSaid : Prop := Claim7.holds Tryz.pinned (.plain (OpenSpec.ofChange printFilesSpec)) printFilesCard

/-- THE TIED CARD OF 'courierlaw06.PrintBack'. -/
def printBackCard : Claim7 := { stood := { row := printBackRow, standIns := [], harness := (true, "ae32844bdecd9c68aa9803ce54fd7e8081bc59bb3a2e4439a66e14d1c1b29db8"), looks := true }, kinds := [], alts := [], laidByText := true, laidKinds := [.data, .data, .data, .data, .sentinel, .sentinel, .pinned], laidTests := true, laidLooks := .later }
def PrintBackCardSaid : Prop := Claim7.holds Tryz.pinned (.plain (OpenSpec.ofChange printBackSpec)) printBackCard

/-- THE TIED CARD OF 'courierlaw06.PrintReads'. -/
def printReadsCard : Claim7 := { stood := { row := printReadsRow, standIns := [], harness := (true, "ae32844bdecd9c68aa9803ce54fd7e8081bc59bb3a2e4439a66e14d1c1b29db8"), looks := true }, kinds := [], alts := [], laidByText := true, laidKinds := [.data, .data, .data, .data, .sentinel, .sentinel, .pinned], laidTests := true, laidLooks := .later }
def PrintReadsCardSaid : Prop := Claim7.holds Tryz.pinned (.plain (OpenSpec.ofChange printReadsSpec)) printReadsCard

/-- THE TIED CARD OF 'courierlaw06.PrintPlaces'. -/
def printPlacesCard : Claim7 := { stood := { row := printPlacesRow, standIns := [], harness := (true, "ae32844bdecd9c68aa9803ce54fd7e8081bc59bb3a2e4439a66e14d1c1b29db8"), looks := true }, kinds := [], alts := [], laidByText := true, laidKinds := [.data, .data, .data, .data, .sentinel, .sentinel, .pinned], laidTests := true, laidLooks := .later }
def PrintPlacesCardSaid : Prop := Claim7.holds Tryz.pinned (.plain (OpenSpec.ofChange printPlacesSpec)) printPlacesCard

/-- THE SECOND FORM's CARD OF 'courierlaw05.ParseSame'. -/
def parseSameUptoCard : Claim7 := { stood := { row := parseSameUptoRow, standIns := [], harness := (true, "ae32844bdecd9c68aa9803ce54fd7e8081bc59bb3a2e4439a66e14d1c1b29db8"), looks := true }, kinds := [], alts := [], laidByText := true, laidKinds := [.data, .data, .data, .sentinel, .sentinel], laidTests := true, laidLooks := .later }
def ParseSameUptoCardSaid : Prop := Claim7.holds Tryz.pinned (.plain (OpenSpec.upto parseSameSpec)) parseSameUptoCard

/-- THE SECOND FORM's CARD OF 'courierlaw06.PrintFiles'. -/
def printFilesUptoCard : Claim7 := { stood := { row := printFilesUptoRow, standIns := [], harness := (true, "ae32844bdecd9c68aa9803ce54fd7e8081bc59bb3a2e4439a66e14d1c1b29db8"), looks := true }, kinds := [], alts := [], laidByText := true, laidKinds := [.data, .data, .data, .data, .sentinel, .sentinel, .pinned], laidTests := true, laidLooks := .later }
def PrintFilesUptoCardSaid : Prop := Claim7.holds Tryz.pinned (.plain (OpenSpec.upto printFilesSpec)) printFilesUptoCard

/-- THE SECOND FORM's CARD OF 'courierlaw06.PrintBack'. -/
def printBackUptoCard : Claim7 := { stood := { row := printBackUptoRow, standIns := [], harness := (true, "ae32844bdecd9c68aa9803ce54fd7e8081bc59bb3a2e4439a66e14d1c1b29db8"), looks := true }, kinds := [], alts := [], laidByText := true, laidKinds := [.data, .data, .data, .data, .sentinel, .sentinel, .pinned], laidTests := true, laidLooks := .later }
def PrintBackUptoCardSaid : Prop := Claim7.holds Tryz.pinned (.plain (OpenSpec.upto printBackSpec)) printBackUptoCard

/-- THE SECOND FORM's CARD OF 'courierlaw06.PrintReads'. -/
def printReadsUptoCard : Claim7 := { stood := { row := printReadsUptoRow, standIns := [], harness := (true, "ae32844bdecd9c68aa9803ce54fd7e8081bc59bb3a2e4439a66e14d1c1b29db8"), looks := true }, kinds := [], alts := [], laidByText := true, laidKinds := [.data, .data, .data, .data, .sentinel, .sentinel, .pinned], laidTests := true, laidLooks := .later }
def PrintReadsUptoCardSaid : Prop := Claim7.holds Tryz.pinned (.plain (OpenSpec.upto printReadsSpec)) printReadsUptoCard

/-- THE SECOND FORM's CARD OF 'courierlaw06.PrintPlaces'. -/
def printPlacesUptoCard : Claim7 := { stood := { row := printPlacesUptoRow, standIns := [], harness := (true, "ae32844bdecd9c68aa9803ce54fd7e8081bc59bb3a2e4439a66e14d1c1b29db8"), looks := true }, kinds := [], alts := [], laidByText := true, laidKinds := [.data, .data, .data, .data, .sentinel, .sentinel, .pinned], laidTests := true, laidLooks := .later }
def PrintPlacesUptoCardSaid : Prop := Claim7.holds Tryz.pinned (.plain (OpenSpec.upto printPlacesSpec)) printPlacesUptoCard
end Rows
end Go.Proofs.YtngmimbpakmkiaaGreatDoor
