/-
  DERIVED. GIVEN WITH THE SEED: THE CARDS: each row of YtgfpoglbphceaaaGreatDoorRows.lean that lists a variable, with what it lists TIED to the program's text (the seventh form; the later family's looks); each row that meets fmt, with fmt's text TOLD by the authors' own Lean function (tested against real Go, not proved from fmt's source: count such statements apart). THE CARD IS WHAT COUNTS. Prove the row's statement (the work); the ties are given (YtgfpoglbphceaaaGreatDoorTie.lean); close each card by the builder's one call (the guide's Derived/Test/ToyasCard.lean, 'card_holds'). Laid BY PROGRAM, IN A SANDBOX (cutbox-door.mjs). By AI agents, Wed Nov 11 2026. No macro, syntax, notation, axiom, sorry.
-/
import Derived.Test.YtgfpoglbphceaaaGreatDoorRows
import GoSem.ClaimSeven
namespace Go.Proofs.YtgfpoglbphceaaaGreatDoor
namespace Rows

/-- THE TIED CARD OF 'courierlaw13.StubEmits'. -/
def stubEmitsCard : Claim7 := { stood := { row := stubEmitsRow, standIns := [], harness := (true, "2d70709e472a393b999565eb60c8cc5257c24a345d4154f93da1923ed4b04e31"), looks := false }, kinds := [], alts := [], laidByText := true, laidKinds := [.data, .data, .data, .data, .pinned], laidTests := true, laidLooks := .later }
def StubEmitsCardSaid : Prop := Claim7.holds Tryz.pinned (.plain (OpenSpec.ofChange stubEmitsSpec)) stubEmitsCard

/-- THE TIED CARD OF 'courierlaw13.StubBack'. -/
def stubBackCard : Claim7 := { stood := { row := stubBackRow, standIns := [], harness := (true, "2d70709e472a393b999565eb60c8cc5257c24a345d4154f93da1923ed4b04e31"), looks := false }, kinds := [], alts := [], laidByText := true, laidKinds := [.data, .data, .data, .data, .pinned], laidTests := true, laidLooks := .later }
def StubBackCardSaid : Prop := Claim7.holds Tryz.pinned (.plain (OpenSpec.ofChange stubBackSpec)) stubBackCard

/-- THE TIED CARD OF 'courierlaw13.StubReads'. -/
def stubReadsCard : Claim7 := { stood := { row := stubReadsRow, standIns := [], harness := (true, "2d70709e472a393b999565eb60c8cc5257c24a345d4154f93da1923ed4b04e31"), looks := false }, kinds := [], alts := [], laidByText := true, laidKinds := [.data, .data, .data, .data, .pinned], laidTests := true, laidLooks := .later }
def StubReadsCardSaid : Prop := Claim7.holds Tryz.pinned (.plain (OpenSpec.ofChange stubReadsSpec)) stubReadsCard

/-- THE TIED CARD OF 'courierlaw13.StubTurned'. -/
def stubTurnedCard : Claim7 := { stood := { row := stubTurnedRow, standIns := [], harness := (true, "2d70709e472a393b999565eb60c8cc5257c24a345d4154f93da1923ed4b04e31"), looks := false }, kinds := [], alts := [], laidByText := true, laidKinds := [.data, .data, .data, .data, .pinned], laidTests := true, laidLooks := .later }
def StubTurnedCardSaid : Prop := Claim7.holds Tryz.pinned (.plain (OpenSpec.ofChange stubTurnedSpec)) stubTurnedCard

/-- THE TIED CARD OF 'courierlaw13.StubRows'. -/
def stubRowsCard : Claim7 := { stood := { row := stubRowsRow, standIns := [], harness := (true, "2d70709e472a393b999565eb60c8cc5257c24a345d4154f93da1923ed4b04e31"), looks := false }, kinds := [], alts := [], laidByText := true, laidKinds := [.data, .data, .data, .data, .pinned], laidTests := true, laidLooks := .later }
def StubRowsCardSaid : Prop := Claim7.holds Tryz.pinned (.plain (OpenSpec.ofChange stubRowsSpec)) stubRowsCard

/-- THE SECOND FORM's CARD OF 'courierlaw13.StubEmits'. -/
def stubEmitsUptoCard : Claim7 := { stood := { row := stubEmitsUptoRow, standIns := [], harness := (true, "2d70709e472a393b999565eb60c8cc5257c24a345d4154f93da1923ed4b04e31"), looks := false }, kinds := [], alts := [], laidByText := true, laidKinds := [.data, .data, .data, .data, .pinned], laidTests := true, laidLooks := .later }
def StubEmitsUptoCardSaid : Prop := Claim7.holds Tryz.pinned (.plain (OpenSpec.upto stubEmitsSpec)) stubEmitsUptoCard

/-- THE SECOND FORM's CARD OF 'courierlaw13.StubBack'. -/
def stubBackUptoCard : Claim7 := { stood := { row := stubBackUptoRow, standIns := [], harness := (true, "2d70709e472a393b999565eb60c8cc5257c24a345d4154f93da1923ed4b04e31"), looks := false }, kinds := [], alts := [], laidByText := true, laidKinds := [.data, .data, .data, .data, .pinned], laidTests := true, laidLooks := .later }
def StubBackUptoCardSaid : Prop := Claim7.holds Tryz.pinned (.plain (OpenSpec.upto stubBackSpec)) stubBackUptoCard

/-- THE SECOND FORM's CARD OF 'courierlaw13.StubReads'. -/
def stubReadsUptoCard : Claim7 := { stood := { row := stubReadsUptoRow, standIns := [], harness := (true, "2d70709e472a393b999565eb60c8cc5257c24a345d4154f93da1923ed4b04e31"), looks := false }, kinds := [], alts := [], laidByText := true, laidKinds := [.data, .data, .data, .data, .pinned], laidTests := true, laidLooks := .later }
def StubReadsUptoCardSaid : Prop := Claim7.holds Tryz.pinned (.plain (OpenSpec.upto stubReadsSpec)) stubReadsUptoCard

/-- THE SECOND FORM's CARD OF 'courierlaw13.StubTurned'. -/
def stubTurnedUptoCard : Claim7 := { stood := { row := stubTurnedUptoRow, standIns := [], harness := (true, "2d70709e472a393b999565eb60c8cc5257c24a345d4154f93da1923ed4b04e31"), looks := false }, kinds := [], alts := [], laidByText := true, laidKinds := [.data, .data, .data, .data, .pinned], laidTests := true, laidLooks := .later }
def StubTurnedUptoCardSaid : Prop := Claim7.holds Tryz.pinned (.plain (OpenSpec.upto stubTurnedSpec)) stubTurnedUptoCard

/-- THE SECOND FORM's CARD OF 'courierlaw13.StubRows'. -/
def stubRowsUptoCard : Claim7 := { stood := { row := stubRowsUptoRow, standIns := [], harness := (true, "2d70709e472a393b999565eb60c8cc5257c24a345d4154f93da1923ed4b04e31"), looks := false }, kinds := [], alts := [], laidByText := true, laidKinds := [.data, .data, .data, .data, .pinned], laidTests := true, laidLooks := .later }
def StubRowsUptoCardSaid : Prop := Claim7.holds Tryz.pinned (.plain (OpenSpec.upto stubRowsSpec)) stubRowsUptoCard
end Rows
end Go.Proofs.YtgfpoglbphceaaaGreatDoor
