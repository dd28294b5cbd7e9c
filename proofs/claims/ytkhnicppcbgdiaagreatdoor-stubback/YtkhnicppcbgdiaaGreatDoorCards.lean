/-
  DERIVED. GIVEN WITH THE SEED: THE CARDS: each row of YtkhnicppcbgdiaaGreatDoorRows.lean that lists a variable, with what it lists TIED to the program's text (the seventh form; the later family's looks); each row that meets fmt, with fmt's text TOLD by the authors' own Lean function (tested against real Go, not proved from fmt's source: count such statements apart). THE CARD IS WHAT COUNTS. Prove the row's statement (the work); the ties are given (YtkhnicppcbgdiaaGreatDoorTie.lean); close each card by the builder's one call (the guide's Derived/Test/ToyasCard.lean, 'card_holds'). Laid BY PROGRAM, IN A SANDBOX (cutbox-door.mjs). By AI agents, Wed Nov 11 2026. No macro, syntax, notation, axiom, sorry.
-/
import Derived.Test.YtkhnicppcbgdiaaGreatDoorRows
import GoSem.ClaimSeven
namespace Go.Proofs.YtkhnicppcbgdiaaGreatDoor
namespace Rows

/-- THE TIED CARD OF 'courierlaw13.StubEmits'. -/
def stubEmitsCard : Claim7 := { stood := { row := stubEmitsRow, standIns := [], harness := (true, "5d8d6c20efc413af049a00c4c661efca0888a925b2c4e5ed22be900117f04ba1"), looks := false }, kinds := [], alts := [], laidByText := true, laidKinds := [.data, .data, .data, .data, .pinned], laidTests := true, laidLooks := .later }
def StubEmitsCardSaid : Prop := Claim7.holds Tryz.pinned (.plain (OpenSpec.ofChange stubEmitsSpec)) stubEmitsCard

/-- THE TIED CARD OF 'courierlaw13.StubBack'. -/
def stubBackCard : Claim7 := { stood := { row := stubBackRow, standIns := [], harness := (true, "5d8d6c20efc413af049a00c4c661efca0888a925b2c4e5ed22be900117f04ba1"), looks := false }, kinds := [], alts := [], laidByText := true, laidKinds := [.data, .data, .data, .data, .pinned], laidTests := true, laidLooks := .later }
def StubBackCardSaid : Prop := Claim7.holds Tryz.pinned (.plain (OpenSpec.ofChange stubBackSpec)) stubBackCard

/-- THE TIED CARD OF 'courierlaw13.StubTurned'. -/
def stubTurnedCard : Claim7 := { stood := { row := stubTurnedRow, standIns := [], harness := (true, "5d8d6c20efc413af049a00c4c661efca0888a925b2c4e5ed22be900117f04ba1"), looks := false }, kinds := [], alts := [], laidByText := true, laidKinds := [.data, .data, .data, .data, .pinned], laidTests := true, laidLooks := .later }
def StubTurnedCardSaid : Prop := Claim7.holds Tryz.pinned (.plain (OpenSpec.ofChange stubTurnedSpec)) stubTurnedCard

/-- THE SECOND FORM's CARD OF 'courierlaw13.StubEmits'. -/
def stubEmitsUptoCard : Claim7 := { stood := { row := stubEmitsUptoRow, standIns := [], harness := (true, "5d8d6c20efc413af049a00c4c661efca0888a925b2c4e5ed22be900117f04ba1"), looks := false }, kinds := [], alts := [], laidByText := true, laidKinds := [.data, .data, .data, .data, .pinned], laidTests := true, laidLooks := .later }
def StubEmitsUptoCardSaid : Prop := Claim7.holds Tryz.pinned (.plain (OpenSpec.upto stubEmitsSpec)) stubEmitsUptoCard

/-- THE SECOND FORM's CARD OF 'courierlaw13.StubBack'. -/
def stubBackUptoCard : Claim7 := { stood := { row := stubBackUptoRow, standIns := [], harness := (true, "5d8d6c20efc413af049a00c4c661efca0888a925b2c4e5ed22be900117f04ba1"), looks := false }, kinds := [], alts := [], laidByText := true, laidKinds := [.data, .data, .data, .data, .pinned], laidTests := true, laidLooks := .later }
def StubBackUptoCardSaid : Prop := Claim7.holds Tryz.pinned (.plain (OpenSpec.upto stubBackSpec)) stubBackUptoCard

/-- THE SECOND FORM's CARD OF 'courierlaw13.StubTurned'. -/
def stubTurnedUptoCard : Claim7 := { stood := { row := stubTurnedUptoRow, standIns := [], harness := (true, "5d8d6c20efc413af049a00c4c661efca0888a925b2c4e5ed22be900117f04ba1"), looks := false }, kinds := [], alts := [], laidByText := true, laidKinds := [.data, .data, .data, .data, .pinned], laidTests := true, laidLooks := .later }
def StubTurnedUptoCardSaid : Prop := Claim7.holds Tryz.pinned (.plain (OpenSpec.upto stubTurnedSpec)) stubTurnedUptoCard
end Rows
end Go.Proofs.YtkhnicppcbgdiaaGreatDoor
