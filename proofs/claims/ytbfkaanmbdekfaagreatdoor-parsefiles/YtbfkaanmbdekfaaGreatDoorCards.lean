/-
  DERIVED. GIVEN WITH THE SEED: THE CARDS: each row of YtbfkaanmbdekfaaGreatDoorRows.lean that lists a variable, with what it lists TIED to the program's text (the seventh form; the later family's looks); each row that meets fmt, with fmt's text TOLD by the authors' own Lean function (tested against real Go, not proved from fmt's source: count such statements apart). THE CARD IS WHAT COUNTS. Prove the row's statement (the work); the ties are given (YtbfkaanmbdekfaaGreatDoorTie.lean); close each card by the builder's one call (the guide's Derived/Test/ToyasCard.lean, 'card_holds'). Laid BY PROGRAM, IN A SANDBOX (cutbox-door.mjs). By AI agents, Wed Nov 11 2026. No macro, syntax, notation, axiom, sorry.
-/
import Derived.Test.YtbfkaanmbdekfaaGreatDoorRows
import GoSem.ClaimSeven
namespace Go.Proofs.YtbfkaanmbdekfaaGreatDoor
namespace Rows

/-- THE TIED CARD OF 'courierlaw05.ParseFiles'. -/
def parseFilesCard : Claim7 := { stood := { row := parseFilesRow, standIns := [], harness := (true, "651dd4a2d3be67f7d7965cbf661c97cad66814597c30aede94be4ea200f1b1e5"), looks := true }, kinds := [], alts := [], laidByText := true, laidKinds := [.data, .data, .data, .data, .sentinel, .sentinel, .pinned], laidTests := true, laidLooks := .later }
def ParseFilesCardSaid : Prop := Claim7.holds Tryz.pinned (.plain (OpenSpec.ofChange parseFilesSpec)) parseFilesCard

/-- THE TIED CARD OF 'courierlaw05.ParseSame'. -/
def parseSameCard : Claim7 := { stood := { row := parseSameRow, standIns := [], harness := (true, "651dd4a2d3be67f7d7965cbf661c97cad66814597c30aede94be4ea200f1b1e5"), looks := true }, kinds := [], alts := [], laidByText := true, laidKinds := [.data, .data, .data, .sentinel, .sentinel], laidTests := true, laidLooks := .later }
def ParseSameCardSaid : Prop := Claim7.holds Tryz.pinned (.plain (OpenSpec.ofChange parseSameSpec)) parseSameCard

/-- THE SECOND FORM's CARD OF 'courierlaw05.ParseFiles'. -/
def parseFilesUptoCard : Claim7 := { stood := { row := parseFilesUptoRow, standIns := [], harness := (true, "651dd4a2d3be67f7d7965cbf661c97cad66814597c30aede94be4ea200f1b1e5"), looks := true }, kinds := [], alts := [], laidByText := true, laidKinds := [.data, .data, .data, .data, .sentinel, .sentinel, .pinned], laidTests := true, laidLooks := .later }
def ParseFilesUptoCardSaid : Prop := Claim7.holds Tryz.pinned (.plain (OpenSpec.upto parseFilesSpec)) parseFilesUptoCard

/-- THE SECOND FORM's CARD OF 'courierlaw05.ParseSame'. -/
def parseSameUptoCard : Claim7 := { stood := { row := parseSameUptoRow, standIns := [], harness := (true, "651dd4a2d3be67f7d7965cbf661c97cad66814597c30aede94be4ea200f1b1e5"), looks := true }, kinds := [], alts := [], laidByText := true, laidKinds := [.data, .data, .data, .sentinel, .sentinel], laidTests := true, laidLooks := .later }
def ParseSameUptoCardSaid : Prop := Claim7.holds Tryz.pinned (.plain (OpenSpec.upto parseSameSpec)) parseSameUptoCard
end Rows
end Go.Proofs.YtbfkaanmbdekfaaGreatDoor
