/-
  DERIVED. GIVEN WITH THE SEED: THE CARDS: each row of YtfhmombnipfimaaGreatDoorRows.lean that lists a variable, with what it lists TIED to the program's text (the seventh form; the later family's looks); each row that meets fmt, with fmt's text TOLD by the authors' own Lean function (tested against real Go, not proved from fmt's source: count such statements apart). THE CARD IS WHAT COUNTS. Prove the row's statement (the work); the ties are given (YtfhmombnipfimaaGreatDoorTie.lean); close each card by the builder's one call (the guide's Derived/Test/ToyasCard.lean, 'card_holds'). Laid BY PROGRAM, IN A SANDBOX (cutbox-door.mjs). By AI agents, Wed Nov 11 2026. No macro, syntax, notation, axiom, sorry.
-/
import Derived.Test.YtfhmombnipfimaaGreatDoorRows
import GoSem.ClaimSeven
namespace Go.Proofs.YtfhmombnipfimaaGreatDoor
namespace Rows

/-- THE TIED CARD OF 'courierlaw09.ValueNormals'. -/
def valueNormalsCard : Claim7 := { stood := { row := valueNormalsRow, standIns := [], harness := (true, "7c51dad4949809969cd6688ddb292907fa2e4e5ad265c4a4c996765b0282c4ee"), looks := true }, kinds := [], alts := [], laidByText := true, laidKinds := [.data, .pinned], laidTests := true, laidLooks := .later }
def ValueNormalsCardSaid : Prop := Claim7.holds Tryz.pinned (.plain (OpenSpec.ofChange valueNormalsSpec)) valueNormalsCard

/-- THE TIED CARD OF 'courierlaw10.EncodeBytes'. -/
def encodeBytesCard : Claim7 := { stood := { row := encodeBytesRow, standIns := [], harness := (true, "7c51dad4949809969cd6688ddb292907fa2e4e5ad265c4a4c996765b0282c4ee"), looks := true }, kinds := [], alts := [], laidByText := true, laidKinds := [.data, .pinned], laidTests := true, laidLooks := .later }
def EncodeBytesCardSaid : Prop := Claim7.holds Tryz.pinned (.plain (OpenSpec.ofChange encodeBytesSpec)) encodeBytesCard

/-- THE TIED CARD OF 'courierlaw11.DecodeBytes'. -/
def decodeBytesCard : Claim7 := { stood := { row := decodeBytesRow, standIns := [], harness := (true, "7c51dad4949809969cd6688ddb292907fa2e4e5ad265c4a4c996765b0282c4ee"), looks := true }, kinds := [], alts := [], laidByText := true, laidKinds := [.data, .pinned], laidTests := true, laidLooks := .later }
def DecodeBytesCardSaid : Prop := Claim7.holds Tryz.pinned (.plain (OpenSpec.ofChange decodeBytesSpec)) decodeBytesCard

/-- THE TIED CARD OF 'courierlaw11.DecodeFits'. -/
def decodeFitsCard : Claim7 := { stood := { row := decodeFitsRow, standIns := [], harness := (true, "7c51dad4949809969cd6688ddb292907fa2e4e5ad265c4a4c996765b0282c4ee"), looks := true }, kinds := [], alts := [], laidByText := true, laidKinds := [.data, .pinned], laidTests := true, laidLooks := .later }
def DecodeFitsCardSaid : Prop := Claim7.holds Tryz.pinned (.plain (OpenSpec.ofChange decodeFitsSpec)) decodeFitsCard

/-- THE TIED CARD OF 'courierlaw11.DecodeBack'. -/
def decodeBackCard : Claim7 := { stood := { row := decodeBackRow, standIns := [], harness := (true, "7c51dad4949809969cd6688ddb292907fa2e4e5ad265c4a4c996765b0282c4ee"), looks := true }, kinds := [], alts := [], laidByText := true, laidKinds := [.data, .pinned], laidTests := true, laidLooks := .later }
def DecodeBackCardSaid : Prop := Claim7.holds Tryz.pinned (.plain (OpenSpec.ofChange decodeBackSpec)) decodeBackCard

/-- THE TIED CARD OF 'courierlaw11.DecodeTurned'. -/
def decodeTurnedCard : Claim7 := { stood := { row := decodeTurnedRow, standIns := [], harness := (true, "7c51dad4949809969cd6688ddb292907fa2e4e5ad265c4a4c996765b0282c4ee"), looks := true }, kinds := [], alts := [], laidByText := true, laidKinds := [.data, .pinned], laidTests := true, laidLooks := .later }
def DecodeTurnedCardSaid : Prop := Claim7.holds Tryz.pinned (.plain (OpenSpec.ofChange decodeTurnedSpec)) decodeTurnedCard

/-- THE SECOND FORM's CARD OF 'courierlaw09.ValueNormals'. -/
def valueNormalsUptoCard : Claim7 := { stood := { row := valueNormalsUptoRow, standIns := [], harness := (true, "7c51dad4949809969cd6688ddb292907fa2e4e5ad265c4a4c996765b0282c4ee"), looks := true }, kinds := [], alts := [], laidByText := true, laidKinds := [.data, .pinned], laidTests := true, laidLooks := .later }
def ValueNormalsUptoCardSaid : Prop := Claim7.holds Tryz.pinned (.plain (OpenSpec.upto valueNormalsSpec)) valueNormalsUptoCard

/-- THE SECOND FORM's CARD OF 'courierlaw10.EncodeBytes'. -/
def encodeBytesUptoCard : Claim7 := { stood := { row := encodeBytesUptoRow, standIns := [], harness := (true, "7c51dad4949809969cd6688ddb292907fa2e4e5ad265c4a4c996765b0282c4ee"), looks := true }, kinds := [], alts := [], laidByText := true, laidKinds := [.data, .pinned], laidTests := true, laidLooks := .later }
def EncodeBytesUptoCardSaid : Prop := Claim7.holds Tryz.pinned (.plain (OpenSpec.upto encodeBytesSpec)) encodeBytesUptoCard

/-- THE SECOND FORM's CARD OF 'courierlaw11.DecodeBytes'. -/
def decodeBytesUptoCard : Claim7 := { stood := { row := decodeBytesUptoRow, standIns := [], harness := (true, "7c51dad4949809969cd6688ddb292907fa2e4e5ad265c4a4c996765b0282c4ee"), looks := true }, kinds := [], alts := [], laidByText := true, laidKinds := [.data, .pinned], laidTests := true, laidLooks := .later }
def DecodeBytesUptoCardSaid : Prop := Claim7.holds Tryz.pinned (.plain (OpenSpec.upto decodeBytesSpec)) decodeBytesUptoCard

/-- THE SECOND FORM's CARD OF 'courierlaw11.DecodeFits'. -/
def decodeFitsUptoCard : Claim7 := { stood := { row := decodeFitsUptoRow, standIns := [], harness := (true, "7c51dad4949809969cd6688ddb292907fa2e4e5ad265c4a4c996765b0282c4ee"), looks := true }, kinds := [], alts := [], laidByText := true, laidKinds := [.data, .pinned], laidTests := true, laidLooks := .later }
def DecodeFitsUptoCardSaid : Prop := Claim7.holds Tryz.pinned (.plain (OpenSpec.upto decodeFitsSpec)) decodeFitsUptoCard

/-- THE SECOND FORM's CARD OF 'courierlaw11.DecodeBack'. -/
def decodeBackUptoCard : Claim7 := { stood := { row := decodeBackUptoRow, standIns := [], harness := (true, "7c51dad4949809969cd6688ddb292907fa2e4e5ad265c4a4c996765b0282c4ee"), looks := true }, kinds := [], alts := [], laidByText := true, laidKinds := [.data, .pinned], laidTests := true, laidLooks := .later }
def DecodeBackUptoCardSaid : Prop := Claim7.holds Tryz.pinned (.plain (OpenSpec.upto decodeBackSpec)) decodeBackUptoCard

/-- THE SECOND FORM's CARD OF 'courierlaw11.DecodeTurned'. -/
def decodeTurnedUptoCard : Claim7 := { stood := { row := decodeTurnedUptoRow, standIns := [], harness := (true, "7c51dad4949809969cd6688ddb292907fa2e4e5ad265c4a4c996765b0282c4ee"), looks := true }, kinds := [], alts := [], laidByText := true, laidKinds := [.data, .pinned], laidTests := true, laidLooks := .later }
def DecodeTurnedUptoCardSaid : Prop := Claim7.holds Tryz.pinned (.plain (OpenSpec.upto decodeTurnedSpec)) decodeTurnedUptoCard
end Rows
end Go.Proofs.YtfhmombnipfimaaGreatDoor
