/-
  DERIVED. GIVEN WITH THE SEED: THE CARDS: each row of YtfhmombnipfimabGreatDoorRows.lean that lists a variable, with what it lists TIED to the program's text (the seventh form; the later family's looks); each row that meets fmt, with fmt's text TOLD by the authors' own Lean function (tested against real Go, not proved from fmt's source: count such statements apart). THE CARD IS WHAT COUNTS. Prove the row's statement (the work); the ties are given (YtfhmombnipfimabGreatDoorTie.lean); close each card by the builder's one call (the guide's Derived/Test/ToyasCard.lean, 'card_holds'). Laid BY PROGRAM, IN A SANDBOX (cutbox-door.mjs). By AI agents, Wed Nov 11 2026. No macro, syntax, notation, axiom, sorry.
-/
import Derived.Test.YtfhmombnipfimabGreatDoorRows
import GoSem.ClaimSeven
namespace Go.Proofs.YtfhmombnipfimabGreatDoor
namespace Rows

/-- THE TIED CARD OF 'courierlaw11.DecodeJoins'. -/
def decodeJoinsCard : Claim7 := { stood := { row := decodeJoinsRow, standIns := [], harness := (true, "d40458a972031a9abe288748073039b0778d6b53a5ca18d05545e153f4c2fae7"), looks := true }, kinds := [], alts := [], laidByText := true, laidKinds := [.data, .pinned], laidTests := true, laidLooks := .later }
def DecodeJoinsCardSaid : Prop := Claim7.holds Tryz.pinned (.plain (OpenSpec.ofChange decodeJoinsSpec)) decodeJoinsCard

/-- THE TIED CARD OF 'courierlaw11.DecodePacked'. -/
def decodePackedCard : Claim7 := { stood := { row := decodePackedRow, standIns := [], harness := (true, "d40458a972031a9abe288748073039b0778d6b53a5ca18d05545e153f4c2fae7"), looks := true }, kinds := [], alts := [], laidByText := true, laidKinds := [.data, .pinned], laidTests := true, laidLooks := .later }
def DecodePackedCardSaid : Prop := Claim7.holds Tryz.pinned (.plain (OpenSpec.ofChange decodePackedSpec)) decodePackedCard

/-- THE TIED CARD OF 'courierlaw11.DecodeUnknown'. -/
def decodeUnknownCard : Claim7 := { stood := { row := decodeUnknownRow, standIns := [], harness := (true, "d40458a972031a9abe288748073039b0778d6b53a5ca18d05545e153f4c2fae7"), looks := true }, kinds := [], alts := [], laidByText := true, laidKinds := [.data, .pinned], laidTests := true, laidLooks := .later }
def DecodeUnknownCardSaid : Prop := Claim7.holds Tryz.pinned (.plain (OpenSpec.ofChange decodeUnknownSpec)) decodeUnknownCard

/-- THE SECOND FORM's CARD OF 'courierlaw11.DecodeJoins'. -/
def decodeJoinsUptoCard : Claim7 := { stood := { row := decodeJoinsUptoRow, standIns := [], harness := (true, "d40458a972031a9abe288748073039b0778d6b53a5ca18d05545e153f4c2fae7"), looks := true }, kinds := [], alts := [], laidByText := true, laidKinds := [.data, .pinned], laidTests := true, laidLooks := .later }
def DecodeJoinsUptoCardSaid : Prop := Claim7.holds Tryz.pinned (.plain (OpenSpec.upto decodeJoinsSpec)) decodeJoinsUptoCard

/-- THE SECOND FORM's CARD OF 'courierlaw11.DecodePacked'. -/
def decodePackedUptoCard : Claim7 := { stood := { row := decodePackedUptoRow, standIns := [], harness := (true, "d40458a972031a9abe288748073039b0778d6b53a5ca18d05545e153f4c2fae7"), looks := true }, kinds := [], alts := [], laidByText := true, laidKinds := [.data, .pinned], laidTests := true, laidLooks := .later }
def DecodePackedUptoCardSaid : Prop := Claim7.holds Tryz.pinned (.plain (OpenSpec.upto decodePackedSpec)) decodePackedUptoCard

/-- THE SECOND FORM's CARD OF 'courierlaw11.DecodeUnknown'. -/
def decodeUnknownUptoCard : Claim7 := { stood := { row := decodeUnknownUptoRow, standIns := [], harness := (true, "d40458a972031a9abe288748073039b0778d6b53a5ca18d05545e153f4c2fae7"), looks := true }, kinds := [], alts := [], laidByText := true, laidKinds := [.data, .pinned], laidTests := true, laidLooks := .later }
def DecodeUnknownUptoCardSaid : Prop := Claim7.holds Tryz.pinned (.plain (OpenSpec.upto decodeUnknownSpec)) decodeUnknownUptoCard
end Rows
end Go.Proofs.YtfhmombnipfimabGreatDoor
