/-
  DERIVED. GIVEN WITH THE SEED: THE CARDS: each row of YtnopnjklcdcckaaGreatDoorRows.lean that lists a variable, with what it lists TIED to the program's text (the seventh form; the later family's looks); each row that meets fmt, with fmt's text TOLD by the authors' own Lean function (tested against real Go, not proved from fmt's source: count such statements apart). THE CARD IS WHAT COUNTS. Prove the row's statement (the work); the ties are given (YtnopnjklcdcckaaGreatDoorTie.lean); close each card by the builder's one call (the guide's Derived/Test/ToyasCard.lean, 'card_holds'). Laid BY PROGRAM, IN A SANDBOX (cutbox-door.mjs). By AI agents, Wed Nov 11 2026. No macro, syntax, notation, axiom, sorry.
-/
import Derived.Test.YtnopnjklcdcckaaGreatDoorRows
import GoSem.ClaimSeven
namespace Go.Proofs.YtnopnjklcdcckaaGreatDoor
namespace Rows

/-- THE TIED CARD OF 'courierlaw11.DecodeFits'. -/
def decodeFitsCard : Claim7 := { stood := { row := decodeFitsRow, standIns := [], harness := (true, "e5d0552de261195cb0f31253c4dcdfd63290906dce2207d77227cc8a767db8d6"), looks := true }, kinds := [], alts := [], laidByText := true, laidKinds := [.data, .pinned], laidTests := true, laidLooks := .later }
def DecodeFitsCardSaid : Prop := Claim7.holds Tryz.pinned (.plain (OpenSpec.ofChange decodeFitsSpec)) decodeFitsCard

/-- THE TIED CARD OF 'courierlaw11.DecodeBack'. -/
def decodeBackCard : Claim7 := { stood := { row := decodeBackRow, standIns := [], harness := (true, "e5d0552de261195cb0f31253c4dcdfd63290906dce2207d77227cc8a767db8d6"), looks := true }, kinds := [], alts := [], laidByText := true, laidKinds := [.data, .pinned], laidTests := true, laidLooks := .later }
def DecodeBackCardSaid : Prop := Claim7.holds Tryz.pinned (.plain (OpenSpec.ofChange decodeBackSpec)) decodeBackCard

/-- THE TIED CARD OF 'courierlaw11.DecodeJoins'. -/
def decodeJoinsCard : Claim7 := { stood := { row := decodeJoinsRow, standIns := [], harness := (true, "e5d0552de261195cb0f31253c4dcdfd63290906dce2207d77227cc8a767db8d6"), looks := true }, kinds := [], alts := [], laidByText := true, laidKinds := [.data, .pinned], laidTests := true, laidLooks := .later }
def DecodeJoinsCardSaid : Prop := Claim7.holds Tryz.pinned (.plain (OpenSpec.ofChange decodeJoinsSpec)) decodeJoinsCard

/-- THE SECOND FORM's CARD OF 'courierlaw11.DecodeFits'. -/
def decodeFitsUptoCard : Claim7 := { stood := { row := decodeFitsUptoRow, standIns := [], harness := (true, "e5d0552de261195cb0f31253c4dcdfd63290906dce2207d77227cc8a767db8d6"), looks := true }, kinds := [], alts := [], laidByText := true, laidKinds := [.data, .pinned], laidTests := true, laidLooks := .later }
def DecodeFitsUptoCardSaid : Prop := Claim7.holds Tryz.pinned (.plain (OpenSpec.upto decodeFitsSpec)) decodeFitsUptoCard

/-- THE SECOND FORM's CARD OF 'courierlaw11.DecodeBack'. -/
def decodeBackUptoCard : Claim7 := { stood := { row := decodeBackUptoRow, standIns := [], harness := (true, "e5d0552de261195cb0f31253c4dcdfd63290906dce2207d77227cc8a767db8d6"), looks := true }, kinds := [], alts := [], laidByText := true, laidKinds := [.data, .pinned], laidTests := true, laidLooks := .later }
def DecodeBackUptoCardSaid : Prop := Claim7.holds Tryz.pinned (.plain (OpenSpec.upto decodeBackSpec)) decodeBackUptoCard

/-- THE SECOND FORM's CARD OF 'courierlaw11.DecodeJoins'. -/
def decodeJoinsUptoCard : Claim7 := { stood := { row := decodeJoinsUptoRow, standIns := [], harness := (true, "e5d0552de261195cb0f31253c4dcdfd63290906dce2207d77227cc8a767db8d6"), looks := true }, kinds := [], alts := [], laidByText := true, laidKinds := [.data, .pinned], laidTests := true, laidLooks := .later }
def DecodeJoinsUptoCardSaid : Prop := Claim7.holds Tryz.pinned (.plain (OpenSpec.upto decodeJoinsSpec)) decodeJoinsUptoCard
end Rows
end Go.Proofs.YtnopnjklcdcckaaGreatDoor
