/-
  DERIVED. GIVEN WITH THE SEED: THE CARDS: each row of YteajlfgbmefncaaGreatDoorRows.lean that lists a variable, with what it lists TIED to the program's text (the seventh form; the later family's looks); each row that meets fmt, with fmt's text TOLD by the authors' own Lean function (tested against real Go, not proved from fmt's source: count such statements apart). THE CARD IS WHAT COUNTS. Prove the row's statement (the work); the ties are given (YteajlfgbmefncaaGreatDoorTie.lean); close each card by the builder's one call (the guide's Derived/Test/ToyasCard.lean, 'card_holds'). Laid BY PROGRAM, IN A SANDBOX (cutbox-door.mjs). By AI agents, Wed Nov 11 2026. No macro, syntax, notation, axiom, sorry.
-/
import Derived.Test.YteajlfgbmefncaaGreatDoorRows
import GoSem.ClaimSeven
namespace Go.Proofs.YteajlfgbmefncaaGreatDoor
namespace Rows

/-- THE TIED CARD OF 'courierlaw11.DecodeBytes'. -/
def decodeBytesCard : Claim7 := { stood := { row := decodeBytesRow, standIns := [], harness := (true, "d4d954788e4ace6bd44dfe9e3433f6eedba9be5bf5925dfe2f6d30e606b31ae5"), looks := true }, kinds := [], alts := [], laidByText := true, laidKinds := [.data, .pinned], laidTests := true, laidLooks := .later }
def DecodeBytesCardSaid : Prop := Claim7.holds Tryz.pinned (.plain (OpenSpec.ofChange decodeBytesSpec)) decodeBytesCard

/-- THE TIED CARD OF 'courierlaw11.DecodeTurned'. -/
def decodeTurnedCard : Claim7 := { stood := { row := decodeTurnedRow, standIns := [], harness := (true, "d4d954788e4ace6bd44dfe9e3433f6eedba9be5bf5925dfe2f6d30e606b31ae5"), looks := true }, kinds := [], alts := [], laidByText := true, laidKinds := [.data, .pinned], laidTests := true, laidLooks := .later }
def DecodeTurnedCardSaid : Prop := Claim7.holds Tryz.pinned (.plain (OpenSpec.ofChange decodeTurnedSpec)) decodeTurnedCard

/-- THE SECOND FORM's CARD OF 'courierlaw11.DecodeBytes'. -/
def decodeBytesUptoCard : Claim7 := { stood := { row := decodeBytesUptoRow, standIns := [], harness := (true, "d4d954788e4ace6bd44dfe9e3433f6eedba9be5bf5925dfe2f6d30e606b31ae5"), looks := true }, kinds := [], alts := [], laidByText := true, laidKinds := [.data, .pinned], laidTests := true, laidLooks := .later }
def DecodeBytesUptoCardSaid : Prop := Claim7.holds Tryz.pinned (.plain (OpenSpec.upto decodeBytesSpec)) decodeBytesUptoCard

/-- THE SECOND FORM's CARD OF 'courierlaw11.DecodeTurned'. -/
def decodeTurnedUptoCard : Claim7 := { stood := { row := decodeTurnedUptoRow, standIns := [], harness := (true, "d4d954788e4ace6bd44dfe9e3433f6eedba9be5bf5925dfe2f6d30e606b31ae5"), looks := true }, kinds := [], alts := [], laidByText := true, laidKinds := [.data, .pinned], laidTests := true, laidLooks := .later }
def DecodeTurnedUptoCardSaid : Prop := Claim7.holds Tryz.pinned (.plain (OpenSpec.upto decodeTurnedSpec)) decodeTurnedUptoCard
end Rows
end Go.Proofs.YteajlfgbmefncaaGreatDoor
