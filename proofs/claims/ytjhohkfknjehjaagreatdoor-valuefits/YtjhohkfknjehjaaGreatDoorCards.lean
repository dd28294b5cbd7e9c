/-
  DERIVED. GIVEN WITH THE SEED: THE CARDS: each row of YtjhohkfknjehjaaGreatDoorRows.lean that lists a variable, with what it lists TIED to the program's text (the seventh form; the later family's looks); each row that meets fmt, with fmt's text TOLD by the authors' own Lean function (tested against real Go, not proved from fmt's source: count such statements apart). THE CARD IS WHAT COUNTS. Prove the row's statement (the work); the ties are given (YtjhohkfknjehjaaGreatDoorTie.lean); close each card by the builder's one call (the guide's Derived/Test/ToyasCard.lean, 'card_holds'). Laid BY PROGRAM, IN A SANDBOX (cutbox-door.mjs). By AI agents, Wed Nov 11 2026. No macro, syntax, notation, axiom, sorry.
-/
import Derived.Test.YtjhohkfknjehjaaGreatDoorRows
import GoSem.ClaimSeven
namespace Go.Proofs.YtjhohkfknjehjaaGreatDoor
namespace Rows

/-- THE TIED CARD OF 'courierlaw09.ValueFits'. -/
def valueFitsCard : Claim7 := { stood := { row := valueFitsRow, standIns := [], harness := (true, "7849b0f1d0ed66cba204264e7aeea45724625c4141726e3af8af029e6fb8d523"), looks := true }, kinds := [], alts := [], laidByText := true, laidKinds := [.data, .pinned], laidTests := true, laidLooks := .later }
def ValueFitsCardSaid : Prop := Claim7.holds Tryz.pinned (.plain (OpenSpec.ofChange valueFitsSpec)) valueFitsCard

/-- THE TIED CARD OF 'courierlaw09.ValueNormals'. -/
def valueNormalsCard : Claim7 := { stood := { row := valueNormalsRow, standIns := [], harness := (true, "7849b0f1d0ed66cba204264e7aeea45724625c4141726e3af8af029e6fb8d523"), looks := true }, kinds := [], alts := [], laidByText := true, laidKinds := [.data, .pinned], laidTests := true, laidLooks := .later }
def ValueNormalsCardSaid : Prop := Claim7.holds Tryz.pinned (.plain (OpenSpec.ofChange valueNormalsSpec)) valueNormalsCard

/-- THE SECOND FORM's CARD OF 'courierlaw09.ValueFits'. -/
def valueFitsUptoCard : Claim7 := { stood := { row := valueFitsUptoRow, standIns := [], harness := (true, "7849b0f1d0ed66cba204264e7aeea45724625c4141726e3af8af029e6fb8d523"), looks := true }, kinds := [], alts := [], laidByText := true, laidKinds := [.data, .pinned], laidTests := true, laidLooks := .later }
def ValueFitsUptoCardSaid : Prop := Claim7.holds Tryz.pinned (.plain (OpenSpec.upto valueFitsSpec)) valueFitsUptoCard

/-- THE SECOND FORM's CARD OF 'courierlaw09.ValueNormals'. -/
def valueNormalsUptoCard : Claim7 := { stood := { row := valueNormalsUptoRow, standIns := [], harness := (true, "7849b0f1d0ed66cba204264e7aeea45724625c4141726e3af8af029e6fb8d523"), looks := true }, kinds := [], alts := [], laidByText := true, laidKinds := [.data, .pinned], laidTests := true, laidLooks := .later }
def ValueNormalsUptoCardSaid : Prop := Claim7.holds Tryz.pinned (.plain (OpenSpec.upto valueNormalsSpec)) valueNormalsUptoCard
end Rows
end Go.Proofs.YtjhohkfknjehjaaGreatDoor
