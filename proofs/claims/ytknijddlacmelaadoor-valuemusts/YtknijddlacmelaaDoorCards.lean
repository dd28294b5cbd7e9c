/-
  DERIVED. GIVEN WITH THE SEED: THE CARDS: each row of YtknijddlacmelaaDoorRows.lean that lists a variable, with what it lists TIED to the program's text (the seventh form; the later family's looks); each row that meets fmt, with fmt's text TOLD by the authors' own Lean function (tested against real Go, not proved from fmt's source: count such statements apart). THE CARD IS WHAT COUNTS. Prove the row's statement (the work); the ties are given (YtknijddlacmelaaDoorTie.lean); close each card by the builder's one call (the guide's Derived/Test/ToyasCard.lean, 'card_holds'). Laid BY PROGRAM, IN A SANDBOX (cutbox-door.mjs). By AI agents, Wed Nov 11 2026. No macro, syntax, notation, axiom, sorry.
-/
import Derived.Test.YtknijddlacmelaaDoorRows
import GoSem.ClaimSeven
namespace Go.Proofs.YtknijddlacmelaaDoor
namespace Rows

/-- THE TIED CARD OF 'courierlaw09.ValueMusts'. -/
def valueMustsCard : Claim7 := { stood := { row := valueMustsRow, standIns := [], harness := (true, "5665d68bd76336a0ba612c0f39dd148ccdc98d032aec9950674cd0c73e4db6f1"), looks := true }, kinds := [], alts := [], laidByText := true, laidKinds := [.data, .pinned], laidTests := true, laidLooks := .later }
def ValueMustsCardSaid : Prop := Claim7.holds Tryd.pinned (.plain (OpenSpec.ofChange valueMustsSpec)) valueMustsCard

/-- THE SECOND FORM's CARD OF 'courierlaw09.ValueMusts'. -/
def valueMustsUptoCard : Claim7 := { stood := { row := valueMustsUptoRow, standIns := [], harness := (true, "5665d68bd76336a0ba612c0f39dd148ccdc98d032aec9950674cd0c73e4db6f1"), looks := true }, kinds := [], alts := [], laidByText := true, laidKinds := [.data, .pinned], laidTests := true, laidLooks := .later }
def ValueMustsUptoCardSaid : Prop := Claim7.holds Tryd.pinned (.plain (OpenSpec.upto valueMustsSpec)) valueMustsUptoCard
end Rows
end Go.Proofs.YtknijddlacmelaaDoor
