/-
  The walk over the program's own Read.
-/
import Derived.Test.YtkhnicppcbgdiaaGreatDoorM10
namespace Go.Proofs.YtkhnicppcbgdiaaGreatDoor
set_option linter.unusedVariables false
open Go.ChangeShapes Go.WideShapes Go.ChangeAt Go.RowKit

theorem rrow_len (r : Rw) : (rrow r).length = 5 := rfl
end Go.Proofs.YtkhnicppcbgdiaaGreatDoor
