/-
  The walk over the program's own Read.
-/
import Derived.Test.YtgfpoglbphceaaaGreatDoorM10
namespace Go.Proofs.YtgfpoglbphceaaaGreatDoor
set_option linter.unusedVariables false
open Go.ChangeShapes Go.WideShapes Go.ChangeAt Go.RowKit

theorem rrow_len (r : Rw) : (rrow r).length = 5 := rfl
end Go.Proofs.YtgfpoglbphceaaaGreatDoor
