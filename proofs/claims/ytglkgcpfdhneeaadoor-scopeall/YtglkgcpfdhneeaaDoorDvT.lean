/-
  The walks over the program's own remarkSize, nameSize, numberSize, take and behind.
-/
import Derived.Test.YtglkgcpfdhneeaaDoorShD
import Derived.Test.YtglkgcpfdhneeaaDoorDev
import Derived.Test.YtglkgcpfdhneeaaDoorLxA
import Derived.Lib.ParseIntB
import Derived.Lib.Bytealg
namespace Go.Proofs.YtglkgcpfdhneeaaDoor
set_option linter.unusedVariables false
open Go.ChangeShapes Go.WideShapes Go.ChangeAt Go.RowKit

theorem mkB_size (l : List UInt8) : (mkB l).size = l.length := by
  have := len_data (mkB l)
  rw [← this]; rfl
end Go.Proofs.YtglkgcpfdhneeaaDoor
