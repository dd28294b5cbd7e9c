/-
  The walk over the laws' own awake: one enum is printed as the document says.
-/
import Derived.Test.YtglkgcpfdhneeaaDoorWtA
import Derived.Test.YtglkgcpfdhneeaaDoorFmB
import Derived.Test.YtglkgcpfdhneeaaDoorDvT
import Derived.Test.YtglkgcpfdhneeaaDoorShD
import Derived.Test.YtglkgcpfdhneeaaDoorDev
import Derived.Test.YtglkgcpfdhneeaaDoorLxA
import Derived.Test.YtglkgcpfdhneeaaDoorProg
import Derived.Deep.RegionHeldLaw
import Derived.Deep.DeepCutAuto
import Derived.Lib.IndexBytes
import Derived.Laws.AppendOwn
import Derived.OwnWalk
import Derived.Deep.AppendLies
import Derived.WalkSmall
import Derived.Lib.OthersKept
import Derived.Deep.RegionWith
import Derived.Deep.QuietTactic
import Derived.BigQuiet
import Derived.Deep.RegionLaw
import Derived.Lib.ParseIntB
import Derived.Lib.Bytealg
namespace Go.Proofs.YtglkgcpfdhneeaaDoor
set_option linter.unusedVariables false
open Go.ChangeShapes Go.WideShapes Go.ChangeAt Go.RowKit

abbrev d6 : Dc := ⟨2, [69], 0, 0, [], [⟨[97], 0, 0, 0⟩], [], []⟩
end Go.Proofs.YtglkgcpfdhneeaaDoor
