/-
  The walk over the document's own text: what it writes of one declaration that is formed.
-/
import Derived.Test.YtglkgcpfdhneeaaDoorFnR
import Derived.Test.YtglkgcpfdhneeaaDoorSlC
import Derived.Test.YtglkgcpfdhneeaaDoorAw6
import Derived.BigQuiet
namespace Go.Proofs.YtglkgcpfdhneeaaDoor
set_option linter.unusedVariables false
open Go.ChangeShapes Go.WideShapes Go.ChangeAt Go.RowKit

theorem sumS (a b : ByteArray) (n : Nat) (ha : a.size ≤ n) (hn : n + b.size ≤ 9223372036854775807) (W : World) : (Op.stringOp .add a b).run Tryd.prog W = .ok (.string (a ++ b)) W :=
  run_string_add_sum W _ _ (by omega)
end Go.Proofs.YtglkgcpfdhneeaaDoor
