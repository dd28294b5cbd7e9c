/-
  The walks over the program's own body, allFormed and Formed: whether declarations are formed.
-/
import Derived.Test.YtglkgcpfdhneeaaDoorPtE
import Derived.Test.YtglkgcpfdhneeaaDoorTxM
import Derived.Test.YtglkgcpfdhneeaaDoorEqD
import Derived.Test.YtglkgcpfdhneeaaDoorPrG
import Derived.BigQuiet
namespace Go.Proofs.YtglkgcpfdhneeaaDoor
set_option linter.unusedVariables false
open Go.ChangeShapes Go.WideShapes Go.ChangeAt Go.RowKit

def TxtK (f : Nat) (d : Dc) : Prop := d.name.length ≤ 200000000 ∧ (∀ x ∈ d.fields, TF x) ∧ (∀ x ∈ d.values, TV x) ∧ (∀ x ∈ d.methods, TM x) ∧ TxtD f d.inner
end Go.Proofs.YtglkgcpfdhneeaaDoor
