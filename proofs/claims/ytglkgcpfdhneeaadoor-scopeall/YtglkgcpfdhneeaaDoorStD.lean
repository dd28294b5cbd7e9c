/-
  The walk over the program's own Strip.
-/
import Derived.Test.YtglkgcpfdhneeaaDoorStS
namespace Go.Proofs.YtglkgcpfdhneeaaDoor
set_option linter.unusedVariables false
open Go.ChangeShapes Go.WideShapes Go.ChangeAt Go.RowKit

/-- texts short enough to be copied -/
def TxtD : Nat → List Dc → Prop
  | 0, _ => True
  | f + 1, ds => ∀ d ∈ ds, d.name.length ≤ 200000000 ∧ (∀ x ∈ d.fields, x.type.length ≤ 200000000 ∧ x.name.length ≤ 200000000) ∧ (∀ x ∈ d.values, x.name.length ≤ 200000000) ∧ (∀ x ∈ d.methods, x.name.length ≤ 200000000 ∧ x.inp.length ≤ 200000000 ∧ x.out.length ≤ 200000000) ∧ TxtD f d.inner
end Go.Proofs.YtglkgcpfdhneeaaDoor
