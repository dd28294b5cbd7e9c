/-
  What is read of words is so short that slices of it can be made. Nothing is proved of the program here.
-/
import Derived.Test.YtglkgcpfdhneeaaDoorPsM
namespace Go.Proofs.YtglkgcpfdhneeaaDoor
set_option linter.unusedVariables false

/-- so many, and so deep, that slices of them can be made -/
def FitD : Nat → List Dc → Prop
  | 0, ds => True
  | f + 1, ds => ds.length ≤ 100000 ∧ ∀ d ∈ ds, d.fields.length ≤ 100000 ∧ d.values.length ≤ 100000 ∧ d.methods.length ≤ 100000 ∧ FitD f d.inner
end Go.Proofs.YtglkgcpfdhneeaaDoor
