/-
  The walk over the document's own small, of any declarations that a machine can hold: it keeps what it was handed; if its answer is not below 0, all lists and texts are short.
-/
import Derived.Test.YtglkgcpfdhneeaaDoorPsC
import Derived.Test.YtglkgcpfdhneeaaDoorStD
import Derived.Test.YtglkgcpfdhneeaaDoorDvT
import Derived.Lib.SlicesS
import Derived.Deep.Cut
import Derived.Deep.DeepCutAuto
import Derived.BigQuiet
import Derived.Deep.QuietTactic
namespace Go.Proofs.YtglkgcpfdhneeaaDoor
set_option linter.unusedVariables false
open Go.ChangeShapes Go.WideShapes Go.ChangeAt Go.RowKit
/-- no length is above a bound -/
def FitW : Nat → List Dc → Prop
  | 0, ds => True
  | f + 1, ds => ds.length ≤ 140737488355328 ∧ ∀ d ∈ ds, d.name.length ≤ 140737488355328 ∧ d.fields.length ≤ 140737488355328 ∧ d.values.length ≤ 140737488355328 ∧ d.methods.length ≤ 140737488355328 ∧
      (∀ x ∈ d.fields, x.type.length ≤ 140737488355328 ∧ x.name.length ≤ 140737488355328) ∧ (∀ x ∈ d.values, x.name.length ≤ 140737488355328) ∧ (∀ x ∈ d.methods, x.name.length ≤ 140737488355328 ∧ x.inp.length ≤ 140737488355328 ∧ x.out.length ≤ 140737488355328) ∧ FitW f d.inner
/-- what one declaration's texts are -/
def TxtO (f : Nat) (d : Dc) : Prop := d.name.length ≤ 200000000 ∧ (∀ x ∈ d.fields, x.type.length ≤ 200000000 ∧ x.name.length ≤ 200000000) ∧ (∀ x ∈ d.values, x.name.length ≤ 200000000) ∧ (∀ x ∈ d.methods, x.name.length ≤ 200000000 ∧ x.inp.length ≤ 200000000 ∧ x.out.length ≤ 200000000) ∧ TxtD f d.inner
end Go.Proofs.YtglkgcpfdhneeaaDoor
