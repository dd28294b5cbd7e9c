/-
  What is read of words has texts that are short enough to be copied. Facts of the plain functions: nothing is proved of the program here.
-/
import Derived.Test.YtglkgcpfdhneeaaDoorStD
import Derived.Test.YtglkgcpfdhneeaaDoorPsX
import Derived.Test.YtglkgcpfdhneeaaDoorPsW
namespace Go.Proofs.YtglkgcpfdhneeaaDoor
set_option linter.unusedVariables false

def TF (x : Fd) : Prop := x.type.length ≤ 200000000 ∧ x.name.length ≤ 200000000
def TV (x : Vl) : Prop := x.name.length ≤ 200000000
def TM (x : Mt) : Prop := x.name.length ≤ 200000000 ∧ x.inp.length ≤ 200000000 ∧ x.out.length ≤ 200000000
end Go.Proofs.YtglkgcpfdhneeaaDoor
