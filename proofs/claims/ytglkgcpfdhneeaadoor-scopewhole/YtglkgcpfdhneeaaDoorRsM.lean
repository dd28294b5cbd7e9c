/-
  Which words are types, and which are reserved. Nothing is proved of the program here.
-/
import Derived.Test.YtglkgcpfdhneeaaDoorRn
namespace Go.Proofs.YtglkgcpfdhneeaaDoor
set_option linter.unusedVariables false

/-- the kind of a type by a word; 0: it is none -/
def scalarOf (l : List UInt8) : Int :=
  if (l == [105, 110, 116, 54, 52]) = true then 1 else if (l == [117, 105, 110, 116, 54, 52]) = true then 2 else if (l == [115, 105, 110, 116, 54, 52]) = true then 3
  else if (l == [98, 111, 111, 108]) = true then 4 else if (l == [115, 116, 114, 105, 110, 103]) = true then 5 else if (l == [98, 121, 116, 101, 115]) = true then 6
  else if (l == [102, 105, 120, 101, 100, 51, 50]) = true then 7 else if (l == [102, 105, 120, 101, 100, 54, 52]) = true then 8 else 0
/-- whether a word is reserved -/
def resOf (l : List UInt8) : Bool :=
  l == [109, 101, 115, 115, 97, 103, 101] || l == [101, 110, 117, 109] || l == [115, 101, 114, 118, 105, 99, 101] || l == [114, 112, 99] || l == [114, 101, 116, 117, 114, 110, 115] || l == [114, 101, 112, 101, 97, 116, 101, 100] || decide (0 < scalarOf l)
end Go.Proofs.YtglkgcpfdhneeaaDoor
