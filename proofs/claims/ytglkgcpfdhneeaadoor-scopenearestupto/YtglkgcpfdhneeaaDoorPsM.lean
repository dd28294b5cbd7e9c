/-
  Declarations, and how they are read off the words of a text, as plain functions: a reader with the words that are left, the first error and its place. Nothing is proved of the program here.
-/
import Derived.Test.YtglkgcpfdhneeaaDoorLxA
import Derived.Test.YtglkgcpfdhneeaaDoorRsM
namespace Go.Proofs.YtglkgcpfdhneeaaDoor
set_option linter.unusedVariables false

structure Fd where
  rep : Bool
  type : List UInt8
  name : List UInt8
  num : Int
  line : Int
  col : Int
structure Vl where
  name : List UInt8
  num : Int
  line : Int
  col : Int
structure Mt where
  name : List UInt8
  inp : List UInt8
  out : List UInt8
  line : Int
  col : Int
structure Dc where
  kind : Int
  name : List UInt8
  line : Int
  col : Int
  fields : List Fd
  values : List Vl
  methods : List Mt
  inner : List Dc
/-! ### each step goes on, or ends in an error -/
end Go.Proofs.YtglkgcpfdhneeaaDoor
