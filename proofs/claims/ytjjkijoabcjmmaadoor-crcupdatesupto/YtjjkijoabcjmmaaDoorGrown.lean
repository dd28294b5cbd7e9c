/-
  The walk over the program's inner function that copies a slice into new memory with some more room: one new block comes, the bytes and so many zeroes; nothing else changes.
-/
import Derived.Test.YtjjkijoabcjmmaaDoorRows
import Derived.Test.YtjjkijoabcjmmaaDoorMem
namespace Go.Proofs.YtjjkijoabcjmmaaDoor
set_option linter.unusedVariables false
open Go.ChangeShapes Go.WideShapes Go.ChangeAt Go.RowKit
theorem info5B : (Tryd.prog.info? 5).map (fun i => (i.zero, i.size, i.bytes)) = some (some (.int .u8 0), 1, 1) := by kernel_rfl

end Go.Proofs.YtjjkijoabcjmmaaDoor
