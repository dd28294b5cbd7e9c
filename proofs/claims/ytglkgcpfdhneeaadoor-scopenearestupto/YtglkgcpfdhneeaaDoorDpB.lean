/-
  The walks over the program's own reader: want, name and number.
-/
import Derived.Test.YtglkgcpfdhneeaaDoorPsW
import Derived.Test.YtglkgcpfdhneeaaDoorPsM
import Derived.Test.YtglkgcpfdhneeaaDoorProg
import Derived.Test.YtglkgcpfdhneeaaDoorDev
import Derived.Test.YtglkgcpfdhneeaaDoorShD
import Derived.Deep.Cut
import Derived.Deep.DeepCutAuto
namespace Go.Proofs.YtglkgcpfdhneeaaDoor
set_option linter.unusedVariables false
open Go.ChangeShapes Go.WideShapes Go.ChangeAt Go.RowKit

set_option maxHeartbeats 2000000 in
theorem reservedD_any (s : ByteArray) (w : World) :
    Calls Tryd.prog 32 #[.string s] w fun e w' => e = .returned (.bool (resOf s.toList)) ∧ w' = w := by
  go_enter Tryd.func32, Tryd.ntmps32
  go_wp2
  all_goals
    go_ret
    refine ⟨retB ?_, rfl⟩
    unfold resOf scalarOf
    first
      | (simp [*]; done)
      | simp_all
theorem cell_lt {w : World} {g o : Nat} {v : Value} (h : w.cell? ⟨g, o, none⟩ = some v) : g < w.heap.size := by
  by_cases hl : g < w.heap.size
  · exact hl
  · have : w.heap[g]? = none := Array.getElem?_eq_none (by omega)
    simp [World.cell?, this] at h
end Go.Proofs.YtglkgcpfdhneeaaDoor
