/-
  The walks over the program's own stripFields, stripValues and stripMethods.
-/
import Derived.Test.YtglkgcpfdhneeaaDoorDpK
import Derived.Test.YtglkgcpfdhneeaaDoorDvT
import Derived.Test.YtglkgcpfdhneeaaDoorShD
import Derived.Test.YtglkgcpfdhneeaaDoorDev
import Derived.Test.YtglkgcpfdhneeaaDoorLxA
import Derived.Test.YtglkgcpfdhneeaaDoorProg
import Derived.Test.YtglkgcpfdhneeaaDoorPsM
import Derived.Test.YtglkgcpfdhneeaaDoorLxR
import Derived.Deep.RegionHeldLaw
import Derived.Deep.DeepCutAuto
import Derived.Lib.IndexBytes
import Derived.Laws.AppendOwn
import Derived.OwnWalk
import Derived.Deep.AppendLies
import Derived.WalkSmall
import Derived.Lib.OthersKept
import Derived.Deep.RegionWith
import Derived.Deep.QuietTactic
import Derived.BigQuiet
import Derived.Deep.RegionLaw
import Derived.Lib.ParseIntB
import Derived.Lib.Bytealg
namespace Go.Proofs.YtglkgcpfdhneeaaDoor
set_option linter.unusedVariables false
open Go.ChangeShapes Go.WideShapes Go.ChangeAt Go.RowKit

theorem cloneB_any (s : ByteArray) (w : World) (hs : s.size ≤ 281474976710656) :
    Calls Tryd.prog 33 #[.string s] w fun e w' => e = .returned (.string s) ∧ Below w.heap.size w w' := by
  have h := stringslite_Clone s w hs
  go_enter Tryd.func33, Tryd.ntmps33
  go_wp2_with fail
  refine h.mono ?_
  rintro e w1 ⟨rfl, hb⟩
  go_wp2_with fail
  go_ret
  exact ⟨rfl, hb⟩
end Go.Proofs.YtglkgcpfdhneeaaDoor
