/-
  The two tables of the library that the row lists, as the word of this seat. Nothing is proved of the program here.
-/
import Derived.Test.YthlcnofpgmpinaaDoorShelf
import Derived.Below
namespace Go.Proofs.YthlcnofpgmpinaaDoor
/-- the library's two tables lie in the world -/
def Tabs (w : World) : Prop := Lib.Utf8Tabs (lays196_ren.g 3) (lays196_ren.g 4) w
theorem tabs_below {w w' : World} (h : Tabs w) (hb : RowKit.Below w.heap.size w w') : Tabs w' := Utf8Tabs_below h hb
end Go.Proofs.YthlcnofpgmpinaaDoor
