/-
  The two tables of the library that the row lists, as the word of this seat. Nothing is proved of the program here.
-/
import Derived.Test.YtpodlakkfbjhbaaDoorShelf
import Derived.Below
namespace Go.Proofs.YtpodlakkfbjhbaaDoor
/-- the library's two tables lie in the world -/
def Tabs (w : World) : Prop := Lib.Utf8Tabs (lays196_ren.g 3) (lays196_ren.g 4) w
end Go.Proofs.YtpodlakkfbjhbaaDoor
