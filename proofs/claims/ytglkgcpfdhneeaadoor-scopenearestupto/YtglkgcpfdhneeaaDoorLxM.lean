/-
  The words of a text, as plain functions over its bytes: what stands at its head, how far a name or a number goes, how far a remark; and the words with their places. Nothing is proved of the program here.
-/
import Derived.Test.YtglkgcpfdhneeaaDoorEnc
import Derived.Lib.TrimUEq
import Derived.Lib.MapLaws
import Derived.Lib.TrimAscii
namespace Go.Proofs.YtglkgcpfdhneeaaDoor
set_option linter.unusedVariables false

def mkB (l : List UInt8) : ByteArray := ⟨l.toArray⟩
theorem mkB_data (x : ByteArray) : mkB x.data.toList = x := rfl
theorem mkB_list (l : List UInt8) : (mkB l).toList = l := by rw [ByteArray.toList_eq]; rfl
end Go.Proofs.YtglkgcpfdhneeaaDoor
