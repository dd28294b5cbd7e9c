/-
  What was encoded is decoded as its normal value: the arithmetic. Nothing is proved of the program here.
-/
import Derived.Test.YtknijddlacmelaaDoorM18
import Derived.Test.YtknijddlacmelaaDoorM10
import Derived.Test.YtknijddlacmelaaDoorM3
import Derived.Test.YtknijddlacmelaaDoorRows
import Derived.Test.YtknijddlacmelaaDoorM11
import Derived.Test.YtknijddlacmelaaDoorM4
import Derived.Test.YtknijddlacmelaaDoorM12
import Derived.Test.YtknijddlacmelaaDoorM13
import Derived.Test.YtknijddlacmelaaDoorM16
import Derived.Test.YtknijddlacmelaaDoorM22
import Derived.Test.YtknijddlacmelaaDoorM30
import Derived.Test.YtknijddlacmelaaDoorM31
import Derived.Test.YtknijddlacmelaaDoorM32
import Derived.Test.YtknijddlacmelaaDoorM33
import Derived.Test.YtknijddlacmelaaDoorM5
import Derived.Test.YtknijddlacmelaaDoorM14
import Derived.Lib.SmallJoins
import Derived.Lib.AppendStr
import Derived.Lib.Zigzag
import Derived.Lib.SlBytesConst
import Derived.Laws.BytesArg
import Derived.Laws.BytesString
import Derived.Laws.Concat
import Derived.Laws.Strings
import Derived.Defers
import Derived.Recover
import Derived.Laws.Pointers
import Derived.Lib.IfaceEq
namespace Go.Proofs.YtknijddlacmelaaDoor
set_option linter.unusedVariables false

theorem SlIn.map {α β : Type} {S : Nat → Prop} {k : Nat} {R : α → Nat → Nat → Prop} {R' : β → Nat → Nat → Prop} {v : Value} {xs : List α} {g : α → β} (h : SlIn S k R v xs) (hR : ∀ x a o, R x a o → R' (g x) a o) : SlIn S k R' v (xs.map g) := by
  obtain ⟨ad, c, hv, hc, h⟩ := h
  refine ⟨ad, c, by rw [hv, List.length_map], by rw [List.length_map]; exact hc, ?_⟩
  rcases h with rfl | ⟨a, o, ha, hg, h⟩
  · exact .inl rfl
  · refine .inr ⟨a, o, ha, hg, fun j x hj => ?_⟩
    rw [List.getElem?_map] at hj
    obtain ⟨y, hy, rfl⟩ := Option.map_eq_some_iff.1 hj
    exact hR y a _ (h j y hy)
/-- the values of the field of that number -/
def lookF : List (Int × List Nd) → Int → Option (List Nd)
  | [], _ => none
  | p :: t, n => if p.1 = n then some p.2 else lookF t n
end Go.Proofs.YtknijddlacmelaaDoor
