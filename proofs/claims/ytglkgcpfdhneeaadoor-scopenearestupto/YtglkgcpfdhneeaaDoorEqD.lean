/-
  The walks over the program's own Same of declarations.
-/
import Derived.Test.YtglkgcpfdhneeaaDoorPsW
import Derived.Test.YtglkgcpfdhneeaaDoorProg
import Derived.Deep.Cut
import Derived.Deep.DeepCutAuto
import Derived.Lib.SlicesS
namespace Go.Proofs.YtglkgcpfdhneeaaDoor
set_option linter.unusedVariables false
open Go.ChangeShapes Go.WideShapes Go.ChangeAt Go.RowKit

theorem RowsIn.isSl {α : Type} {w : World} {S : Nat → Prop} {k : Nat} {row : α → List Value} {v : Value} {xs : List α} (h : RowsIn w S k row v xs) : ∃ ad c, v = .slice ad xs.length c := by
  obtain ⟨ad, c, hv, _⟩ := h; exact ⟨ad, c, hv⟩
theorem HeldD.isSlD {w : World} {S : Nat → Prop} : ∀ {f : Nat} {v : Value} {ds : List Dc}, HeldD f w S v ds → ∃ ad c, v = .slice ad ds.length c
  | 0, v, ds, ⟨h, ad, c, hv⟩ => by subst h; exact ⟨ad, c, hv⟩
  | f + 1, v, ds, h => by obtain ⟨ad, c, hv, _⟩ := h; exact ⟨ad, c, hv⟩
def FitK (f : Nat) (d : Dc) : Prop := d.fields.length ≤ 100000 ∧ d.values.length ≤ 100000 ∧ d.methods.length ≤ 100000 ∧ FitD f d.inner
end Go.Proofs.YtglkgcpfdhneeaaDoor
