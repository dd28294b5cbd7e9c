/-
  Declarations in memory: what their cells hold, whichever blocks they lie in. Nothing is proved of the program here.
-/
import Derived.Below
import Derived.WalkKit
import Derived.Lib.TrimUEq
import Derived.Lib.MapLaws
import Derived.Lib.TrimAscii
import Derived.Lib.RuneBytes
import Derived.Lib.RuneCount
import Derived.ProofKit
import Derived.Laws.RangeAny
import Derived.Laws.IdiomStrings
import Derived.Lib.Strings
namespace Go.Proofs.Ytblebbmnlbmgiaa
set_option linter.unusedVariables false
open Go.RowKit

/-- a slice's elements lie in memory, in a block of S -/
def RowsIn {α : Type} (w : World) (S : Nat → Prop) (k : Nat) (row : α → List Value) (v : Value) (xs : List α) : Prop :=
  ∃ ad c, v = .slice ad xs.length c ∧ xs.length ≤ c ∧ (xs = [] ∨ ∃ g o, ad = some ⟨g, o, none⟩ ∧ S g ∧ ∀ (j : Nat) (x : α), xs[j]? = some x → ∀ (i : Nat) (u : Value), (row x)[i]? = some u → w.cell? ⟨g, o + (j * k + i), none⟩ = some u)
theorem RowsIn.nil {α : Type} (w : World) (S : Nat → Prop) (k : Nat) (row : α → List Value) (ad : Option Addr) (c : Nat) : RowsIn w S k row (.slice ad 0 c) ([] : List α) := ⟨ad, c, rfl, Nat.zero_le _, .inl rfl⟩
end Go.Proofs.Ytblebbmnlbmgiaa
