/-
  Messages in one another: what their text declares. Facts of the plain functions: nothing is proved of the program here.
-/
import Derived.Test.YtbfkaanmbdekfaaDoorAw5
namespace Go.Proofs.YtbfkaanmbdekfaaDoor
set_option linter.unusedVariables false

/-- so many times one behind the other -/
def reps : Nat → List UInt8 → List UInt8
  | 0, _ => []
  | k + 1, l => reps k l ++ l
abbrev deepT (k : Nat) (c : UInt8) : List UInt8 := reps k ([109, 101, 115, 115, 97, 103, 101, 32] ++ [c] ++ [32, 123, 32]) ++ reps k [125]
/-- how deep single declarations lie in one another -/
def depthC : Nat → List Dc → Nat
  | 0, _ => 0
  | f + 1, ds => match ds with
    | [d] => 1 + depthC f d.inner
    | _ => 0
theorem deep_some : ∀ k : Fin 8, ∀ c : Fin 26, (fileL (deepT (k.val + 1) (UInt8.ofNat (97 + c.val)))).2.2 = 0 ∧ depthC 10 (fileL (deepT (k.val + 1) (UInt8.ofNat (97 + c.val)))).1 = k.val + 1 := by
  decide +kernel
theorem deep_more : ∀ k : Fin 4, ∀ c : Fin 26, (fileL (deepT (k.val + 9) (UInt8.ofNat (97 + c.val)))).2 = ((1, 97), 8) ∧ (fileL (deepT (k.val + 9) (UInt8.ofNat (97 + c.val)))).1.length = 0 := by
  decide +kernel
end Go.Proofs.YtbfkaanmbdekfaaDoor
