/-
  The walks over the document's own Formed and Same: whether a field is one, and whether two fields are alike. They make new memory alone.
-/
import Derived.Test.YthpaanjphpcfkaaRows
import Derived.Test.YthpaanjphpcfkaaMem
import Derived.Test.YthpaanjphpcfkaaStr
namespace Go.Proofs.Ythpaanjphpcfkaa
set_option linter.unusedVariables false
open Go.ChangeShapes Go.WideShapes Go.ChangeAt Go.RowKit

/-- a field as a value -/
def fv (num ty n : Int) (a : Option Addr) (len cap : Nat) : Value := .agg #[.int .i64 num, .int .i64 ty, .int .u64 n, .slice a len cap]
/-- whether it is a field -/
def fmd (num ty n : Int) (len : Nat) : Bool :=
  decide (1 ≤ num ∧ num ≤ 536870911 ∧ (((ty = 0 ∨ ty = 1) ∧ len = 0) ∨ (ty = 5 ∧ len = 0 ∧ n < 4294967296) ∨ (ty = 2 ∧ n = 0)))
theorem ret_bool {a b : Bool} (h : a = b) : Ending.returned (.bool a) = .returned (.bool b) := by rw [h]

set_option maxHeartbeats 1000000 in
theorem formedR_any (num ty n : Int) (a : Option Addr) (len cap : Nat) (w : World) :
    Calls Try.prog 11 #[fv num ty n a len cap] w fun e w' => e = .returned (.bool (fmd num ty n len)) ∧ Below w.heap.size w w' := by
  unfold fv
  go_enter Try.func11, Try.ntmps11
  go_wp2
  all_goals
    go_ret
    refine ⟨ret_bool ?_, (Below.refl _ _).alloc (Nat.le_refl _) _⟩
    try simp only [beq_iff_eq, beq_eq_false_iff_ne, ne_eq] at *
    unfold fmd
    rw [Bool.eq_iff_iff]
    simp
    omega
/-- whether two fields are alike -/
def sameB (num ty n num' ty' n' : Int) (d d' : List Int) : Bool := decide (num = num' ∧ ty = ty' ∧ n = n' ∧ d = d')
set_option maxHeartbeats 1000000 in
theorem sameR_any (num ty n num' ty' n' : Int) (a a' : Option Addr) (len cap len' cap' : Nat) (d d' : List Int) (w : World) (hB : IsB w a len d) (hB' : IsB w a' len' d') :
    Calls Try.prog 16 #[fv num ty n a len cap, fv num' ty' n' a' len' cap'] w fun e w' => e = .returned (.bool (sameB num ty n num' ty' n' d d')) ∧ Below w.heap.size w w' := by
  have h1 : ∀ o o', (convert 22 9 (.slice a len cap)).run Try.prog ((w.alloc o).alloc o') = .ok (.string (strOfNums d)) ((w.alloc o).alloc o') :=
    fun o o' => run_str _ _ _ _ _ (isB_old hB (((Below.refl _ _).alloc (Nat.le_refl _) _).alloc (by simp) _))
  have h2 : ∀ o o', (convert 22 9 (.slice a' len' cap')).run Try.prog ((w.alloc o).alloc o') = .ok (.string (strOfNums d')) ((w.alloc o).alloc o') :=
    fun o o' => run_str _ _ _ _ _ (isB_old hB' (((Below.refl _ _).alloc (Nat.le_refl _) _).alloc (by simp) _))
  have HI : Hid (((strOfNums d).toList == (strOfNums d').toList) = decide (d = d')) := str_inj d d' (isB_bytes hB) (isB_bytes hB')
  clear hB hB'
  unfold fv
  go_enter Try.func16, Try.ntmps16
  go_wp2
  all_goals
    go_ret
    refine ⟨ret_bool ?_, ((Below.refl _ _).alloc (Nat.le_refl _) _).alloc (by simp) _⟩
    unfold sameB
    first
      | (rw [HI.out]; simp [*]; done)
      | (simp [*]; done)
end Go.Proofs.Ythpaanjphpcfkaa
