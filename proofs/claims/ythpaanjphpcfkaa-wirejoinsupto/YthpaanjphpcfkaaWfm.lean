/-
  The walks over the program's Formed and over the statements' own turning of fields: Formed says just what the document's does; a turned field is the same field. They make new memory alone.
-/
import Derived.Test.YthpaanjphpcfkaaFmd
import Derived.Handy
namespace Go.Proofs.Ythpaanjphpcfkaa
set_option linter.unusedVariables false
open Go.ChangeShapes Go.WideShapes Go.ChangeAt Go.RowKit

set_option maxHeartbeats 1000000 in
theorem formedW_any (num ty n : Int) (a : Option Addr) (len cap : Nat) (w : World) :
    Calls Try.prog 12 #[fv num ty n a len cap] w fun e w' => e = .returned (.bool (fmd num ty n len)) ∧ Below w.heap.size w w' := by
  unfold fv
  go_enter Try.func12, Try.ntmps12
  go_wp2
  all_goals
    go_ret
    refine ⟨ret_bool ?_, (Below.refl _ _).alloc (Nat.le_refl _) _⟩
    try simp only [beq_iff_eq, beq_eq_false_iff_ne, ne_eq] at *
    unfold fmd
    rw [Bool.eq_iff_iff]
    simp
    omega
set_option maxHeartbeats 1000000 in
theorem theirs_any (num ty n : Int) (a : Option Addr) (len cap : Nat) (w : World) :
    Calls Try.prog 10 #[fv num ty n a len cap] w fun e w' => e = .returned (fv num ty n a len cap) ∧ Below w.heap.size w w' := by
  unfold fv
  go_enter Try.func10, Try.ntmps10
  go_wp2
  exact bodyPost_ret (v := .agg #[.int .i64 num, .int .i64 ty, .int .u64 n, .slice a len cap]) (by simp [results, Try.results10, go_sem]) rfl ⟨rfl, by go_grown⟩
set_option maxHeartbeats 1000000 in
theorem ours_any (num ty n : Int) (a : Option Addr) (len cap : Nat) (w : World) :
    Calls Try.prog 17 #[fv num ty n a len cap] w fun e w' => e = .returned (fv num ty n a len cap) ∧ Below w.heap.size w w' := by
  unfold fv
  go_enter Try.func17, Try.ntmps17
  go_wp2
  exact bodyPost_ret (v := .agg #[.int .i64 num, .int .i64 ty, .int .u64 n, .slice a len cap]) (by simp [results, Try.results17, go_sem]) rfl ⟨rfl, by go_grown⟩
end Go.Proofs.Ythpaanjphpcfkaa
