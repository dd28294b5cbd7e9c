/-
  The walk over a frame's numbers, by the program.
-/
import Derived.Test.YtckbplhplpnhaaaDoorFrA
namespace Go.Proofs.YtckbplhplpnhaaaDoor
set_option linter.unusedVariables false
open Go.ChangeShapes Go.WideShapes Go.ChangeAt Go.RowKit

set_option maxHeartbeats 4000000 in
theorem numbers_any (k cl tk at1 fl me dl st : Int) (n : Nat) (a : Option Addr) (c : Nat) (w : World) (hk : 1 ≤ k ∧ k ≤ 3) (hcl : 1 ≤ cl ∧ cl ≤ 2147483647) (htk : 1 ≤ tk ∧ tk ≤ 18446744073709551615) (hat : 0 ≤ at1 ∧ at1 ≤ 5) (hfl : 1 ≤ fl ∧ fl ≤ 18446744073709551615) (hme : 0 ≤ me ∧ me ≤ 2147483647) (hdl : 0 ≤ dl ∧ dl ≤ 1099511627776) (hst : 0 ≤ st ∧ st ≤ 255) (hn : n ≤ 4096) :
    Calls Tryd.prog 18 #[.agg #[.int .i64 k, .int .i64 cl, .int .u64 tk, .int .i64 at1, .int .u64 fl, .int .i64 me, .int .i64 dl, .int .i64 st, .slice a n c]] w fun e w' => e = .returned (.agg #[.int .u64 k, .int .u64 cl, .int .u64 tk, .int .u64 at1, .int .u64 fl, .int .u64 me, .int .u64 dl, .int .u64 st, .int .u64 (n : Nat)]) ∧ Below w.heap.size w w' := by
  go_enter Tryd.func18, Tryd.ntmps18
  go_wp2
  refine bodyPost_ret (v := .agg #[.int .u64 k, .int .u64 cl, .int .u64 tk, .int .u64 at1, .int .u64 fl, .int .u64 me, .int .u64 dl, .int .u64 st, .int .u64 (n : Nat)]) (by simp [results, Tryd.results18, go_sem]) rfl ?_
  exact ⟨rfl, ((Below.refl _ _).alloc (Nat.le_refl _) _).alloc (by simp) _⟩
end Go.Proofs.YtckbplhplpnhaaaDoor
