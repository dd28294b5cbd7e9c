/-
  The walk over whether a frame is formed, by the document's own: some of its ways.
-/
import Derived.Test.YtckbplhplpnhaaaDoorFrA
namespace Go.Proofs.YtckbplhplpnhaaaDoor
set_option linter.unusedVariables false
open Go.ChangeShapes Go.WideShapes Go.ChangeAt Go.RowKit

set_option maxHeartbeats 4000000 in
set_option maxRecDepth 20000 in
theorem formedR_n3 (k cl tk at1 fl me dl st : Int) (n : Nat) (a : Option Addr) (c : Nat) (w : World) (d0 : decide (k < 1) = false) (d1 : decide (3 < k) = false) (d2 : decide (cl < 1) = false) (c3 : 2147483647 < cl) :
    Calls Tryd.prog 13 #[.agg #[.int .i64 k, .int .i64 cl, .int .u64 tk, .int .i64 at1, .int .u64 fl, .int .i64 me, .int .i64 dl, .int .i64 st, .slice a n c]] w fun e w' => e = .returned (.bool false) ∧ Below w.heap.size w w' := by
  go_enter Tryd.func13, Tryd.ntmps13
  go_wp2
  go_ret
  exact ⟨rfl, ((Below.refl _ _).alloc (Nat.le_refl _) _)⟩
set_option maxHeartbeats 4000000 in
set_option maxRecDepth 20000 in
theorem formedR_n7 (k cl tk at1 fl me dl st : Int) (n : Nat) (a : Option Addr) (c : Nat) (w : World) (d0 : decide (k < 1) = false) (d1 : decide (3 < k) = false) (d2 : decide (cl < 1) = false) (d3 : decide (2147483647 < cl) = false) (d4 : decide (tk < 1) = false) (d5 : decide (at1 < 0) = false) (d6 : decide (5 < at1) = false) (c7 : fl < 1) :
    Calls Tryd.prog 13 #[.agg #[.int .i64 k, .int .i64 cl, .int .u64 tk, .int .i64 at1, .int .u64 fl, .int .i64 me, .int .i64 dl, .int .i64 st, .slice a n c]] w fun e w' => e = .returned (.bool false) ∧ Below w.heap.size w w' := by
  go_enter Tryd.func13, Tryd.ntmps13
  go_wp2
  go_ret
  exact ⟨rfl, ((Below.refl _ _).alloc (Nat.le_refl _) _)⟩
set_option maxHeartbeats 4000000 in
set_option maxRecDepth 20000 in
theorem formedR_n11 (k cl tk at1 fl me dl st : Int) (n : Nat) (a : Option Addr) (c : Nat) (w : World) (d0 : decide (k < 1) = false) (d1 : decide (3 < k) = false) (d2 : decide (cl < 1) = false) (d3 : decide (2147483647 < cl) = false) (d4 : decide (tk < 1) = false) (d5 : decide (at1 < 0) = false) (d6 : decide (5 < at1) = false) (d7 : decide (fl < 1) = false) (d8 : decide (tk < fl) = false) (d9 : decide (me < 0) = false) (d10 : decide (2147483647 < me) = false) (c11 : dl < 0) :
    Calls Tryd.prog 13 #[.agg #[.int .i64 k, .int .i64 cl, .int .u64 tk, .int .i64 at1, .int .u64 fl, .int .i64 me, .int .i64 dl, .int .i64 st, .slice a n c]] w fun e w' => e = .returned (.bool false) ∧ Below w.heap.size w w' := by
  go_enter Tryd.func13, Tryd.ntmps13
  go_wp2
  go_ret
  exact ⟨rfl, ((Below.refl _ _).alloc (Nat.le_refl _) _)⟩
set_option maxHeartbeats 4000000 in
set_option maxRecDepth 20000 in
theorem formedR_n15 (k cl tk at1 fl me dl st : Int) (n : Nat) (a : Option Addr) (c : Nat) (w : World) (d0 : decide (k < 1) = false) (d1 : decide (3 < k) = false) (d2 : decide (cl < 1) = false) (d3 : decide (2147483647 < cl) = false) (d4 : decide (tk < 1) = false) (d5 : decide (at1 < 0) = false) (d6 : decide (5 < at1) = false) (d7 : decide (fl < 1) = false) (d8 : decide (tk < fl) = false) (d9 : decide (me < 0) = false) (d10 : decide (2147483647 < me) = false) (d11 : decide (dl < 0) = false) (d12 : decide (1099511627776 < dl) = false) (d13 : decide (st < 0) = false) (d14 : decide (255 < st) = false) (c15 : 4096 < (n : Int)) :
    Calls Tryd.prog 13 #[.agg #[.int .i64 k, .int .i64 cl, .int .u64 tk, .int .i64 at1, .int .u64 fl, .int .i64 me, .int .i64 dl, .int .i64 st, .slice a n c]] w fun e w' => e = .returned (.bool false) ∧ Below w.heap.size w w' := by
  go_enter Tryd.func13, Tryd.ntmps13
  go_wp2
  go_ret
  exact ⟨rfl, ((Below.refl _ _).alloc (Nat.le_refl _) _)⟩
set_option maxHeartbeats 4000000 in
set_option maxRecDepth 20000 in
theorem formedR_d (k cl tk at1 fl me dl st : Int) (n : Nat) (a : Option Addr) (c : Nat) (w : World) (d0 : decide (k < 1) = false) (d1 : decide (3 < k) = false) (d2 : decide (cl < 1) = false) (d3 : decide (2147483647 < cl) = false) (d4 : decide (tk < 1) = false) (d5 : decide (at1 < 0) = false) (d6 : decide (5 < at1) = false) (d7 : decide (fl < 1) = false) (d8 : decide (tk < fl) = false) (d9 : decide (me < 0) = false) (d10 : decide (2147483647 < me) = false) (d11 : decide (dl < 0) = false) (d12 : decide (1099511627776 < dl) = false) (d13 : decide (st < 0) = false) (d14 : decide (255 < st) = false) (d15 : decide (4096 < (n : Int)) = false) (hk : k = 3) (hn : n = 0) (hs : st = 0) :
    Calls Tryd.prog 13 #[.agg #[.int .i64 k, .int .i64 cl, .int .u64 tk, .int .i64 at1, .int .u64 fl, .int .i64 me, .int .i64 dl, .int .i64 st, .slice a n c]] w fun e w' => e = .returned (.bool true) ∧ Below w.heap.size w w' := by
  subst hk hn hs
  go_enter Tryd.func13, Tryd.ntmps13
  go_wp2
  go_ret
  exact ⟨rfl, ((Below.refl _ _).alloc (Nat.le_refl _) _)⟩
end Go.Proofs.YtckbplhplpnhaaaDoor
