/-
  The walk over whether a frame is formed, by the program: some of its ways.
-/
import Derived.Test.YtckbplhplpnhaaaDoorFrA
namespace Go.Proofs.YtckbplhplpnhaaaDoor
set_option linter.unusedVariables false
open Go.ChangeShapes Go.WideShapes Go.ChangeAt Go.RowKit

set_option maxHeartbeats 4000000 in
set_option maxRecDepth 20000 in
theorem formed_n7 (k cl tk at1 fl me dl st : Int) (n : Nat) (a : Option Addr) (c : Nat) (w : World) (hb : okK k st n = true) (c0 : 1 ≤ cl) (c1 : cl ≤ 2147483647) (c2 : 1 ≤ tk) (c3 : 0 ≤ at1) (c4 : at1 < 6) (c5 : 1 ≤ fl) (c6 : fl ≤ tk) (d7 : decide (0 ≤ me) = false) :
    Calls Tryd.prog 12 #[.agg #[.int .i64 k, .int .i64 cl, .int .u64 tk, .int .i64 at1, .int .u64 fl, .int .i64 me, .int .i64 dl, .int .i64 st, .slice a n c]] w fun e w' => e = .returned (.bool false) ∧ Below w.heap.size w w' := by
  have HK := fun wx => kind_any k cl tk at1 fl me dl st n a c wx
  rw [hb] at HK
  clear hb
  go_enter Tryd.func12, Tryd.ntmps12
  go_wp2_with (go_at_call 23; refine (HK _).mono ?_; rintro e w1 ⟨rfl, hb1⟩; have HX := Lib.hid hb1; obtain ⟨q0, q1, q2, q3, q4, q5, q6, q7, q8⟩ := box9 hb1 (by simp); clear hb1)
  go_ret
  exact ⟨rfl, below_two HX.out⟩
set_option maxHeartbeats 4000000 in
set_option maxRecDepth 20000 in
theorem formed_n8 (k cl tk at1 fl me dl st : Int) (n : Nat) (a : Option Addr) (c : Nat) (w : World) (hb : okK k st n = true) (c0 : 1 ≤ cl) (c1 : cl ≤ 2147483647) (c2 : 1 ≤ tk) (c3 : 0 ≤ at1) (c4 : at1 < 6) (c5 : 1 ≤ fl) (c6 : fl ≤ tk) (c7 : 0 ≤ me) (d8 : decide (me ≤ 2147483647) = false) :
    Calls Tryd.prog 12 #[.agg #[.int .i64 k, .int .i64 cl, .int .u64 tk, .int .i64 at1, .int .u64 fl, .int .i64 me, .int .i64 dl, .int .i64 st, .slice a n c]] w fun e w' => e = .returned (.bool false) ∧ Below w.heap.size w w' := by
  have HK := fun wx => kind_any k cl tk at1 fl me dl st n a c wx
  rw [hb] at HK
  clear hb
  go_enter Tryd.func12, Tryd.ntmps12
  go_wp2_with (go_at_call 23; refine (HK _).mono ?_; rintro e w1 ⟨rfl, hb1⟩; have HX := Lib.hid hb1; obtain ⟨q0, q1, q2, q3, q4, q5, q6, q7, q8⟩ := box9 hb1 (by simp); clear hb1)
  go_ret
  exact ⟨rfl, below_two HX.out⟩
set_option maxHeartbeats 4000000 in
set_option maxRecDepth 20000 in
theorem formed_n9 (k cl tk at1 fl me dl st : Int) (n : Nat) (a : Option Addr) (c : Nat) (w : World) (hb : okK k st n = true) (c0 : 1 ≤ cl) (c1 : cl ≤ 2147483647) (c2 : 1 ≤ tk) (c3 : 0 ≤ at1) (c4 : at1 < 6) (c5 : 1 ≤ fl) (c6 : fl ≤ tk) (c7 : 0 ≤ me) (c8 : me ≤ 2147483647) (d9 : decide (0 ≤ dl) = false) :
    Calls Tryd.prog 12 #[.agg #[.int .i64 k, .int .i64 cl, .int .u64 tk, .int .i64 at1, .int .u64 fl, .int .i64 me, .int .i64 dl, .int .i64 st, .slice a n c]] w fun e w' => e = .returned (.bool false) ∧ Below w.heap.size w w' := by
  have HK := fun wx => kind_any k cl tk at1 fl me dl st n a c wx
  rw [hb] at HK
  clear hb
  go_enter Tryd.func12, Tryd.ntmps12
  go_wp2_with (go_at_call 23; refine (HK _).mono ?_; rintro e w1 ⟨rfl, hb1⟩; have HX := Lib.hid hb1; obtain ⟨q0, q1, q2, q3, q4, q5, q6, q7, q8⟩ := box9 hb1 (by simp); clear hb1)
  go_ret
  exact ⟨rfl, below_two HX.out⟩
set_option maxHeartbeats 4000000 in
set_option maxRecDepth 20000 in
theorem formed_n10 (k cl tk at1 fl me dl st : Int) (n : Nat) (a : Option Addr) (c : Nat) (w : World) (hb : okK k st n = true) (c0 : 1 ≤ cl) (c1 : cl ≤ 2147483647) (c2 : 1 ≤ tk) (c3 : 0 ≤ at1) (c4 : at1 < 6) (c5 : 1 ≤ fl) (c6 : fl ≤ tk) (c7 : 0 ≤ me) (c8 : me ≤ 2147483647) (c9 : 0 ≤ dl) (d10 : decide (dl ≤ 1099511627776) = false) :
    Calls Tryd.prog 12 #[.agg #[.int .i64 k, .int .i64 cl, .int .u64 tk, .int .i64 at1, .int .u64 fl, .int .i64 me, .int .i64 dl, .int .i64 st, .slice a n c]] w fun e w' => e = .returned (.bool false) ∧ Below w.heap.size w w' := by
  have HK := fun wx => kind_any k cl tk at1 fl me dl st n a c wx
  rw [hb] at HK
  clear hb
  go_enter Tryd.func12, Tryd.ntmps12
  go_wp2_with (go_at_call 23; refine (HK _).mono ?_; rintro e w1 ⟨rfl, hb1⟩; have HX := Lib.hid hb1; obtain ⟨q0, q1, q2, q3, q4, q5, q6, q7, q8⟩ := box9 hb1 (by simp); clear hb1)
  go_ret
  exact ⟨rfl, below_two HX.out⟩
end Go.Proofs.YtckbplhplpnhaaaDoor
