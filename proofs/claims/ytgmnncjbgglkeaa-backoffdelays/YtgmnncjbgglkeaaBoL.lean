/-
  The walks over the three laws of courierlaw16.
-/
import Derived.Test.YtgmnncjbgglkeaaBoP
namespace Go.Proofs.Ytgmnncjbgglkeaa
set_option linter.unusedVariables false
open Go.ChangeShapes Go.WideShapes Go.ChangeAt Go.RowKit

set_option maxHeartbeats 2000000 in
theorem backoffDelays_any (k : Int) (w : World) (h0 : -9223372036854775808 ≤ k) (h1 : k ≤ 9223372036854775807) :
    Calls Try.prog 3 #[.int .i64 k] w fun e w' => e = .returned (.bool true) ∧ w' = w := by
  have a1 := fun wx => delayP_any k wx h0 h1
  have a2 := fun wx => delayR_any k wx h0 h1
  have a3 := fun wx => whenP_any k wx h0 h1
  have a4 := fun wx => whenR_any k wx h0 h1
  have a5 := fun wx => delayP_any 0 wx (by omega) (by omega)
  rw [show dly 0 = 4 by decide] at a5
  generalize dly k = D at *
  generalize whn k = W at *
  go_enter Try.func3, Try.ntmps3
  go_wp2_with fail
  refine (a1 _).mono ?_
  rintro e w1 ⟨rfl, rfl⟩
  go_wp2_with fail
  refine (a2 _).mono ?_
  rintro e w1 ⟨rfl, rfl⟩
  go_wp2_with fail
  refine (a3 _).mono ?_
  rintro e w1 ⟨rfl, rfl⟩
  go_wp2_with fail
  refine (a4 _).mono ?_
  rintro e w1 ⟨rfl, rfl⟩
  go_wp2_with fail
  refine (a5 _).mono ?_
  rintro e w1 ⟨rfl, rfl⟩
  go_wp2
  go_ret
  exact ⟨rfl, rfl⟩
set_option maxHeartbeats 2000000 in
theorem backoffAttempts_any (t k : Int) (w : World) (h0 : -9223372036854775808 ≤ t) (h1 : t ≤ 9223372036854775807) (g0 : 0 ≤ k) (g1 : k ≤ 255) :
    Calls Try.prog 4 #[.int .i64 t, .int .u8 k] w fun e w' => e = .returned (.bool true) ∧ w' = w := by
  have a1 := fun wx => attemptsP_any t wx h0 h1
  have a2 := fun wx => attemptsR_any t wx h0 h1
  obtain ⟨K, rfl⟩ : ∃ K : Nat, k = K := ⟨k.toNat, by omega⟩
  obtain ⟨i, hi⟩ : ∃ i : Nat, (K : Int) % 6 = i := ⟨K % 6, by omega⟩
  have hi6 : i < 6 := by omega
  have a3 := fun wx => whenP_any (i : Int) wx (by omega) (by omega)
  rw [whn_in (by omega)] at a3
  have a4 := fun wx => attemptsP_any 0 wx (by omega) (by omega)
  rw [att_zero] at a4
  have hq := att_iff t hi6
  have hb := attN_le t 6
  generalize attN t 6 = A at *
  generalize whnN i = W at *
  have HI := Lib.hid hi
  have hw1 : IntKind.i64.wrap (i : Int) = i := by rw [IntKind.wrap_i64]; omega
  go_enter Try.func4, Try.ntmps4
  have HQ := Lib.hid hq
  clear hq
  by_cases hc : W ≤ t
  · have hd : (i : Int) < A := HQ.out.2 hc
    go_wp2_with fail
    refine (a1 _).mono ?_
    rintro e w1 ⟨rfl, rfl⟩
    go_wp2_with fail
    refine (a2 _).mono ?_
    rintro e w1 ⟨rfl, rfl⟩
    go_wp2_with fail
    refine (a3 _).mono ?_
    rintro e w1 ⟨rfl, rfl⟩
    go_wp2_with fail
    refine (a4 _).mono ?_
    rintro e w1 ⟨rfl, rfl⟩
    go_wp2
    go_ret
    exact ⟨rfl, rfl⟩
  · have hd : decide ((i : Int) < A) = false := decide_eq_false fun h => hc (HQ.out.1 h)
    have hc2 : decide (W ≤ t) = false := decide_eq_false hc
    go_wp2_with fail
    refine (a1 _).mono ?_
    rintro e w1 ⟨rfl, rfl⟩
    go_wp2_with fail
    refine (a2 _).mono ?_
    rintro e w1 ⟨rfl, rfl⟩
    go_wp2_with fail
    refine (a3 _).mono ?_
    rintro e w1 ⟨rfl, rfl⟩
    go_wp2_with fail
    refine (a4 _).mono ?_
    rintro e w1 ⟨rfl, rfl⟩
    go_wp2
    go_ret
    exact ⟨rfl, rfl⟩
set_option maxHeartbeats 2000000 in
theorem backoffRises_any (k : Int) (w : World) (g0 : 0 ≤ k) (g1 : k ≤ 255) :
    Calls Try.prog 5 #[.int .u8 k] w fun e w' => e = .returned (.bool true) ∧ w' = w := by
  obtain ⟨K, rfl⟩ : ∃ K : Nat, k = K := ⟨k.toNat, by omega⟩
  obtain ⟨i, hi⟩ : ∃ i : Nat, (K : Int) % 5 = i := ⟨K % 5, by omega⟩
  have hi5 : i < 5 := by omega
  have a1 := fun wx => delayP_any (i : Int) wx (by omega) (by omega)
  have a2 := fun wx => delayP_any ((i : Int) + 1) wx (by omega) (by omega)
  have a3 := fun wx => whenP_any (i : Int) wx (by omega) (by omega)
  have a4 := fun wx => whenP_any ((i : Int) + 1) wx (by omega) (by omega)
  have a5 := fun wx => delayP_any 5 wx (by omega) (by omega)
  rw [show dly 5 = 32 by decide] at a5
  have ei : ((i : Int) + 1) = ((i + 1 : Nat) : Int) := by omega
  have e2 : dly ((i : Int) + 1) = dlyN (i + 1) := by rw [ei, dly_in (by omega)]
  have e4 : whn ((i : Int) + 1) = whnN (i + 1) := by rw [ei, whn_in (by omega)]
  rw [dly_in (by omega)] at a1
  rw [e2] at a2
  rw [whn_in (by omega)] at a3
  rw [e4, whn_step] at a4
  clear ei e2 e4
  have hr := dly_rise hi5
  have h3 := dlyN_le i
  have h4 := whnN_le i
  generalize dlyN i = D at *
  generalize dlyN (i + 1) = D1 at *
  generalize whnN i = W at *
  have HI := Lib.hid hi
  go_enter Try.func5, Try.ntmps5
  go_wp2_with (first
    | (go_at_call 6; with_reducible refine (a1 _).mono ?_; rintro e w1 ⟨rfl, rfl⟩)
    | (go_at_call 6; with_reducible refine (a2 _).mono ?_; rintro e w1 ⟨rfl, rfl⟩)
    | (go_at_call 6; with_reducible refine (a5 _).mono ?_; rintro e w1 ⟨rfl, rfl⟩)
    | (go_at_call 8; with_reducible refine (a3 _).mono ?_; rintro e w1 ⟨rfl, rfl⟩)
    | (go_at_call 8; with_reducible refine (a4 _).mono ?_; rintro e w1 ⟨rfl, rfl⟩))
  go_ret
  exact ⟨rfl, rfl⟩
end Go.Proofs.Ytgmnncjbgglkeaa
