/-
  The walks over the program's Delay, When and Attempts (as a trial of our own has them: to be held against what lands).
-/
import Derived.Test.YtgmnncjbgglkeaaBoM
namespace Go.Proofs.Ytgmnncjbgglkeaa
set_option linter.unusedVariables false
open Go.ChangeShapes Go.WideShapes Go.ChangeAt Go.RowKit

set_option maxHeartbeats 2000000 in
theorem delayP_any (k : Int) (w : World) (h0 : -9223372036854775808 ≤ k) (h1 : k ≤ 9223372036854775807) :
    Calls Try.prog 6 #[.int .i64 k] w fun e w' => e = .returned (.int .i64 (dly k)) ∧ w' = w := by
  by_cases c0 : k < 0
  · rw [dly_out (.inl c0)]
    go_enter Try.func6, Try.ntmps6
    go_wp2
    go_ret
    exact ⟨rfl, rfl⟩
  · have d0 : decide (k < 0) = false := decide_eq_false c0
    by_cases c1 : 6 ≤ k
    · rw [dly_out (.inr c1)]
      go_enter Try.func6, Try.ntmps6
      go_wp2
      go_ret
      exact ⟨rfl, rfl⟩
    · clear d0
      have h9 : k = 0 ∨ k = 1 ∨ k = 2 ∨ k = 3 ∨ k = 4 ∨ k = 5 := by omega
      rcases h9 with rfl | rfl | rfl | rfl | rfl | rfl
      all_goals go_enter Try.func6, Try.ntmps6
      all_goals go_wp2
      all_goals go_ret
      all_goals exact ⟨retI64 (by decide), rfl⟩
set_option maxHeartbeats 2000000 in
theorem whenP_any (k : Int) (w : World) (h0 : -9223372036854775808 ≤ k) (h1 : k ≤ 9223372036854775807) :
    Calls Try.prog 8 #[.int .i64 k] w fun e w' => e = .returned (.int .i64 (whn k)) ∧ w' = w := by
  by_cases c0 : k < 0
  · rw [whn_out (.inl c0)]
    go_enter Try.func8, Try.ntmps8
    go_wp2
    go_ret
    exact ⟨rfl, rfl⟩
  · have d0 : decide (k < 0) = false := decide_eq_false c0
    by_cases c1 : 6 < k
    · rw [whn_out (.inr c1)]
      go_enter Try.func8, Try.ntmps8
      go_wp2
      go_ret
      exact ⟨rfl, rfl⟩
    · have d1 : decide (6 < k) = false := decide_eq_false c1
      obtain ⟨K, rfl⟩ : ∃ K : Nat, k = K := ⟨k.toNat, by omega⟩
      have hK : K ≤ 6 := by omega
      rw [whn_in hK]
      go_enter Try.func8, Try.ntmps8
      go_wp2
      go_loop [3, 12] (fun s i => ∃ (j : Nat) (S : Int), j ≤ K ∧ i = .int .i64 j ∧ s = .int .i64 S ∧ S = whnN j) (fun _ i => K - (intOf i).toNat)
      case atStart => exact ⟨0, 0, Nat.zero_le _, rfl, rfl, rfl⟩
      case round =>
        obtain ⟨j, S, hj, rfl, rfl, hs⟩ := hrel
        have HS := Lib.hid hs
        have hb := whnN_le j
        rw [← hs] at hb
        clear hs
        by_cases hlt : j < K
        · have hd := fun wx => delayP_any (j : Int) wx (by omega) (by omega)
          rw [dly_in (by omega)] at hd
          have hdl := dlyN_le j
          have HN : Hid (S + dlyN j = whnN (j + 1)) := by
            refine (?_ : _ = _)
            rw [HS.out]; rfl
          obtain ⟨D, hD⟩ : ∃ D, dlyN j = D := ⟨_, rfl⟩
          rw [hD] at hd hdl HN
          clear hD
          go_wp2_with fail
          refine (hd _).mono ?_
          rintro e w1 ⟨rfl, rfl⟩
          go_wp2
          go_round
          case rel => exact ⟨j + 1, S + D, by omega, by go_num, by go_num, HN.out⟩
          case measure => simp [intOf]; omega
        · obtain rfl : j = K := by omega
          go_wp2
          go_ret
          exact ⟨retI64 HS.out.symm, rfl⟩
set_option maxHeartbeats 2000000 in
theorem attemptsP_any (t : Int) (w : World) (h0 : -9223372036854775808 ≤ t) (h1 : t ≤ 9223372036854775807) :
    Calls Try.prog 10 #[.int .i64 t] w fun e w' => e = .returned (.int .i64 (attN t 6)) ∧ w' = w := by
  go_enter Try.func10, Try.ntmps10
  go_wp2
  go_loop [3] (fun n => ∃ j : Nat, j ≤ 6 ∧ n = .int .i64 j ∧ ∀ i, i < j → whnN i ≤ t) (fun n => 6 - (intOf n).toNat)
  case atStart => exact ⟨0, by omega, rfl, fun i hi => by omega⟩
  case round =>
    obtain ⟨j, hj, rfl, ha⟩ := hrel
    have HA := Lib.hid ha
    clear ha
    by_cases hlt : j < 6
    · have hw := fun wx => whenP_any (j : Int) wx (by omega) (by omega)
      rw [whn_in (by omega)] at hw
      have hltI : (j : Int) < 6 := by omega
      by_cases hc : whnN j ≤ t
      · have HN : Hid (∀ i, i < j + 1 → whnN i ≤ t) := by
          refine (?_ : ∀ i, _ → _)
          intro i hi
          by_cases e : i = j
          · subst e; exact hc
          · exact HA.out i (by omega)
        obtain ⟨D, hD⟩ : ∃ D, whnN j = D := ⟨_, rfl⟩
        rw [hD] at hw hc
        clear hD
        go_wp2_with (go_at_call 8; refine (hw _).mono ?_; rintro e w1 ⟨rfl, rfl⟩)
        go_round
        case rel => exact ⟨j + 1, by omega, by go_num, HN.out⟩
        case measure => simp [intOf]; omega
      · have HE : Hid ((j : Int) = attN t 6) := by
          refine (?_ : _ = _)
          have h1 : ¬ (j : Int) < attN t 6 := fun h => hc ((att_iff t hlt).1 h)
          have h2 := attN_le t 6
          by_cases hj0 : j = 0
          · subst hj0; omega
          · have h3 := (att_iff t (show j - 1 < 6 by omega)).2 (HA.out (j - 1) (by omega))
            omega
        have hc2 : decide (whnN j ≤ t) = false := decide_eq_false hc
        obtain ⟨D, hD⟩ : ∃ D, whnN j = D := ⟨_, rfl⟩
        rw [hD] at hw hc2
        clear hD hc
        go_wp2_with (go_at_call 8; refine (hw _).mono ?_; rintro e w1 ⟨rfl, rfl⟩)
        go_ret
        exact ⟨retI64 HE.out.symm, rfl⟩
    · obtain rfl : j = 6 := by omega
      have HE : Hid ((6 : Int) = attN t 6) := by
        refine (?_ : _ = _)
        have h2 := attN_le t 6
        have h3 := (att_iff t (show 5 < 6 by omega)).2 (HA.out 5 (by omega))
        omega
      go_wp2
      go_ret
      exact ⟨retI64 HE.out.symm, rfl⟩
end Go.Proofs.Ytgmnncjbgglkeaa
