/-
  Delays, as plain functions; and the walks over the document's own Delay, When and Attempts.
-/
import Derived.Test.YtgmnncjbgglkeaaChecked
import Derived.Lib.Hide
import Derived.WalkKit
import Derived.ProofKit
import Derived.Lib.VarintBits
import Derived.Below
namespace Go.Proofs.Ytgmnncjbgglkeaa
set_option linter.unusedVariables false
open Go.ChangeShapes Go.WideShapes Go.ChangeAt Go.RowKit

theorem retI64 {a b : Int} (h : b = a) : Ending.returned (.int .i64 a) = .returned (.int .i64 b) := by rw [h]
theorem bd_i64 {a : Int} (w : (Lit.int .i64 a).wf = true) : -9223372036854775808 ≤ a ∧ a ≤ 9223372036854775807 := by
  simpa [Lit.wf, IntKind.min, IntKind.max, IntKind.bits, IntKind.signed] using w
theorem bd_u8 {a : Int} (w : (Lit.int .u8 a).wf = true) : 0 ≤ a ∧ a ≤ 255 := by
  simpa [Lit.wf, IntKind.min, IntKind.max, IntKind.bits, IntKind.signed] using w
/-- the delay behind attempt k -/
def dlyN : Nat → Int
  | 0 => 4
  | 1 => 8
  | 2 => 16
  | _ => 32
def dly (k : Int) : Int := if k < 0 ∨ 6 ≤ k then 0 else dlyN k.toNat
/-- the sum of the delays ahead of attempt k -/
def whnN : Nat → Int
  | 0 => 0
  | k + 1 => whnN k + dlyN k
def whn (k : Int) : Int := if k < 0 ∨ 6 < k then -1 else whnN k.toNat
/-- how many of the first so many attempts are made up to a time -/
def attN (t : Int) : Nat → Int
  | 0 => 0
  | k + 1 => if whnN k ≤ t then attN t k + 1 else attN t k
theorem dly_out {k : Int} (h : k < 0 ∨ 6 ≤ k) : dly k = 0 := if_pos h
theorem dly_in {k : Nat} (h : k < 6) : dly k = dlyN k := by unfold dly; rw [if_neg (by omega)]; rfl
theorem whn_out {k : Int} (h : k < 0 ∨ 6 < k) : whn k = -1 := if_pos h
theorem whn_in {k : Nat} (h : k ≤ 6) : whn k = whnN k := by unfold whn; rw [if_neg (by omega)]; rfl
theorem dlyN_le (k : Nat) : 0 ≤ dlyN k ∧ dlyN k ≤ 32 := by
  match k with
  | 0 => decide
  | 1 => decide
  | 2 => decide
  | k + 3 => exact (⟨by decide, by decide⟩ : (0 : Int) ≤ 32 ∧ (32 : Int) ≤ 32)
theorem whnN_le : ∀ k : Nat, 0 ≤ whnN k ∧ whnN k ≤ 32 * k
  | 0 => by decide
  | k + 1 => by
    have h := whnN_le k
    have h2 := dlyN_le k
    show 0 ≤ whnN k + dlyN k ∧ whnN k + dlyN k ≤ _
    omega
theorem attN_le (t : Int) : ∀ k : Nat, 0 ≤ attN t k ∧ attN t k ≤ k
  | 0 => (⟨by decide, by decide⟩ : (0 : Int) ≤ 0 ∧ (0 : Int) ≤ ((0 : Nat) : Int))
  | k + 1 => by
    have h := attN_le t k
    unfold attN
    split <;> omega
set_option maxHeartbeats 2000000 in
theorem delayR_any (k : Int) (w : World) (h0 : -9223372036854775808 ≤ k) (h1 : k ≤ 9223372036854775807) :
    Calls Try.prog 7 #[.int .i64 k] w fun e w' => e = .returned (.int .i64 (dly k)) ∧ w' = w := by
  by_cases c0 : k < 0
  · rw [dly_out (.inl c0)]
    go_enter Try.func7, Try.ntmps7
    go_wp2
    go_ret
    exact ⟨rfl, rfl⟩
  · have d0 : decide (k < 0) = false := decide_eq_false c0
    by_cases c1 : 6 ≤ k
    · rw [dly_out (.inr c1)]
      go_enter Try.func7, Try.ntmps7
      go_wp2
      go_ret
      exact ⟨rfl, rfl⟩
    · have d1 : decide (6 ≤ k) = false := decide_eq_false c1
      obtain ⟨K, rfl⟩ : ∃ K : Nat, k = K := ⟨k.toNat, by omega⟩
      have hK : K < 6 := by omega
      rw [dly_in hK]
      go_enter Try.func7, Try.ntmps7
      go_wp2
      go_loop [3, 11] (fun d i => ∃ j : Nat, j ≤ K ∧ i = .int .i64 j ∧ d = .int .i64 (dlyN j)) (fun _ i => K - (intOf i).toNat)
      case atStart => exact ⟨0, Nat.zero_le _, rfl, rfl⟩
      case round =>
        obtain ⟨j, hj, rfl, rfl⟩ := hrel
        by_cases hlt : j < K
        · have h9 : j = 0 ∨ j = 1 ∨ j = 2 ∨ j = 3 ∨ j = 4 := by omega
          rcases h9 with rfl | rfl | rfl | rfl | rfl <;> simp only [dlyN]
          · go_wp2
            go_round
            case rel => exact ⟨1, by omega, rfl, rfl⟩
            case measure => simp [intOf]; omega
          · go_wp2
            go_round
            case rel => exact ⟨2, by omega, rfl, rfl⟩
            case measure => simp [intOf]; omega
          · go_wp2
            go_round
            case rel => exact ⟨3, by omega, rfl, rfl⟩
            case measure => simp [intOf]; omega
          · go_wp2
            go_round
            case rel => exact ⟨4, by omega, rfl, rfl⟩
            case measure => simp [intOf]; omega
          · go_wp2
            go_round
            case rel => exact ⟨5, by omega, rfl, rfl⟩
            case measure => simp [intOf]; omega
        · obtain rfl : j = K := by omega
          go_wp2
          go_ret
          exact ⟨rfl, rfl⟩
set_option maxHeartbeats 2000000 in
theorem whenR_any (k : Int) (w : World) (h0 : -9223372036854775808 ≤ k) (h1 : k ≤ 9223372036854775807) :
    Calls Try.prog 9 #[.int .i64 k] w fun e w' => e = .returned (.int .i64 (whn k)) ∧ w' = w := by
  by_cases c0 : k < 0
  · rw [whn_out (.inl c0)]
    go_enter Try.func9, Try.ntmps9
    go_wp2
    go_ret
    exact ⟨rfl, rfl⟩
  · have d0 : decide (k < 0) = false := decide_eq_false c0
    by_cases c1 : 6 < k
    · rw [whn_out (.inr c1)]
      go_enter Try.func9, Try.ntmps9
      go_wp2
      go_ret
      exact ⟨rfl, rfl⟩
    · have d1 : decide (6 < k) = false := decide_eq_false c1
      obtain ⟨K, rfl⟩ : ∃ K : Nat, k = K := ⟨k.toNat, by omega⟩
      have hK : K ≤ 6 := by omega
      rw [whn_in hK]
      go_enter Try.func9, Try.ntmps9
      go_wp2
      go_loop [3, 12] (fun s i => ∃ (j : Nat) (S : Int), j ≤ K ∧ i = .int .i64 j ∧ s = .int .i64 S ∧ S = whnN j) (fun _ i => K - (intOf i).toNat)
      case atStart => exact ⟨0, 0, Nat.zero_le _, rfl, rfl, rfl⟩
      case round =>
        obtain ⟨j, S, hj, rfl, rfl, hs⟩ := hrel
        have HS := Lib.hid hs
        have hb := whnN_le j
        rw [← hs] at hb
        clear hs
        by_cases hlt : j < K
        · have hd := fun wx => delayR_any (j : Int) wx (by omega) (by omega)
          rw [dly_in (by omega)] at hd
          have hdl := dlyN_le j
          have HN : Hid (S + dlyN j = whnN (j + 1)) := by
            refine (?_ : _ = _)
            rw [HS.out]; rfl
          obtain ⟨D, hD⟩ : ∃ D, dlyN j = D := ⟨_, rfl⟩
          rw [hD] at hd hdl HN
          clear hD
          go_wp2_with fail
          refine (hd _).mono ?_
          rintro e w1 ⟨rfl, rfl⟩
          go_wp2
          go_round
          case rel => exact ⟨j + 1, S + D, by omega, by go_num, by go_num, HN.out⟩
          case measure => simp [intOf]; omega
        · obtain rfl : j = K := by omega
          go_wp2
          go_ret
          exact ⟨retI64 HS.out.symm, rfl⟩
set_option maxHeartbeats 2000000 in
theorem attemptsR_any (t : Int) (w : World) (h0 : -9223372036854775808 ≤ t) (h1 : t ≤ 9223372036854775807) :
    Calls Try.prog 11 #[.int .i64 t] w fun e w' => e = .returned (.int .i64 (attN t 6)) ∧ w' = w := by
  go_enter Try.func11, Try.ntmps11
  go_wp2
  go_loop [3, 5] (fun n i => ∃ (j : Nat) (A : Int), j ≤ 6 ∧ i = .int .i64 j ∧ n = .int .i64 A ∧ A = attN t j) (fun _ i => 6 - (intOf i).toNat)
  case atStart => exact ⟨0, 0, by omega, rfl, rfl, rfl⟩
  case round =>
    obtain ⟨j, A, hj, rfl, rfl, ha⟩ := hrel
    have HA := Lib.hid ha
    have hb := attN_le t j
    rw [← ha] at hb
    clear ha
    by_cases hlt : j < 6
    · have hw := fun wx => whenR_any (j : Int) wx (by omega) (by omega)
      rw [whn_in (by omega)] at hw
      have hst : attN t (j + 1) = if whnN j ≤ t then attN t j + 1 else attN t j := rfl
      rw [← HA.out] at hst
      obtain ⟨D, hD⟩ : ∃ D, whnN j = D := ⟨_, rfl⟩
      rw [hD] at hw hst
      have HST := Lib.hid hst
      have hltI : (j : Int) < 6 := by omega
      clear hD hst
      by_cases hc : D ≤ t
      · have HN : Hid (A + 1 = attN t (j + 1)) := by
          refine (?_ : _ = _)
          rw [HST.out, if_pos hc]
        go_wp2_with fail
        refine (hw _).mono ?_
        rintro e w1 ⟨rfl, rfl⟩
        go_wp2
        go_round
        case rel => exact ⟨j + 1, A + 1, by omega, by go_num, by go_num, HN.out⟩
        case measure => simp [intOf]; omega
      · have HN : Hid (A = attN t (j + 1)) := by
          refine (?_ : _ = _)
          rw [HST.out, if_neg hc]
        have hc2 : decide (D ≤ t) = false := decide_eq_false hc
        go_wp2_with fail
        refine (hw _).mono ?_
        rintro e w1 ⟨rfl, rfl⟩
        go_wp2
        go_round
        case rel => exact ⟨j + 1, A, by omega, by go_num, rfl, HN.out⟩
        case measure => simp [intOf]; omega
    · obtain rfl : j = 6 := by omega
      go_wp2
      go_ret
      exact ⟨retI64 HA.out.symm, rfl⟩
/-- an attempt is among those that are made just if its time has come -/
theorem att_iff (t : Int) {i : Nat} (hi : i < 6) : (i : Int) < attN t 6 ↔ whnN i ≤ t := by
  have s : ∀ k, attN t (k + 1) = (if whnN k ≤ t then 1 else 0) + attN t k := fun k => by
    show (if whnN k ≤ t then attN t k + 1 else attN t k) = _
    split <;> omega
  have e5 := s 5
  have e4 := s 4
  have e3 := s 3
  have e2 := s 2
  have e1 := s 1
  have e0 := s 0
  rw [show whnN 5 = 92 by decide] at e5
  rw [show whnN 4 = 60 by decide] at e4
  rw [show whnN 3 = 28 by decide] at e3
  rw [show whnN 2 = 12 by decide] at e2
  rw [show whnN 1 = 4 by decide] at e1
  rw [show whnN 0 = 0 by decide, show attN t 0 = 0 from rfl] at e0
  have h9 : i = 0 ∨ i = 1 ∨ i = 2 ∨ i = 3 ∨ i = 4 ∨ i = 5 := by omega
  have hw : whnN i = if i = 0 then 0 else if i = 1 then 4 else if i = 2 then 12 else if i = 3 then 28 else if i = 4 then 60 else 92 := by
    rcases h9 with rfl | rfl | rfl | rfl | rfl | rfl <;> decide
  rw [hw]
  simp only [Nat.zero_add, Nat.reduceAdd] at e0 e1 e2 e3 e4 e5
  rcases h9 with rfl | rfl | rfl | rfl | rfl | rfl <;> simp only [Nat.reduceEqDiff, if_true, if_false] <;> omega
theorem att_zero : attN 0 6 = 1 := by decide
theorem dly_rise {i : Nat} (hi : i < 5) : dlyN i ≤ dlyN (i + 1) := by
  have h9 : i = 0 ∨ i = 1 ∨ i = 2 ∨ i = 3 ∨ i = 4 := by omega
  rcases h9 with rfl | rfl | rfl | rfl | rfl <;> decide
theorem whn_step (i : Nat) : whnN (i + 1) = whnN i + dlyN i := rfl
end Go.Proofs.Ytgmnncjbgglkeaa
