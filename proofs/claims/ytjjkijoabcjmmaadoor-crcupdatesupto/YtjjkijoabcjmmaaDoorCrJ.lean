/-
  The walks over the program's product, moved and Join of sums.
-/
import Derived.Test.YtjjkijoabcjmmaaDoorCrP
import Derived.Deep.LoopGhost
namespace Go.Proofs.YtjjkijoabcjmmaaDoor
set_option linter.unusedVariables false
open Go.ChangeShapes Go.WideShapes Go.ChangeAt Go.RowKit

set_option maxHeartbeats 1000000 in
theorem product_any (a b : Nat) (w : World) (ha : a < 4294967296) (hb : b < 4294967296) :
    Calls Tryd.prog 14 #[.int .u32 a, .int .u32 b] w fun e w' => e = .returned (.int .u32 (prodF 32 a b 0 : Nat)) ∧ w' = w := by
  go_enter Tryd.func14, Tryd.ntmps14
  go_wp2
  go_loopg [0, 1, 5] 32 (fun gk u v t wx => wx = w ∧ ∃ (a1 b1 s : Nat), u = .int .u32 a1 ∧ v = .int .u32 b1 ∧ t = .int .u32 s ∧ a1 < 4294967296 ∧ b1 < 4294967296 ∧ s < 4294967296 ∧ gk ≤ 32 ∧ a1 % 2 ^ (32 - gk) = 0 ∧ prodF gk a1 b1 s = prodF 32 a b 0)
  case atStart => exact ⟨rfl, a, b, 0, rfl, rfl, rfl, ha, hb, by decide, Nat.le_refl _, Nat.mod_one _, rfl⟩
  case round =>
    obtain ⟨rfl, a1, b1, s, rfl, rfl, rfl, ha1, hb1, hs, hg, hm, hp⟩ := hrel
    have HM := Lib.hid hm
    have HP := Lib.hid hp
    clear hm hp ha hb
    by_cases h0 : a1 = 0
    · subst h0
      have HE : Hid (prodF 32 a b 0 = s) := by
        refine (?_ : _ = _)
        rw [← HP.out]
        cases gk <;> rfl
      clear HP HM
      go_wp2
      go_ret
      exact ⟨ret_int (by rw [HE.out]), rfl⟩
    · have h0b : ((a1 : Int) == 0) = false := by simp; omega
      have hne : ¬ (a1 : Int) = 0 := by omega
      obtain ⟨f, hf⟩ : ∃ f, gk = f + 1 := by
        cases gk with
        | zero => have := HM.out; rw [show 32 - 0 = 32 by omega] at this; omega
        | succ f => exact ⟨f, rfl⟩
      have hwr : IntKind.u32.wrap ((a1 : Int) * 2) = ((a1 * 2 % 4294967296 : Nat) : Int) := by rw [IntKind.wrap_u32]; omega
      have hbl := st1_lt hb1
      have hal : a1 * 2 % 4294967296 < 4294967296 := Nat.mod_lt _ (by decide)
      have HM2 : Hid (a1 * 2 % 4294967296 % 2 ^ (32 - f) = 0) := by
        refine (?_ : _ = _)
        have hp : 2 ^ (32 - f) = 2 ^ (32 - (f + 1)) * 2 := by rw [← Nat.pow_succ]; congr 1; omega
        have hd : 2 ^ (32 - f) ∣ 4294967296 := by
          rw [show (4294967296 : Nat) = 2 ^ 32 by decide]; exact Nat.pow_dvd_pow 2 (by omega)
        have hm := HM.out
        rw [hf] at hm
        rw [Nat.mod_mod_of_dvd _ hd, hp, Nat.mul_mod_mul_right, hm, Nat.zero_mul]
      have HP2 : Hid (prodF f (a1 * 2 % 4294967296) (st1 b1) (if a1 / 2147483648 = 1 then s ^^^ b1 else s) = prodF 32 a b 0) := by
        refine (?_ : _ = _)
        rw [← HP.out, hf, prodF, if_neg h0]
      have HF := Lib.hid hf
      clear HP HM hf
      by_cases h1 : a1 / 2147483648 = 1
      · have h1i : ((a1 : Int) / 2147483648) = 1 := by omega
        have hx := xor_of s b1 hs hb1
        have hxl := xor_lt32 hs hb1
        rw [if_pos h1] at HP2
        clear h1
        generalize a1 * 2 % 4294967296 = a2 at *
        go_wp2_with (go_at_call 15; refine (step_any b1 _ hb1).mono ?_; rintro e w' ⟨rfl, rfl⟩)
        go_roundg f
        case measure => have := HF.out; omega
        case rel => exact ⟨rfl, _, _, _, rfl, rfl, rfl, hal, hbl, hxl, by have := HF.out; omega, HM2.out, HP2.out⟩
      · have h1i : (((a1 : Int) / 2147483648) == 1) = false := by simp; omega
        rw [if_neg h1] at HP2
        clear h1
        generalize a1 * 2 % 4294967296 = a2 at *
        go_wp2_with (go_at_call 15; refine (step_any b1 _ hb1).mono ?_; rintro e w' ⟨rfl, rfl⟩)
        go_roundg f
        case measure => have := HF.out; omega
        case rel => exact ⟨rfl, _, _, _, rfl, rfl, rfl, hal, hbl, hs, by have := HF.out; omega, HM2.out, HP2.out⟩
/-- a product with so many steps of x to the 0: so many steps -/
theorem product_steps (k a : Nat) (w : World) (ha : a < 4294967296) :
    Calls Tryd.prog 14 #[.int .u32 a, .int .u32 (stN k topC : Nat)] w fun e w' => e = .returned (.int .u32 (stN k a : Nat)) ∧ w' = w := by
  have h := product_any a (stN k topC) w ha (stN_lt k (by decide))
  rw [prod_any k a ha] at h
  exact h
theorem and_oneI (n : Nat) (h : n < 9223372036854775808) : bits .and .i64 (n : Int) 1 = ((n % 2 : Nat) : Int) := by
  have hx : n &&& 1 < 2 ^ 64 := Nat.and_lt_two_pow _ (by omega)
  have h2 : n &&& 1 = n % 2 := Nat.and_one_is_mod n
  show IntKind.i64.wrap ((BitVec.ofInt 64 (n : Int) &&& BitVec.ofInt 64 ((1 : Nat) : Int)).toNat : Int) = _
  rw [BitVec.toNat_and, ofInt_u64 n (by omega), ofInt_u64 1 (by omega), IntKind.wrap_i64, h2]
  omega
set_option maxHeartbeats 1000000 in
theorem moved_any (s n : Nat) (w : World) (hs : s < 4294967296) (hn : n ≤ 16777216) :
    Calls Tryd.prog 13 #[.int .u32 s, .int .i64 n] w fun e w' => e = .returned (.int .u32 (stN (8 * n) s : Nat)) ∧ w' = w := by
  go_enter Tryd.func13, Tryd.ntmps13
  go_wp2
  go_loop [0, 1, 5] (fun u v t => ∃ (s1 n1 m p : Nat), u = .int .u32 s1 ∧ v = .int .i64 n1 ∧ t = .int .u32 p ∧ s1 < 4294967296 ∧ n1 ≤ 16777216 ∧ p = stN m topC ∧ stN (m * n1) s1 = stN (8 * n) s) (fun _ v _ => (intOf v).toNat)
  case atStart => exact ⟨s, n, 8, _, rfl, rfl, rfl, hs, hn, byte_steps.symm, rfl⟩
  case round =>
    obtain ⟨s1, n1, m, p, rfl, rfl, rfl, hs1, hn1, hp, he⟩ := hrel
    have HE := Lib.hid he
    have HP := Lib.hid hp
    clear he hp hs hn
    by_cases h0 : n1 = 0
    · subst h0
      have HR : Hid (stN (8 * n) s = s1) := HE.out.symm
      clear HE HP
      go_wp2
      go_ret
      exact ⟨ret_int (by rw [HR.out]), rfl⟩
    · have hpos : 0 < (n1 : Int) := by omega
      have hand := and_oneI n1 (by omega)
      have HS : Hid (m * n1 = m * (n1 % 2) + m * 2 * (n1 / 2)) := by
        refine (?_ : _ = _)
        conv => lhs; rw [show n1 = n1 % 2 + 2 * (n1 / 2) by omega, Nat.mul_add]
        rw [← Nat.mul_assoc]
      have hpp := fun wx => product_steps m p wx (by rw [HP.out]; exact stN_lt m (by decide))
      have hps := fun wx => product_steps m s1 wx hs1
      rw [← HP.out] at hpp hps
      have HPP : Hid (stN m p = stN (m * 2) topC) := by
        refine (?_ : _ = _)
        rw [HP.out, ← stN_add]; congr 1; omega
      have hsl := stN_lt m hs1
      rcases (by omega : n1 % 2 = 0 ∨ n1 % 2 = 1) with hm | hm <;> rw [hm] at hand HS <;> clear hm
      · have HE2 : Hid (stN (m * 2 * (n1 / 2)) s1 = stN (8 * n) s) := by
          refine (?_ : _ = _)
          rw [← HE.out, HS.out, Nat.mul_zero, Nat.zero_add]
        clear HE HS
        go_wp2_with (go_at_call 14; refine (hpp _).mono ?_; rintro e w' ⟨rfl, rfl⟩)
        go_round
        case rel => exact ⟨s1, n1 / 2, m * 2, _, rfl, by go_num, rfl, hs1, by omega, HPP.out, HE2.out⟩
        case measure => simp [intOf]; omega
      · have HE2 : Hid (stN (m * 2 * (n1 / 2)) (stN m s1) = stN (8 * n) s) := by
          refine (?_ : _ = _)
          rw [← HE.out, HS.out, Nat.mul_one, stN_add]
        clear HE HS
        go_wp2_with fail
        refine (hps _).mono ?_
        rintro e w' ⟨rfl, rfl⟩
        go_wp2_with fail
        refine (hpp _).mono ?_
        rintro e w' ⟨rfl, rfl⟩
        go_wp2
        go_round
        case rel => exact ⟨stN m s1, n1 / 2, m * 2, _, rfl, by go_num, rfl, hsl, by omega, HPP.out, HE2.out⟩
        case measure => simp [intOf]; omega
set_option maxHeartbeats 1000000 in
theorem join_any (a b n : Nat) (w : World) (ha : a < 4294967296) (hb : b < 4294967296) (hn : n ≤ 16777216) :
    Calls Tryd.prog 11 #[.int .u32 a, .int .u32 b, .int .i64 n] w fun e w' => e = .returned (.int .u32 (joinC a b n : Nat)) ∧ w' = w := by
  have hj := (join_steps a b n).symm
  have hl := stN_lt (8 * n) ha
  have hx := xor_of (stN (8 * n) a) b hl hb
  rw [hj] at hx
  clear hj
  have h1 : ¬ (n : Int) < 0 := by omega
  have h2 : ¬ 16777216 < (n : Int) := by omega
  go_enter Tryd.func11, Tryd.ntmps11
  go_wp2_with (go_at_call 13; refine (moved_any a n _ ha hn).mono ?_; rintro e w' ⟨rfl, rfl⟩)
  go_ret
  exact ⟨rfl, rfl⟩
end Go.Proofs.YtjjkijoabcjmmaaDoor
