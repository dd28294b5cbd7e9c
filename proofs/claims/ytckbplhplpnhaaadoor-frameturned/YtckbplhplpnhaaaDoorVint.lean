/-
  The plain arithmetic of varints: the shortest bytes of a number ('vint'), how many they are, and that the number comes back of them ('dec'), whatever stands behind; cut off, it lacks something; with more bytes than it needs it is the same.
-/
import Derived.Test.YtckbplhplpnhaaaDoorBase
import Derived.Lib.BitFns
import Derived.Lib.Varint
import Derived.Laws.Bits64b
namespace Go.Proofs.YtckbplhplpnhaaaDoor
set_option linter.unusedVariables false
open Go.RowKit

/-- the shortest varint of a number, in at most so many steps -/
def vintF : Nat → Nat → List Int
  | 0, n => [(n : Int)]
  | f + 1, n => if n < 128 then [(n : Int)] else ((n % 128 + 128 : Nat) : Int) :: vintF f (n / 128)
/-- the shortest varint of a number -/
def vint (n : Nat) : List Int := vintF n n
theorem vintF_enough : ∀ (f g n : Nat), n ≤ f → n ≤ g → vintF f n = vintF g n
  | 0, 0, n, _, _ => rfl
  | 0, g + 1, n, hf, _ => by
    have : n < 128 := by omega
    rw [vintF, vintF, if_pos this]
  | f + 1, 0, n, _, hg => by
    have : n < 128 := by omega
    rw [vintF, vintF, if_pos this]
  | f + 1, g + 1, n, hf, hg => by
    rw [vintF, vintF]
    by_cases h : n < 128
    · rw [if_pos h, if_pos h]
    · rw [if_neg h, if_neg h, vintF_enough f g (n / 128) (by omega) (by omega)]
theorem vint_small {n : Nat} (h : n < 128) : vint n = [(n : Int)] := by
  unfold vint
  rw [vintF_enough n (n + 1) n (Nat.le_refl _) (by omega), vintF, if_pos h]
theorem vint_big {n : Nat} (h : 128 ≤ n) : vint n = ((n % 128 + 128 : Nat) : Int) :: vint (n / 128) := by
  unfold vint
  rw [vintF_enough n (n + 1) n (Nat.le_refl _) (by omega), vintF, if_neg (by omega), vintF_enough n (n / 128) (n / 128) (by omega) (Nat.le_refl _)]

theorem vint_bytes (n : Nat) : ∀ z ∈ vint n, 0 ≤ z ∧ z ≤ 255 := by
  induction n using Nat.strongRecOn with
  | _ n ih =>
    intro z hz
    by_cases h : n < 128
    · rw [vint_small h] at hz; simp at hz; omega
    · rw [vint_big (by omega)] at hz
      rcases List.mem_cons.1 hz with rfl | hz
      · omega
      · exact ih (n / 128) (by omega) z hz
theorem vint_pos (n : Nat) : 1 ≤ (vint n).length := by
  by_cases h : n < 128
  · rw [vint_small h]; simp
  · rw [vint_big (by omega)]; simp
theorem vint_length : ∀ (k n : Nat), n < 128 ^ (k + 1) → (vint n).length ≤ k + 1
  | 0, n, h => by rw [vint_small (by simpa using h)]; simp
  | k + 1, n, h => by
    by_cases hx : n < 128
    · rw [vint_small hx]; simp
    · rw [vint_big (by omega), List.length_cons]
      have := vint_length k (n / 128) (by rw [Nat.pow_succ] at h; exact Nat.div_lt_of_lt_mul (by rw [Nat.mul_comm]; exact h))
      omega
theorem vint_ten {n : Nat} (h : n ≤ 18446744073709551615) : (vint n).length ≤ 10 :=
  vint_length 9 n (Nat.lt_of_le_of_lt h (by decide))

theorem bitLen_small : ∀ m : Fin 128, m.val ≠ 0 → 1 ≤ Lib.bitLen m.val ∧ Lib.bitLen m.val ≤ 7 := by decide +kernel
theorem size_vint (m : Nat) : m ≠ 0 → m < 2 ^ 64 → (Lib.bitLen m + 6) / 7 = (vint m).length := by
  induction m using Nat.strongRecOn with
  | _ m ih =>
    intro h0 h64
    by_cases h : m < 128
    · have : 1 ≤ Lib.bitLen m ∧ Lib.bitLen m ≤ 7 := bitLen_small ⟨m, h⟩ h0
      rw [vint_small h]
      simp only [List.length_singleton]
      omega
    · rw [vint_big (by omega), List.length_cons, ← ih (m / 128) (by omega) (by omega) (by omega)]
      have := Lib.bitLen_shift 7 m (by omega) h64
      rw [this, show (2 : Nat) ^ 7 = 128 by decide]
      omega
theorem or_one (n : Nat) : (n ||| 1) = n / 2 * 2 + 1 := by
  have h1 : (n ||| 1) / 2 = n / 2 := by rw [Nat.or_div_two]; simp
  have h2 : (n ||| 1) % 2 = 1 := Nat.or_mod_two_eq_one.2 (.inr rfl)
  omega
theorem vint_odd (n : Nat) : (vint (n / 2 * 2 + 1)).length = (vint n).length := by
  by_cases h : n < 128
  · rw [vint_small h, vint_small (by omega)]; rfl
  · rw [vint_big (n := n / 2 * 2 + 1) (by omega), vint_big (n := n) (by omega), List.length_cons, List.length_cons, show (n / 2 * 2 + 1) / 128 = n / 128 by omega]
theorem size_of (n : Nat) (h : n ≤ 18446744073709551615) : (Lib.bitLen (n ||| 1) + 6) / 7 = (vint n).length := by
  rw [or_one, size_vint _ (by omega) (by omega), vint_odd]

/-- one more byte: the number so far and seven bits more -/
theorem or_step (X : Nat) (k z : Nat) (hX : X < 2 ^ (7 * k)) (hk : k ≤ 9) (hz : z < 128) (h9 : k = 9 → z ≤ 1) :
    bits .or .u64 (X : Int) (IntKind.u64.wrap ((z : Int) % 128 * 2 ^ (7 * k))) = ((X + z * 2 ^ (7 * k) : Nat) : Int) ∧ X + z * 2 ^ (7 * k) < 2 ^ 64 := by
  have hp : 0 < 2 ^ (7 * k) := Nat.two_pow_pos _
  have hb : X + z * 2 ^ (7 * k) < 2 ^ 64 := by
    by_cases h : k = 9
    · subst h
      have := h9 rfl
      have hz01 : z = 0 ∨ z = 1 := by omega
      rcases hz01 with rfl | rfl <;> omega
    · have h1 : X + z * 2 ^ (7 * k) < 2 ^ (7 * k) * 128 := by
        have : z * 2 ^ (7 * k) ≤ 127 * 2 ^ (7 * k) := Nat.mul_le_mul_right _ (by omega)
        omega
      have h2 : 2 ^ (7 * k) * 128 ≤ 2 ^ 63 := by
        rw [show 128 = 2 ^ 7 by decide, ← Nat.pow_add]
        exact Nat.pow_le_pow_right (by decide) (by omega)
      omega
  refine ⟨?_, hb⟩
  have e : (z : Int) % 128 * 2 ^ (7 * k) = ((z * 2 ^ (7 * k) : Nat) : Int) := by
    rw [Int.emod_eq_of_lt (by omega) (by omega)]; simp
  rw [e]
  have hnn : (0 : Int) ≤ ((z * 2 ^ (7 * k) : Nat) : Int) := by omega
  have hu : ((z * 2 ^ (7 * k) : Nat) : Int) < 2 ^ 64 := by
    have : z * 2 ^ (7 * k) < 2 ^ 64 := by omega
    exact_mod_cast this
  rw [wraps_u64 _ hnn hu]
  have hX' : (X : Int) < 2 ^ (7 * k) := by exact_mod_cast hX
  have hX64 : (X : Int) < 2 ^ 64 := by
    have : X < 2 ^ 64 := by omega
    exact_mod_cast this
  rw [bits_join_low .u64 64 (by decide) wraps_u64 (7 * k) _ _ (by omega) hX' hX64 hnn (by
    have : (((z * 2 ^ (7 * k) : Nat)) : Int) = (z : Int) * 2 ^ (7 * k) := by simp
    rw [this]; exact Int.mul_emod_left _ _) hu]
  omega

/-- what was made of a number comes back, whatever stands behind; X: what came ahead -/
theorem dec_vint (n : Nat) : ∀ (X k : Nat) (t : List Int), X < 2 ^ (7 * k) → k ≤ 9 → X + n * 2 ^ (7 * k) < 2 ^ 64 →
    dec (X : Int) k (vint n ++ t) = (((X + n * 2 ^ (7 * k) : Nat) : Int), (k : Int) + (vint n).length, 0) := by
  induction n using Nat.strongRecOn with
  | _ n ih =>
    intro X k t hX hk hb
    have hp : 0 < 2 ^ (7 * k) := Nat.two_pow_pos _
    have h9 : k = 9 → n ≤ 1 := by
      intro h; subst h; omega
    by_cases h : n < 128
    · rw [vint_small h, List.singleton_append, dec_end _ _ _ _ (by omega) (by omega), (or_step X k n hX hk h h9).1]
      simp
    · have hk8 : k ≤ 8 := by omega
      rw [vint_big (by omega), List.cons_append, dec_on _ _ _ _ (by omega) (by omega)]
      have e : (((n % 128 + 128 : Nat) : Int)) % 128 = ((n % 128 : Nat) : Int) % 128 := by omega
      rw [e, (or_step X k (n % 128) hX hk (by omega) (by omega)).1]
      have hq : 2 ^ (7 * (k + 1)) = 2 ^ (7 * k) * 128 := by rw [show 7 * (k + 1) = 7 * k + 7 by omega, Nat.pow_add]
      have hsplit : n * 2 ^ (7 * k) = n % 128 * 2 ^ (7 * k) + n / 128 * 2 ^ (7 * (k + 1)) := by
        rw [hq]
        have : n = n % 128 + n / 128 * 128 := by omega
        calc n * 2 ^ (7 * k) = (n % 128 + n / 128 * 128) * 2 ^ (7 * k) := by rw [← this]
          _ = _ := by rw [Nat.add_mul, Nat.mul_assoc, Nat.mul_comm 128]
      have hz : n % 128 * 2 ^ (7 * k) ≤ 127 * 2 ^ (7 * k) := Nat.mul_le_mul_right _ (by omega)
      rw [ih (n / 128) (by omega) (X + n % 128 * 2 ^ (7 * k)) (k + 1) t (by rw [hq]; omega) (by omega) (by omega)]
      rw [hsplit, List.length_cons, Nat.add_assoc X]
      refine Prod.ext rfl (Prod.ext ?_ rfl)
      show ((k + 1 : Nat) : Int) + ((vint (n / 128)).length : Int) = (k : Int) + (((vint (n / 128)).length + 1 : Nat) : Int)
      omega
/-- of a number that was taken: it is a uint64, and its bytes were there -/
theorem dec_ok : ∀ (zs : List Int) (X k : Nat) (N K : Int), (∀ z ∈ zs, 0 ≤ z ∧ z ≤ 255) → X < 2 ^ (7 * k) → k ≤ 9 → dec (X : Int) k zs = (N, K, 0) →
    0 ≤ N ∧ N ≤ 18446744073709551615 ∧ (k : Int) < K ∧ K ≤ k + zs.length ∧ K ≤ 10
  | [], X, k, N, K, _, _, _, h => by rw [dec_nil] at h; simp at h
  | z :: zs, X, k, N, K, hb, hX, hk, h => by
    have hz := hb z List.mem_cons_self
    have hp : 0 < 2 ^ (7 * k) := Nat.two_pow_pos _
    by_cases hf : k = 9 ∧ 1 < z
    · rw [dec_form _ _ _ _ hf.1 hf.2] at h; simp at h
    · obtain ⟨y, rfl⟩ := Int.eq_ofNat_of_zero_le hz.1
      by_cases h1 : (y : Int) < 128
      · have hs := or_step X k y hX hk (by omega) (by omega)
        rw [dec_end _ _ _ _ hf h1, hs.1] at h
        simp only [Prod.mk.injEq] at h
        rw [List.length_cons]
        omega
      · have hs := or_step X k (y % 128) hX hk (by omega) (by omega)
        have e : ((y : Int)) % 128 = ((y % 128 : Nat) : Int) % 128 := by omega
        rw [dec_on _ _ _ _ hf (by omega), e, hs.1] at h
        have hq : 2 ^ (7 * (k + 1)) = 2 ^ (7 * k) * 128 := by rw [show 7 * (k + 1) = 7 * k + 7 by omega, Nat.pow_add]
        have hm : y % 128 * 2 ^ (7 * k) ≤ 127 * 2 ^ (7 * k) := Nat.mul_le_mul_right _ (by omega)
        have := dec_ok zs (X + y % 128 * 2 ^ (7 * k)) (k + 1) N K (fun z hz => hb z (List.mem_cons_of_mem _ hz)) (by rw [hq]; omega) (by omega) h
        rw [List.length_cons]
        omega
/-- cut off, it lacks something -/
theorem dec_cut (n : Nat) : ∀ (X : Int) (k : Nat) (c : Nat), k + (vint n).length ≤ 10 → c < (vint n).length → dec X k ((vint n).take c) = (0, 0, 5) := by
  induction n using Nat.strongRecOn with
  | _ n ih =>
    intro X k c hk hc
    match c with
    | 0 => rfl
    | c + 1 =>
      by_cases h : n < 128
      · rw [vint_small h] at hc; simp at hc
      · rw [vint_big (by omega)] at hc hk ⊢
        simp only [List.length_cons] at hc hk
        rw [List.take_succ_cons, dec_on _ _ _ _ (by have := vint_pos (n / 128); omega) (by omega)]
        exact ih (n / 128) (by omega) _ _ c (by omega) (by omega)
end Go.Proofs.YtckbplhplpnhaaaDoor
