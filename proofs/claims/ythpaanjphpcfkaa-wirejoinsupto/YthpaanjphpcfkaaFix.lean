/-
  The walks over the functions that take fixed numbers (Take32, Take64, and the document's Number): of bytes that are long enough the number whose bytes they are, the lowest first; of fewer bytes none. No condition but that a slice has its elements in memory.
-/
import Derived.Test.YthpaanjphpcfkaaRows
import Derived.Test.YthpaanjphpcfkaaBase
namespace Go.Proofs.Ythpaanjphpcfkaa
set_option linter.unusedVariables false
open Go.ChangeShapes Go.WideShapes Go.ChangeAt Go.RowKit

/-- the number of bytes, the lowest first -/
def low : List Int → Int
  | [] => 0
  | z :: zs => z + 256 * low zs
theorem low_snoc (l : List Int) (z : Int) : low (l ++ [z]) = low l + z * 2 ^ (8 * l.length) := by
  induction l with
  | nil => simp [low]
  | cons a l ih =>
    simp only [List.cons_append, low, ih, List.length_cons]
    rw [show 8 * (l.length + 1) = 8 * l.length + 8 by omega, Int.pow_add]
    rw [Int.mul_add, show z * (2 ^ (8 * l.length) * 2 ^ 8) = 256 * (z * 2 ^ (8 * l.length)) by
      rw [show (2 : Int) ^ 8 = 256 by decide, ← Int.mul_assoc, Int.mul_comm _ 256]]
    omega
theorem low_bd (l : List Int) (h : ∀ z ∈ l, 0 ≤ z ∧ z ≤ 255) : 0 ≤ low l ∧ low l < 2 ^ (8 * l.length) := by
  induction l with
  | nil => simp [low]
  | cons a l ih =>
    have h1 := ih (fun z hz => h z (List.mem_cons_of_mem _ hz))
    have h2 := h a List.mem_cons_self
    simp only [low, List.length_cons]
    rw [show 8 * (l.length + 1) = 8 * l.length + 8 by omega, Int.pow_add, show (2 : Int) ^ 8 = 256 by decide]
    omega
theorem low_step (l : List Int) (z : Int) (h : ∀ z ∈ l, 0 ≤ z ∧ z ≤ 255) (h8 : l.length ≤ 7) (h0 : 0 ≤ z) (h1 : z ≤ 255) :
    bits .or .u64 (low l) (IntKind.u64.wrap (z * 2 ^ (8 * l.length))) = low (l ++ [z]) := by
  have hb := low_bd l h
  rw [low_snoc]
  have hp : (0 : Int) < 2 ^ (8 * l.length) := Int.pow_pos (by decide)
  have hu : z * 2 ^ (8 * l.length) < 2 ^ 64 := by
    have e : (2 : Int) ^ 64 = 2 ^ (8 * (7 - l.length)) * 256 * 2 ^ (8 * l.length) := by
      rw [show (256 : Int) = 2 ^ 8 by decide, ← Int.pow_add, ← Int.pow_add]; congr 1; omega
    rw [e]
    apply Int.mul_lt_mul_of_pos_right _ hp
    have : (0 : Int) < 2 ^ (8 * (7 - l.length)) := Int.pow_pos (by decide)
    omega
  have hl : low l < 2 ^ 64 := by
    refine Int.lt_of_lt_of_le hb.2 ?_
    have : 2 ^ (8 * l.length) ≤ 2 ^ 64 := Nat.pow_le_pow_right (by decide) (by omega)
    exact_mod_cast this
  have hnn : 0 ≤ z * 2 ^ (8 * l.length) := Int.mul_nonneg h0 (Int.le_of_lt hp)
  rw [wraps_u64 _ hnn hu]
  exact bits_join_low .u64 64 (by decide) wraps_u64 (8 * l.length) _ _ hb.1 hb.2 hl hnn (Int.mul_emod_left _ _) hu

theorem take_snoc_at {zs : List Int} {k : Nat} {z : Int} (h : zs[k]? = some z) : zs.take (k + 1) = zs.take k ++ [z] := by
  rw [List.take_add_one, h]; rfl
theorem low_round {w : World} {a : Option Addr} {len : Nat} {zs : List Int} (hB : IsB w a len zs) {k : Nat} {z : Int} (hk : k < len) (h7 : k ≤ 7) (h : zs[k]? = some z) (h0 : 0 ≤ z) (h1 : z ≤ 255) :
    bits .or .u64 (low (zs.take k)) (IntKind.u64.wrap (z * 2 ^ (8 * k))) = low (zs.take (k + 1)) := by
  have hl : (zs.take k).length = k := by have := hB.1; simp; omega
  have hm : ∀ x ∈ zs.take k, 0 ≤ x ∧ x ≤ 255 := by
    intro x hx
    obtain ⟨_, _, rfl | ⟨b, off, _, hh⟩⟩ := hB
    · simp at hx
    · exact hh.2 x (List.mem_of_mem_take hx)
  rw [take_snoc_at h]
  have := low_step (zs.take k) z hm (by omega) h0 h1
  rw [hl] at this
  exact this
theorem isB_take {w : World} {a : Option Addr} {len : Nat} {zs : List Int} (hB : IsB w a len zs) (k : Nat) (hk : k ≤ len) : IsB w a k (zs.take k) := by
  obtain ⟨h1, h2, h3⟩ := hB
  refine ⟨by simp; omega, by omega, ?_⟩
  rcases h3 with rfl | ⟨b, off, rfl, hh⟩
  · exact .inl (by simp)
  · refine .inr ⟨b, off, rfl, ?_, ?_⟩
    · intro j z hj
      refine hh.1 j z ?_
      rw [List.getElem?_take] at hj
      split at hj
      · exact hj
      · simp at hj
    · intro z hz
      exact hh.2 z (List.mem_of_mem_take hz)

theorem low4_bd {w : World} {a : Option Addr} {len : Nat} {zs : List Int} (hB : IsB w a len zs) (hl : 4 ≤ len) : 0 ≤ low (zs.take 4) ∧ low (zs.take 4) ≤ 4294967295 := by
  obtain ⟨h1, h2, h3⟩ := isB_take hB 4 hl
  have h4 : ∀ z ∈ zs.take 4, 0 ≤ z ∧ z ≤ 255 := by
    rcases h3 with h3 | ⟨b, off, _, hh⟩
    · rw [h3]; simp
    · exact hh.2
  have := low_bd _ h4
  rw [h1] at this
  omega

set_option maxHeartbeats 1000000 in
theorem fixed_any (a : Option Addr) (len cap : Nat) (zs : List Int) (s : Nat) (w : World) (hB : IsB w a len zs) (hs : s ≤ 8) (hl : s ≤ len) :
    Calls Try.prog 40 #[.slice a len cap, .int .i64 s] w fun e w' =>
      e = .returned (.tuple #[.int .u64 (low (zs.take s)), .int .i64 0]) ∧ w' = w := by
  have hmax : len ≤ 281474976710656 := hB.2.1
  have HB : Hid (IsB w a len zs) := hB
  clear hB
  go_enter Try.func40, Try.ntmps40
  go_wp2
  go_loop [6, 13] (fun x i => ∃ (k : Nat), k ≤ s ∧ i = .int .i64 k ∧ x = .int .u64 (low (zs.take k))) (fun _ i => s - (intOf i).toNat)
  case atStart => exact ⟨0, by omega, rfl, rfl⟩
  case round =>
    obtain ⟨k, hk, rfl, rfl⟩ := hrel
    by_cases hlt : k < s
    · obtain ⟨b, off, z, rfl, hcell, hz0, hz1, _, hat⟩ := isB_at HB.out (show k < len by omega)
      have HR : Hid _ := low_round HB.out (show k < len by omega) (by omega) hat hz0 hz1
      clear hat HB
      generalize low (zs.take k) = X at *
      go_wp2
      go_round
      case rel => exact ⟨k + 1, by omega, by go_num, by rw [← HR.out]⟩
      case measure => simp [intOf]; omega
    · obtain rfl : k = s := by omega
      go_wp2
      go_ret2
      exact ⟨rfl, rfl⟩
set_option maxHeartbeats 1000000 in
theorem fixed_none (a : Option Addr) (len cap : Nat) (s : Nat) (w : World) (hl : ¬ s ≤ len) :
    Calls Try.prog 40 #[.slice a len cap, .int .i64 s] w fun e w' =>
      e = .returned (.tuple #[.int .u64 0, .int .i64 5]) ∧ w' = w := by
  go_enter Try.func40, Try.ntmps40
  go_wp2
  go_ret2
  exact ⟨rfl, rfl⟩
set_option maxHeartbeats 1000000 in
theorem take32_any (a : Option Addr) (len cap : Nat) (zs : List Int) (w : World) (hB : IsB w a len zs) (hl : 4 ≤ len) :
    Calls Try.prog 37 #[.slice a len cap] w fun e w' =>
      e = .returned (.tuple #[.int .u32 (low (zs.take 4)), .int .i64 0]) ∧ w' = w := by
  have hr := low4_bd hB hl
  have HB : Hid (IsB w a len zs) := hB
  clear hB
  go_enter Try.func37, Try.ntmps37
  go_wp2_with fail
  refine (fixed_any _ _ _ zs 4 _ HB.out (by omega) hl).mono ?_
  rintro e w' ⟨rfl, rfl⟩
  go_wp2_with fail
  go_ret2
  exact ⟨rfl, rfl⟩
set_option maxHeartbeats 1000000 in
theorem take32_none (a : Option Addr) (len cap : Nat) (w : World) (hl : ¬ 4 ≤ len) :
    Calls Try.prog 37 #[.slice a len cap] w fun e w' =>
      e = .returned (.tuple #[.int .u32 0, .int .i64 5]) ∧ w' = w := by
  go_enter Try.func37, Try.ntmps37
  go_wp2_with fail
  refine (fixed_none _ _ _ 4 _ hl).mono ?_
  rintro e w' ⟨rfl, rfl⟩
  go_wp2_with fail
  go_ret2
  exact ⟨rfl, rfl⟩
set_option maxHeartbeats 1000000 in
theorem take64_any (a : Option Addr) (len cap : Nat) (zs : List Int) (w : World) (hB : IsB w a len zs) (hl : 8 ≤ len) :
    Calls Try.prog 36 #[.slice a len cap] w fun e w' =>
      e = .returned (.tuple #[.int .u64 (low (zs.take 8)), .int .i64 0]) ∧ w' = w := by
  have HB : Hid (IsB w a len zs) := hB
  clear hB
  go_enter Try.func36, Try.ntmps36
  go_wp2_with fail
  refine (fixed_any _ _ _ zs 8 _ HB.out (by omega) hl).mono ?_
  rintro e w' ⟨rfl, rfl⟩
  go_wp2_with fail
  go_ret2
  exact ⟨rfl, rfl⟩
set_option maxHeartbeats 1000000 in
theorem take64_none (a : Option Addr) (len cap : Nat) (w : World) (hl : ¬ 8 ≤ len) :
    Calls Try.prog 36 #[.slice a len cap] w fun e w' =>
      e = .returned (.tuple #[.int .u64 0, .int .i64 5]) ∧ w' = w := by
  go_enter Try.func36, Try.ntmps36
  go_wp2_with fail
  refine (fixed_none _ _ _ 8 _ hl).mono ?_
  rintro e w' ⟨rfl, rfl⟩
  go_wp2_with fail
  go_ret2
  exact ⟨rfl, rfl⟩
end Go.Proofs.Ythpaanjphpcfkaa
