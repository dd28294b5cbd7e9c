/-
  The walk over the document's Number: of up to eight bytes the number whose bytes they are, the lowest first.
-/
import Derived.Test.YthpaanjphpcfkaaFix
namespace Go.Proofs.Ythpaanjphpcfkaa
set_option linter.unusedVariables false
open Go.ChangeShapes Go.WideShapes Go.ChangeAt Go.RowKit
set_option maxHeartbeats 1000000 in
theorem number_any (a : Option Addr) (len cap : Nat) (zs : List Int) (w : World) (hB : IsB w a len zs) (hl : len ≤ 8) :
    Calls Try.prog 29 #[.slice a len cap] w fun e w' => e = .returned (.int .u64 (low zs)) ∧ w' = w := by
  have HB : Hid (IsB w a len zs) := hB
  clear hB
  go_enter Try.func29, Try.ntmps29
  go_wp2
  go_loop [3, 7] (fun x i => ∃ (k : Nat), k ≤ len ∧ i = .int .i64 k ∧ x = .int .u64 (low (zs.take k))) (fun _ i => len - (intOf i).toNat)
  case atStart => exact ⟨0, by omega, rfl, rfl⟩
  case round =>
    obtain ⟨k, hk, rfl, rfl⟩ := hrel
    by_cases hlt : k < len
    · obtain ⟨b, off, z, rfl, hcell, hz0, hz1, _, hat⟩ := isB_at HB.out hlt
      have HR : Hid _ := low_round HB.out hlt (by omega) hat hz0 hz1
      clear hat HB
      generalize low (zs.take k) = X at *
      go_wp2
      go_round
      case rel => exact ⟨k + 1, by omega, by go_num, by rw [← HR.out]⟩
      case measure => simp [intOf]; omega
    · have HE : Hid (low (zs.take k) = low zs) := by
        refine (?_ : low (zs.take k) = low zs)
        rw [List.take_of_length_le (by have := HB.out.1; omega)]
      clear HB
      go_wp2
      go_ret
      exact ⟨ret_int HE.out, rfl⟩
end Go.Proofs.Ythpaanjphpcfkaa
