/-
  The walks over the law's own helpers: awake answers true; few answers whether the text has at most 3000 bytes.
-/
import Derived.Test.YtpodlakkfbjhbaaDoorDCam
namespace Go.Proofs.YtpodlakkfbjhbaaDoor
set_option linter.unusedVariables false
open Go.Shelf Go.RowKit

theorem name_l1 : nameOf (runes ⟨#[206, 187, 49]⟩) = true := by decide +kernel
theorem camel_gi : encL (camelL true (runes ⟨#[103, 101, 116, 95, 105, 116, 101, 109]⟩)) = [71, 101, 116, 73, 116, 101, 109] := by decide +kernel
theorem name_gi : nameOf (runes ⟨#[103, 101, 116, 95, 105, 116, 101, 109]⟩) = true := by decide +kernel

set_option maxHeartbeats 1000000 in
theorem awake_any (w : World) :
    Calls Tryd.prog 6 #[] w fun e w' => e = .returned (.bool true) ∧ Below w.heap.size w w' := by
  have h1 := name_any ⟨#[206, 187, 49]⟩ w (by decide)
  rw [name_l1] at h1
  have h2 := fun W => camel_any ⟨#[103, 101, 116, 95, 105, 116, 101, 109]⟩ W (by decide)
  simp only [name_gi, camel_gi, if_true] at h2
  go_enter Tryd.func6, Tryd.ntmps6
  go_wp2_with fail
  refine h1.mono ?_
  rintro e w1 ⟨rfl, hb⟩
  go_wp2_with fail
  refine (h2 w1).mono ?_
  rintro e w2 ⟨rfl, hb2⟩
  go_wp2_with fail
  go_ret
  exact ⟨retB (by decide), hb.trans (hb2.mono hb.size)⟩

set_option maxHeartbeats 1000000 in
theorem few_any (b c : Nat) (s : ByteArray) (w : World) (hc : w.cell? ⟨b, 0, none⟩ = some (.string s)) (hs : s.size ≤ 9223372036854775807) :
    Calls Tryd.prog 7 #[.slice (some ⟨b, 0, none⟩) 1 c] w fun e w' => e = .returned (.bool (decide (s.size ≤ 3000))) ∧ w' = w := by
  by_cases h3 : s.size ≤ 3000
  · rw [decide_eq_true h3]
    have h3' : ¬ (3000 : Int) < (s.size : Int) := by omega
    go_enter Tryd.func7, Tryd.ntmps7
    go_wp2
    go_loop [6] (fun i => ∃ k : Nat, k ≤ 1 ∧ i = .int .i64 k) (fun i => 1 - (intOf i).toNat)
    case atStart => exact ⟨0, by omega, rfl⟩
    case round =>
      obtain ⟨k, hk, rfl⟩ := hrel
      by_cases hlt : k = 0
      · subst hlt
        go_wp2
        go_round
        case rel => exact ⟨1, by omega, by go_num⟩
        case measure => simp [intOf]
      · obtain rfl : k = 1 := by omega
        go_wp2
        go_ret
        exact ⟨rfl, rfl⟩
  · rw [decide_eq_false h3]
    have h3' : (3000 : Int) < (s.size : Int) := by omega
    go_enter Tryd.func7, Tryd.ntmps7
    go_wp2
    go_loop [6] (fun i => i = .int .i64 0) (fun i => 1 - (intOf i).toNat)
    case atStart => rfl
    case round =>
      subst hrel
      go_wp2
      go_ret
      exact ⟨rfl, rfl⟩
end Go.Proofs.YtpodlakkfbjhbaaDoor
