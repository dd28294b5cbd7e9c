/-
  The walk over the document's own Low: so many bytes of a number, the lowest first, in new memory; what was there before is left.
-/
import Derived.Test.YthpaanjphpcfkaaVarR
import Derived.Test.YthpaanjphpcfkaaAFix
namespace Go.Proofs.Ythpaanjphpcfkaa
set_option linter.unusedVariables false
open Go.ChangeShapes Go.WideShapes Go.ChangeAt Go.RowKit
set_option maxHeartbeats 1000000 in
theorem lowR_any (n : Int) (s : Nat) (w : World) (hn0 : 0 ≤ n) (hn1 : n ≤ 18446744073709551615) (hs : s ≤ 8) :
    Calls Try.prog 25 #[.int .u64 n, .int .i64 s] w fun e w' =>
      ∃ v', e = .returned v' ∧ OwnB w' w.heap.size v' (lob n s) ∧ Below w.heap.size w w' := by
  go_enter Try.func25, Try.ntmps25
  go_wp2_with fail
  go_loopw [5, 8] (fun v i wr => ∃ k : Nat, k ≤ s ∧ i = .int .i64 k ∧ OwnB wr w.heap.size v (lob n k) ∧ Below w.heap.size w wr) (fun _ i _ => s - (intOf i).toNat)
  case atStart => exact ⟨0, by omega, rfl, own_nil _ _, Below.refl _ _⟩
  case round =>
    obtain ⟨k, hk, rfl, hown, hbel⟩ := hrel
    have HO : Hid (OwnB wr w.heap.size u5 (lob n k)) := hown
    have HB : Hid (Below w.heap.size w wr) := hbel
    have hsz := hbel.size
    have hll := lob_length n k
    have HLL : Hid ((lob n k).length = k) := hll
    clear hown hbel hll
    by_cases hlt : k < s
    · have hz0 : 0 ≤ n / 2 ^ (8 * k) % 256 := by omega
      have hz1 : n / 2 ^ (8 * k) % 256 ≤ 255 := by omega
      go_wp2_with (at_builtin; (refine wpB_append rfl (.tmp 11) (.tmp 18) rfl w.heap.size u5 (lob n k) rfl (own_alloc HO.out _) (some ⟨wr.heap.size, 0, none⟩) 1 1 [n / 2 ^ (8 * k) % 256] rfl (isB_one wr _ (by omega) (by omega)) (by simp) (by have := HLL.out; omega) (by simp; omega) ?_); intro v2 w2 hown2 hg2)
      go_roundw
      case rel => exact ⟨k + 1, by omega, by go_num, hown2, (HB.out.alloc hsz _).grown hg2 (by simp; omega) (own_block HO.out)⟩
      case measure => simp [intOf]; omega
    · obtain rfl : k = s := by omega
      go_wp2_with fail
      go_ret
      exact ⟨_, rfl, HO.out, HB.out⟩
end Go.Proofs.Ythpaanjphpcfkaa
