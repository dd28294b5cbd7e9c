/-
  The walk over the document's own Varint and Size: to a slice that the call itself has made the shortest varint is appended; what was there before is left.
-/
import Derived.Test.YtckbplhplpnhaaaDoorCat
import Derived.Test.YtckbplhplpnhaaaDoorVint
import Derived.Test.YtckbplhplpnhaaaDoorApp
namespace Go.Proofs.YtckbplhplpnhaaaDoor
set_option linter.unusedVariables false
open Go.ChangeShapes Go.WideShapes Go.ChangeAt Go.RowKit

set_option maxHeartbeats 1000000 in
theorem varintR_any (v : Value) (base : Nat) (xs : List Int) (n : Nat) (w : World) (hO : OwnE w base v xs) (hn : n ≤ 18446744073709551615) (hl : xs.length ≤ 140737488351300) (hb : base ≤ w.heap.size) :
    Calls Tryd.prog 21 #[v, .int .u64 n] w fun e w' =>
      ∃ v', e = .returned v' ∧ OwnB w' base v' (xs ++ vint n) ∧ Below base w w' := by
  have HO : Hid (OwnE w base v xs) := hO
  have HN : Hid (n ≤ 18446744073709551615) := hn
  have hle := vint_ten hn
  have HLn : Hid ((vint n).length ≤ 10) := hle
  clear hO hn hle
  go_enter Tryd.func21, Tryd.ntmps21
  go_wp2_with fail
  go_loopw [0, 1] (fun b x wr => ∃ (d : List Int) (m : Nat) (M : Int), M = (m : Int) ∧ vint n = d ++ vint m ∧ m ≤ 18446744073709551615 ∧ x = .int .u64 M ∧ OwnE wr base b (xs ++ d) ∧ Below base w wr) (fun _ x _ => (intOf x).toNat)
  case atStart => exact ⟨[], n, n, rfl, rfl, HN.out, rfl, by simpa using HO.out, Below.refl _ _⟩
  case round =>
    obtain ⟨d, m, M, hM, hv, hm, rfl, hown, hbel⟩ := hrel
    have hmI : 0 ≤ M ∧ M ≤ 18446744073709551615 := by omega
    have HM : Hid (m ≤ 18446744073709551615) := hm
    have HMM : Hid (M = (m : Int)) := hM
    have hor : bits .or .u8 (M % 256) 128 = M % 128 + 128 := or128 M hmI.1
    have HV : Hid (vint n = d ++ vint m) := hv
    have hdl : (xs ++ d).length ≤ 140737488351310 := by
      have := HLn.out; rw [hv, List.length_append] at this; rw [List.length_append]; omega
    have hbs : base ≤ wr.heap.size := by have := hbel.size; omega
    have HOW : Hid (OwnE wr base u0 (xs ++ d)) := hown
    have HBE : Hid (Below base w wr) := hbel
    have hM1 : 0 ≤ M % 128 := by omega
    have hM2 : M % 128 + 128 ≤ 255 := by omega
    clear hm hM hv hown hbel
    by_cases h : 128 ≤ M
    · have HE : Hid (vint m = ((m % 128 + 128 : Nat) : Int) :: vint (m / 128)) := vint_big (by have := HMM.out; omega)
      have e2 : Hid (((m % 128 + 128 : Nat) : Int) = M % 128 + 128) := by
        refine (?_ : ((m % 128 + 128 : Nat) : Int) = M % 128 + 128)
        rw [HMM.out]; omega
      go_wp2_with (at_builtin; refine wpE_append rfl (.tmp 7) (.tmp 11) rfl base u0 (xs ++ d) rfl (ownE_alloc HOW.out _) (some ⟨wr.heap.size, 0, none⟩) 1 1 [M % 128 + 128] rfl (isB_one wr _ (by omega) (by omega)) (by simp) (by omega) (by simp; omega) ?_; intro v2 w2 hown2 hg2)
      go_roundw
      case rel =>
        refine ⟨d ++ [M % 128 + 128], m / 128, M / 128, ?_, ?_, ?_, rfl, ?_, ?_⟩
        · have := HMM.out; omega
        · rw [HV.out, HE.out, List.append_assoc, List.singleton_append, e2.out]
        · have := HM.out; omega
        · rw [← List.append_assoc]; exact hown2
        · exact (HBE.out.alloc hbs _).trans hg2
      case measure => simp [intOf]; omega
    · have HE : Hid (vint m = [(m : Int)]) := vint_small (by have := HMM.out; omega)
      have hM3 : M ≤ 255 := by omega
      go_wp2_with (at_builtin; refine wpE_append rfl (.tmp 15) (.tmp 18) rfl base u0 (xs ++ d) rfl (ownE_alloc HOW.out _) (some ⟨wr.heap.size, 0, none⟩) 1 1 [M] rfl (isB_one wr _ (by omega) (by omega)) (by simp) (by omega) (by simp; omega) ?_; intro v2 w2 hown2 hg2)
      go_ret
      refine ⟨v2, rfl, ?_, (HBE.out.alloc hbs _).trans hg2⟩
      rw [HV.out, HE.out, ← HMM.out, ← List.append_assoc]; exact ownE_full hown2 (by simp only [List.length_append, List.length_singleton]; omega)
theorem varintR_int (v : Value) (base : Nat) (xs : List Int) (N : Int) (w : World) (hO : OwnE w base v xs) (h0 : 0 ≤ N) (h1 : N ≤ 18446744073709551615) (hl : xs.length ≤ 140737488351300) (hb : base ≤ w.heap.size) :
    Calls Tryd.prog 21 #[v, .int .u64 N] w fun e w' =>
      ∃ v', e = .returned v' ∧ OwnB w' base v' (xs ++ vint N.toNat) ∧ Below base w w' := by
  obtain ⟨n, rfl⟩ := Int.eq_ofNat_of_zero_le h0
  have := varintR_any v base xs n w hO (by omega) hl hb
  simpa using this
end Go.Proofs.YtckbplhplpnhaaaDoor
