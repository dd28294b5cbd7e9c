/-
  The walks over Size and Append: how many bytes the shortest varint has; and it comes behind the bytes, all in one new block; nothing else changes.
-/
import Derived.Test.YtckbplhplpnhaaaDoorGrown
import Derived.Test.YtckbplhplpnhaaaDoorVint
import Derived.Test.YtckbplhplpnhaaaDoorShB
namespace Go.Proofs.YtckbplhplpnhaaaDoor
set_option linter.unusedVariables false
open Go.ChangeShapes Go.WideShapes Go.ChangeAt Go.RowKit

set_option maxHeartbeats 1000000 in
theorem size_any (n : Nat) (w : World) (h : n ≤ 18446744073709551615) :
    Calls Tryd.prog 29 #[.int .u64 n] w fun e w' => e = .returned (.int .i64 ((vint n).length : Nat)) ∧ w' = w := by
  have hor : bits .or .u64 (n : Int) 1 = ((n ||| 1 : Nat) : Int) := bits_or_u64_nat n 1 (by omega) (by decide)
  have hb : (n ||| 1) ≤ 18446744073709551615 := by rw [or_one]; omega
  have HS : Hid ((Lib.bitLen (n ||| 1) + 6) / 7 = (vint n).length) := size_of n h
  have hle := vint_ten h
  generalize (n ||| 1) = m at *
  generalize (vint n).length = L at *
  have hbl : Lib.bitLen m ≤ 70 := by have := HS.out; omega
  go_enter Tryd.func29, Tryd.ntmps29
  go_wp2_with fail
  refine (bits_Len64 _ _ (by omega) (by omega)).mono ?_
  rintro e w' ⟨rfl, rfl⟩
  rw [Int.toNat_natCast]
  go_wp2_with fail
  go_ret
  exact ⟨ret_int (by have := HS.out; omega), rfl⟩
theorem app_at (zs d : List Int) (k p len : Nat) (hk : 1 ≤ k) (hp : d.length = p) (hl : zs.length = len) : (zs ++ (d ++ List.replicate k 0))[len + p]? = some 0 := by
  subst hl hp
  rw [List.getElem?_append_right (by omega), List.getElem?_append_right (by omega), show zs.length + d.length - zs.length - d.length = 0 by omega]
  obtain ⟨m, rfl⟩ : ∃ m, k = m + 1 := ⟨k - 1, by omega⟩
  simp [List.replicate_succ]
theorem app_set (w : World) (zs d : List Int) (k p len : Nat) (z : Int) (hp : d.length = p) (hl : zs.length = len) :
    (blk w 5 (zs ++ (d ++ List.replicate (k + 1) 0))).setCell ⟨w.heap.size, len + p, none⟩ (.int .u8 z) = blk w 5 (zs ++ ((d ++ [z]) ++ List.replicate k 0)) := by
  subst hl hp
  rw [blk_set]
  congr 1
  rw [List.set_append_right _ _ (by omega), List.set_append_right _ _ (by omega)]
  simp [List.replicate_succ]
theorem or128 (m : Int) (h : 0 ≤ m) : bits .or .u8 (m % 256) 128 = m % 128 + 128 := by
  rw [Lib.u8_or128_any _ (by omega) (by omega)]; omega

set_option maxHeartbeats 1000000 in
theorem append_any (a : Option Addr) (len cap : Nat) (zs : List Int) (n : Nat) (w : World) (hB : IsB w a len zs) (hn : n ≤ 18446744073709551615) (hl : len ≤ 140737488351232) :
    Calls Tryd.prog 19 #[.slice a len cap, .int .u64 n] w fun e w' =>
      e = .returned (.slice (some ⟨w.heap.size, 0, none⟩) (len + (vint n).length) (len + (vint n).length)) ∧ w' = blk w 5 (zs ++ vint n) := by
  have HB : Hid (IsB w a len zs) := hB
  have HL : Hid (zs.length = len) := hB.1
  have hle := vint_ten hn
  have hsz := fun w => size_any n w hn
  obtain ⟨L, hL⟩ : ∃ L, (vint n).length = L := ⟨_, rfl⟩
  rw [hL] at hle ⊢
  have HZ : Hid (∀ w : World, Calls Tryd.prog 29 #[.int .u64 n] w fun e w' => e = .returned (.int .i64 (L : Nat)) ∧ w' = w) := by
    rw [hL] at hsz; exact hsz
  have HLn : Hid ((vint n).length = L) := hL
  have HN : Hid (n ≤ 18446744073709551615) := hn
  have hnI : (n : Int) ≤ 18446744073709551615 := by omega
  clear hB hsz hL hn
  go_enter Tryd.func19, Tryd.ntmps19
  go_wp2_with fail
  refine (HZ.out _).mono ?_
  rintro e w' ⟨rfl, rfl⟩
  clear HZ
  go_wp2_with fail
  refine (grown_any _ _ _ zs L _ HB.out (by omega)).mono ?_
  rintro e w2 ⟨rfl, rfl⟩
  clear HB
  go_wp2_with fail
  go_loopw [1, 6] (fun x i wr => ∃ (d : List Int) (m p k : Nat) (M : Int), M = (m : Int) ∧ (vint n = d ++ vint m) ∧ (vint m).length = k ∧ p + k = L ∧ 1 ≤ k ∧ m ≤ 18446744073709551615 ∧ d.length = p ∧ p ≤ 10 ∧ x = .int .u64 M ∧ i = .int .i64 (len + p : Nat) ∧ wr = blk w' 5 (zs ++ (d ++ List.replicate k 0))) (fun x _ _ => (intOf x).toNat)
  case atStart => exact ⟨[], n, 0, L, n, rfl, rfl, HLn.out, by omega, by have := vint_pos n; rw [HLn.out] at this; exact this, HN.out, rfl, by omega, rfl, by simp, rfl⟩
  case round =>
    obtain ⟨d, m, p, k, M, hM, hv, hk, hpk, hvp, hm, hp, hp10, rfl, rfl, hwr⟩ := hrel
    have HW : Hid (wr = blk w' 5 (zs ++ (d ++ List.replicate k 0))) := hwr
    have HV : Hid (vint n = d ++ vint m) := hv
    have HP : Hid (d.length = p) := hp
    have HK : Hid ((vint m).length = k) := hk
    have hpl : p + k ≤ L := by omega
    have hmI : 0 ≤ M ∧ M ≤ 18446744073709551615 := by omega
    have HM : Hid (m ≤ 18446744073709551615) := hm
    have HMM : Hid (M = (m : Int)) := hM
    have hor : bits .or .u8 (M % 256) 128 = M % 128 + 128 := or128 M hmI.1
    clear hm hM
    have HPK : Hid (p + k = L) := hpk
    clear hwr hv hp hk hpk
    have hcell : wr.cell? ⟨w'.heap.size, len + p, none⟩ = some (.int .u8 0) := by
      rw [HW.out]; exact blk_cell w' 5 _ (app_at zs d _ p len hvp HP.out HL.out)
    have hfro : wr.frozen? ⟨w'.heap.size, len + p, none⟩ = false := by
      rw [HW.out]; exact blk_frozen w' 5 _ _
    by_cases h : 128 ≤ M
    · have HE : Hid (vint m = ((m % 128 + 128 : Nat) : Int) :: vint (m / 128)) := vint_big (by have := HMM.out; omega)
      have e2 : Hid (((m % 128 + 128 : Nat) : Int) = M % 128 + 128) := by
        refine (?_ : ((m % 128 + 128 : Nat) : Int) = M % 128 + 128)
        rw [HMM.out]; omega
      obtain ⟨k', hk'⟩ : ∃ k', k = k' + 1 := ⟨k - 1, by omega⟩
      have HKK : Hid (k = k' + 1) := hk'
      clear hk'
      go_wp2
      go_roundw
      case rel =>
        have hk' := HKK.out
        refine ⟨d ++ [M % 128 + 128], m / 128, p + 1, k', M / 128, ?_, ?_, ?_, ?_, ?_, ?_, ?_, ?_, rfl, ?_, ?_⟩
        · have := HMM.out; omega
        · rw [HV.out, HE.out, List.append_assoc, List.singleton_append, e2.out]
        · have := HK.out
          rw [HE.out, List.length_cons] at this; omega
        · have := HPK.out; omega
        · have := HK.out
          rw [HE.out, List.length_cons] at this
          have := vint_pos (m / 128); omega
        · have := HM.out; omega
        · rw [List.length_append, HP.out]; rfl
        · omega
        · go_num
        · rw [HW.out, hk']
          exact app_set w' zs d k' p len _ HP.out HL.out
      case measure => simp [intOf]; omega
    · have HE : Hid (vint m = [(m : Int)]) := vint_small (by have := HMM.out; omega)
      go_wp2
      go_ret
      refine ⟨rfl, ?_⟩
      have hk1 : k = 0 + 1 := by have := HK.out; rw [HE.out] at this; simpa using this.symm
      rw [HW.out, hk1, app_set w' zs d 0 p len _ HP.out HL.out, HV.out, HE.out, HMM.out]
      simp
end Go.Proofs.YtckbplhplpnhaaaDoor
