/-
  The walks over the program's Take and the document's Take: both answer, of any bytes, the same number, length and error ('dec'), and change nothing. No condition but that a slice has its elements in memory.
-/
import Derived.Test.YtckbplhplpnhaaaDoorRows
import Derived.Test.YtckbplhplpnhaaaDoorBase
namespace Go.Proofs.YtckbplhplpnhaaaDoor
set_option linter.unusedVariables false
open Go.ChangeShapes Go.WideShapes Go.ChangeAt Go.RowKit
set_option maxHeartbeats 1000000 in
theorem take_any (a : Option Addr) (len cap : Nat) (zs : List Int) (w : World) (hB : IsB w a len zs) :
    Calls Tryd.prog 32 #[.slice a len cap] w fun e w' =>
      e = .returned (.tuple #[.int .u64 (dec 0 0 zs).1, .int .i64 (dec 0 0 zs).2.1, .int .i64 (dec 0 0 zs).2.2]) ∧ w' = w := by
  have hmax : len ≤ 281474976710656 := hB.2.1
  have HB : Hid (IsB w a len zs) := hB
  clear hB
  go_enter Tryd.func32, Tryd.ntmps32
  go_wp2
  go_loop [5, 6] (fun x i => ∃ (k : Nat) (X : Int), k ≤ len ∧ k ≤ 9 ∧ i = .int .i64 k ∧ x = .int .u64 X ∧ dec 0 0 zs = dec X k (zs.drop k)) (fun _ i => len - (intOf i).toNat)
  case atStart => exact ⟨0, 0, by omega, by omega, rfl, rfl, rfl⟩
  case round =>
    obtain ⟨k, X, hk, hk9, rfl, rfl, hd⟩ := hrel
    have HD : Hid (dec 0 0 zs = dec X k (zs.drop k)) := hd
    clear hd
    by_cases hlt : k < len
    · obtain ⟨b, off, z, rfl, hcell, hz0, hz1, hdr, _⟩ := isB_at HB.out hlt
      have HE : Hid (dec 0 0 zs = dec X k (z :: zs.drop (k + 1))) := by rw [← hdr]; exact HD.out
      clear hdr HD HB
      have hmask := u8_and127 z hz0 (by omega)
      by_cases h9 : k = 9
      · subst h9
        by_cases h1 : 1 < z
        · have HV : Hid (dec 0 0 zs = (0, 0, 2)) := HE.out.trans (dec_form _ _ _ _ rfl h1)
          clear HE
          go_wp2
          go_ret3
          exact ⟨ret_dec HV.out, rfl⟩
        · have HV : Hid (dec 0 0 zs = (bits .or .u64 X (z % 128 * 9223372036854775808), 10, 0)) := HE.out.trans (dec_nine _ _ _ hz0 h1)
          clear HE
          go_wp2
          go_ret3
          exact ⟨ret_dec HV.out, rfl⟩
      · by_cases h1 : z < 128
        · have HV : Hid (dec 0 0 zs = (bits .or .u64 X (IntKind.u64.wrap (z % 128 * 2 ^ (7 * k))), (k : Int) + 1, 0)) := HE.out.trans (dec_end _ _ _ _ (by omega) h1)
          clear HE
          go_wp2
          go_ret3
          exact ⟨ret_dec HV.out, rfl⟩
        · have HV : Hid (dec 0 0 zs = dec (bits .or .u64 X (IntKind.u64.wrap (z % 128 * 2 ^ (7 * k)))) (k + 1) (zs.drop (k + 1))) := HE.out.trans (dec_on _ _ _ _ (by omega) (by omega))
          clear HE
          go_wp2
          go_round
          case rel => exact ⟨k + 1, _, by omega, by omega, by go_num, rfl, HV.out⟩
          case measure => simp [intOf]; omega
    · have HV : Hid (dec 0 0 zs = (0, 0, 5)) := by
        refine (?_ : dec 0 0 zs = (0, 0, 5))
        rw [HD.out, List.drop_eq_nil_of_le (by have := HB.out.1; omega)]; rfl
      clear HD HB
      go_wp2
      go_ret3
      exact ⟨ret_dec HV.out, rfl⟩
set_option maxHeartbeats 1000000 in
theorem takeRB_any (a : Option Addr) (len cap : Nat) (zs : List Int) (w : World) (hB : IsB w a len zs) :
    Calls Tryd.prog 27 #[.slice a len cap] w fun e w' =>
      e = .returned (.tuple #[.int .u64 (dec 0 0 zs).1, .int .i64 (dec 0 0 zs).2.1, .int .i64 (dec 0 0 zs).2.2]) ∧ w' = w := by
  have hmax : len ≤ 281474976710656 := hB.2.1
  have HB : Hid (IsB w a len zs) := hB
  clear hB
  go_enter Tryd.func27, Tryd.ntmps27
  go_wp2
  go_loop [5, 9] (fun x i => ∃ (k : Nat) (X : Int), k ≤ len ∧ k ≤ 9 ∧ i = .int .i64 k ∧ x = .int .u64 X ∧ dec 0 0 zs = dec X k (zs.drop k)) (fun _ i => len - (intOf i).toNat)
  case atStart => exact ⟨0, 0, by omega, by omega, rfl, rfl, rfl⟩
  case round =>
    obtain ⟨k, X, hk, hk9, rfl, rfl, hd⟩ := hrel
    have HD : Hid (dec 0 0 zs = dec X k (zs.drop k)) := hd
    clear hd
    by_cases hlt : k < len
    · obtain ⟨b, off, z, rfl, hcell, hz0, hz1, hdr, _⟩ := isB_at HB.out hlt
      have HE : Hid (dec 0 0 zs = dec X k (z :: zs.drop (k + 1))) := by rw [← hdr]; exact HD.out
      clear hdr HD HB
      have hmask := u8_and127 z hz0 (by omega)
      by_cases h9 : k = 9
      · subst h9
        by_cases h1 : 1 < z
        · have HV : Hid (dec 0 0 zs = (0, 0, 2)) := HE.out.trans (dec_form _ _ _ _ rfl h1)
          clear HE
          go_wp2
          go_ret3
          exact ⟨ret_dec HV.out, rfl⟩
        · have HV : Hid (dec 0 0 zs = (bits .or .u64 X (z % 128 * 9223372036854775808), 10, 0)) := HE.out.trans (dec_nine _ _ _ hz0 h1)
          clear HE
          go_wp2
          go_ret3
          exact ⟨ret_dec HV.out, rfl⟩
      · by_cases h1 : z < 128
        · have HV : Hid (dec 0 0 zs = (bits .or .u64 X (IntKind.u64.wrap (z % 128 * 2 ^ (7 * k))), (k : Int) + 1, 0)) := HE.out.trans (dec_end _ _ _ _ (by omega) h1)
          clear HE
          go_wp2
          go_ret3
          exact ⟨ret_dec HV.out, rfl⟩
        · have HV : Hid (dec 0 0 zs = dec (bits .or .u64 X (IntKind.u64.wrap (z % 128 * 2 ^ (7 * k)))) (k + 1) (zs.drop (k + 1))) := HE.out.trans (dec_on _ _ _ _ (by omega) (by omega))
          clear HE
          go_wp2
          go_round
          case rel => exact ⟨k + 1, _, by omega, by omega, by go_num, rfl, HV.out⟩
          case measure => simp [intOf]; omega
    · have HV : Hid (dec 0 0 zs = (0, 0, 5)) := by
        refine (?_ : dec 0 0 zs = (0, 0, 5))
        rw [HD.out, List.drop_eq_nil_of_le (by have := HB.out.1; omega)]; rfl
      clear HD HB
      go_wp2
      go_ret3
      exact ⟨ret_dec HV.out, rfl⟩
end Go.Proofs.YtckbplhplpnhaaaDoor
