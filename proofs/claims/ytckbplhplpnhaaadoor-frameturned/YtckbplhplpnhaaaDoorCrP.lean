/-
  The walks over the sums of bytes: the program's and the document's own.
-/
import Derived.Test.YtckbplhplpnhaaaDoorCrT
namespace Go.Proofs.YtckbplhplpnhaaaDoor
set_option linter.unusedVariables false
open Go.ChangeShapes Go.WideShapes Go.ChangeAt Go.RowKit

theorem not_of (x : Nat) (h : x < 4294967296) : bits .xor .u32 IntKind.u32.max (x : Int) = ((not32 x : Nat) : Int) := by
  have := u32_xor_nat 4294967295 x (by omega) h
  rw [Nat.xor_comm] at this
  exact this
theorem four_of (x : Nat) (h : x < 4294967296) : bits .xor .u32 ((x : Int) / 16) ((tabN (x % 16) : Nat) : Int) = ((stN 4 x : Nat) : Int) := by
  have := u32_xor_nat (x / 16) (tabC.getD (x % 16) 0) (by omega) (tabC_lt _)
  rw [four_at, Int.natCast_ediv] at this
  exact this
/-- the bytes as natural numbers -/
def nats (zs : List Int) : List Nat := zs.map Int.toNat
theorem nats_take {zs : List Int} {k : Nat} {z : Int} (h : zs[k]? = some z) (h0 : 0 ≤ z) : nats (zs.take (k + 1)) = nats (zs.take k) ++ [z.toNat] := by
  unfold nats
  rw [List.take_add_one, h, List.map_append]
  rfl
theorem nats_lt {zs : List Int} (h : ∀ z ∈ zs, 0 ≤ z ∧ z ≤ 255) : ∀ b ∈ nats zs, b < 256 := by
  intro b hb
  obtain ⟨z, hz, rfl⟩ := List.mem_map.1 hb
  have := h z hz
  omega
set_option maxHeartbeats 1000000 in
theorem update_any (s : Nat) (a : Option Addr) (len cap : Nat) (zs : List Int) (w : World) (hT : Shf w) (hs : s < 4294967296) (hB : IsB w a len zs) :
    Calls Tryd.prog 30 #[.int .u32 s, .slice a len cap] w fun e w' => e = .returned (.int .u32 (updC s (nats zs) : Nat)) ∧ w' = w := by
  have HT := Lib.hid hT
  have HB := Lib.hid hB
  have hlm := hB.2.1
  clear hT hB
  go_enter Tryd.func30, Tryd.ntmps30
  have hn := not_of s hs
  have hnn := hn
  have hnl := not_lt hs
  go_wp2
  clear hnn
  clear hn
  go_loop [0, 11] (fun t i => ∃ (k x : Nat), k ≤ len ∧ i = .int .i64 k ∧ t = .int .u32 x ∧ x < 4294967296 ∧ x = raw (not32 s) (nats (zs.take k))) (fun _ i => len - (intOf i).toNat)
  case atStart => exact ⟨0, _, Nat.zero_le _, rfl, rfl, hnl, rfl⟩
  case round =>
    obtain ⟨k, x, hk, rfl, rfl, hx, hxe⟩ := hrel
    have HX := Lib.hid hxe
    clear hxe hnl
    by_cases hlt : k < len
    · obtain ⟨b, off, z, rfl, hc, h0, h1, _, hz⟩ := isB_at HB.out hlt
      have hw : IntKind.u32.wrap z = z := by rw [IntKind.wrap_u32]; omega
      obtain ⟨c, rfl⟩ := Int.eq_ofNat_of_zero_le h0
      have hx1 := xor_of x c hx (by omega)
      have hl1 : x ^^^ c < 4294967296 := xor_lt32 hx (by omega)
      have ha1 := and_fif _ hl1
      have hf1 := four_of _ hl1
      have ht1 := HT.out.at ((x ^^^ c) % 16) (Nat.mod_lt _ (by decide))
      have hl2 := stN_lt 4 hl1
      have ha2 := and_fif _ hl2
      have hf2 := four_of _ hl2
      have ht2 := HT.out.at (stN 4 (x ^^^ c) % 16) (Nat.mod_lt _ (by decide))
      have HU : Hid (stN 4 (stN 4 (x ^^^ c)) = raw (not32 s) (nats (zs.take (k + 1))) ∧ stN 4 (stN 4 (x ^^^ c)) < 4294967296) := by
        refine (?_ : _ = _ ∧ _)
        rw [nats_take hz (by omega), raw_snoc, ← HX.out, up_eight]
        exact ⟨rfl, stN_lt 4 hl2⟩
      clear hz HX
      go_wp2
      go_round
      case rel => exact ⟨k + 1, _, by omega, by go_num, rfl, HU.out.2, HU.out.1⟩
      case measure => simp [intOf]; omega
    · obtain rfl : k = len := by omega
      have hnx := not_of x hx
      have HE : Hid (updC s (nats zs) = not32 x) := by
        refine (?_ : _ = _)
        rw [HX.out, List.take_of_length_le (by have := HB.out.1; omega)]
        rfl
      clear HX
      go_wp2
      go_ret
      exact ⟨ret_int (by rw [HE.out]), rfl⟩
/-- the document's own -/
theorem eight_at (x c : Nat) : stN 8 (x ^^^ c) = up x c := rfl
set_option maxHeartbeats 1000000 in
theorem updateR_any (s : Nat) (a : Option Addr) (len cap : Nat) (zs : List Int) (w : World) (hs : s < 4294967296) (hB : IsB w a len zs) :
    Calls Tryd.prog 31 #[.int .u32 s, .slice a len cap] w fun e w' => e = .returned (.int .u32 (updC s (nats zs) : Nat)) ∧ w' = w := by
  have HB := Lib.hid hB
  have hlm := hB.2.1
  clear hB
  go_enter Tryd.func31, Tryd.ntmps31
  have hn := not_of s hs
  have hnl := not_lt hs
  go_wp2
  clear hn
  go_loop [0, 10] (fun t i => ∃ (k x : Nat), k ≤ len ∧ i = .int .i64 k ∧ t = .int .u32 x ∧ x < 4294967296 ∧ x = raw (not32 s) (nats (zs.take k))) (fun _ i => len - (intOf i).toNat)
  case atStart => exact ⟨0, _, Nat.zero_le _, rfl, rfl, hnl, rfl⟩
  case round =>
    obtain ⟨k, x, hk, rfl, rfl, hx, hxe⟩ := hrel
    have HX := Lib.hid hxe
    clear hxe hnl
    by_cases hlt : k < len
    · obtain ⟨b, off, z, rfl, hc, h0, h1, _, hz⟩ := isB_at HB.out hlt
      have hw : IntKind.u32.wrap z = z := by rw [IntKind.wrap_u32]; omega
      obtain ⟨c, rfl⟩ := Int.eq_ofNat_of_zero_le h0
      have hx1 := xor_of x c hx (by omega)
      have hl1 : x ^^^ c < 4294967296 := xor_lt32 hx (by omega)
      have HU : Hid (stN 8 (x ^^^ c) = raw (not32 s) (nats (zs.take (k + 1))) ∧ stN 8 (x ^^^ c) < 4294967296) := by
        refine (?_ : _ = _ ∧ _)
        rw [nats_take hz (by omega), raw_snoc, ← HX.out]
        exact ⟨rfl, stN_lt 8 hl1⟩
      clear hz HX
      go_wp2
      generalize x ^^^ c = y at *
      go_loop [0, 20] (fun t i => ∃ (j v : Nat), j ≤ 8 ∧ i = .int .i64 j ∧ t = .int .u32 v ∧ v < 4294967296 ∧ v = stN j y) (fun _ i => 8 - (intOf i).toNat)
      case atStart => exact ⟨0, _, Nat.zero_le _, rfl, rfl, hl1, rfl⟩
      case round =>
        obtain ⟨j, v, hj, rfl, rfl, hv, hve⟩ := hrel
        have HV := Lib.hid hve
        clear hve
        by_cases hj8 : j < 8
        · have HV2 : Hid (st1 v = stN (j + 1) y) := by
            refine (?_ : _ = _)
            rw [stN_snoc, HV.out]
          have hv2 := st1_lt hv
          go_wp2_with (go_at_call 34; refine (shift_any v _ hv).mono ?_; rintro e w' ⟨rfl, rfl⟩)
          go_round
          case rel => exact ⟨j + 1, _, by omega, by go_num, rfl, hv2, HV2.out⟩
          case measure => simp [intOf]; omega
        · obtain rfl : j = 8 := by omega
          go_wp2
          go_round
          case rel => exact ⟨k + 1, _, by omega, by go_num, rfl, hv, by rw [HV.out, HU.out.1]⟩
          case measure => simp [intOf]; omega
    · obtain rfl : k = len := by omega
      have hnx := not_of x hx
      have HE : Hid (updC s (nats zs) = not32 x) := by
        refine (?_ : _ = _)
        rw [HX.out, List.take_of_length_le (by have := HB.out.1; omega)]
        rfl
      clear HX
      go_wp2
      go_ret
      exact ⟨ret_int (by rw [HE.out]), rfl⟩
set_option maxHeartbeats 1000000 in
theorem sum_any (a : Option Addr) (len cap : Nat) (zs : List Int) (w : World) (hT : Shf w) (hB : IsB w a len zs) :
    Calls Tryd.prog 20 #[.slice a len cap] w fun e w' => e = .returned (.int .u32 (sumC (nats zs) : Nat)) ∧ w' = w := by
  have h := update_any 0 a len cap zs w hT (by omega) hB
  clear hT hB
  go_enter Tryd.func20, Tryd.ntmps20
  go_wp2_with fail
  refine h.mono ?_
  rintro e w' ⟨rfl, rfl⟩
  go_wp2
  go_ret
  exact ⟨rfl, rfl⟩
set_option maxHeartbeats 1000000 in
theorem sumR_any (a : Option Addr) (len cap : Nat) (zs : List Int) (w : World) (hB : IsB w a len zs) :
    Calls Tryd.prog 22 #[.slice a len cap] w fun e w' => e = .returned (.int .u32 (sumC (nats zs) : Nat)) ∧ w' = w := by
  have h := updateR_any 0 a len cap zs w (by omega) hB
  clear hB
  go_enter Tryd.func22, Tryd.ntmps22
  go_wp2_with fail
  refine h.mono ?_
  rintro e w' ⟨rfl, rfl⟩
  go_wp2
  go_ret
  exact ⟨rfl, rfl⟩
end Go.Proofs.YtckbplhplpnhaaaDoor
