/-
  The plain arithmetic of zigzag numbers: what the program computes with shifts and xors is the number that the document names, it fits its kind, and the two ways undo each other. No condition but the ranges of int64 and uint64.
-/
import Derived.Lib.Zigzag
import Derived.RowKit
namespace Go.Proofs.Ytndknaiicmkeiaa
open Go.Lib

def zigF (a : Int) : Int := if a < 0 then -2 * a - 1 else 2 * a
def zagF (u : Int) : Int := if u % 2 = 1 then -(u / 2) - 1 else u / 2

theorem zigF_bd (a : Int) (h1 : -9223372036854775808 ≤ a) (h2 : a ≤ 9223372036854775807) : 0 ≤ zigF a ∧ zigF a ≤ 18446744073709551615 := by
  unfold zigF; split <;> omega
theorem zagF_bd (u : Int) (h1 : 0 ≤ u) (h2 : u ≤ 18446744073709551615) : -9223372036854775808 ≤ zagF u ∧ zagF u ≤ 9223372036854775807 := by
  unfold zagF; split <;> omega
theorem zag_zig (a : Int) : zagF (zigF a) = a := by
  unfold zagF zigF; split <;> split <;> omega
theorem zig_zag (u : Int) (h : 0 ≤ u) : zigF (zagF u) = u := by
  unfold zagF zigF; split <;> split <;> omega
theorem zig_m1 : zigF (-1) = 1 := by decide

theorem zig_bits (a : Int) (h1 : -9223372036854775808 ≤ a) (h2 : a ≤ 9223372036854775807) :
    bits .xor .u64 (IntKind.u64.wrap (IntKind.u64.wrap a * 2)) (IntKind.u64.wrap (a / 9223372036854775808)) = zigF a := by
  unfold zigF
  by_cases h : a < 0
  · have e1 : IntKind.u64.wrap (IntKind.u64.wrap a * 2) = (((2 * a + 18446744073709551616).toNat : Nat) : Int) := by
      rw [IntKind.wrap_u64, IntKind.wrap_u64]; omega
    have e2 : IntKind.u64.wrap (a / 9223372036854775808) = ((2 ^ 64 - 1 : Nat) : Int) := by
      rw [IntKind.wrap_u64]; omega
    rw [e1, e2, bits_xor_u64_nat _ _ (by omega) (by decide), Nat.xor_comm, xor_ones64 _ (by omega), if_pos h]
    omega
  · have e1 : IntKind.u64.wrap (IntKind.u64.wrap a * 2) = (((2 * a).toNat : Nat) : Int) := by
      rw [IntKind.wrap_u64, IntKind.wrap_u64]; omega
    have e2 : IntKind.u64.wrap (a / 9223372036854775808) = ((0 : Nat) : Int) := by
      rw [IntKind.wrap_u64]; omega
    rw [e1, e2, bits_xor_u64_nat _ _ (by omega) (by decide), Nat.xor_zero, if_neg h]
    omega

theorem i64_xor_m1 (x : Nat) (hx : x < 9223372036854775808) : bits .xor .i64 (x : Int) (-1) = -(x : Int) - 1 := by
  rw [← i64_not x hx]
  show IntKind.i64.wrap ((BitVec.ofInt 64 (x : Int) ^^^ BitVec.ofInt 64 (-1)).toNat : Int) = IntKind.i64.wrap ((BitVec.ofInt 64 (-1) ^^^ BitVec.ofInt 64 (x : Int)).toNat : Int)
  rw [BitVec.xor_comm]

theorem i64_xor_0 (x : Nat) (hx : x < 9223372036854775808) : bits .xor .i64 (x : Int) 0 = (x : Int) := by
  show IntKind.i64.wrap ((BitVec.ofInt 64 (x : Int) ^^^ BitVec.ofInt 64 0).toNat : Int) = _
  have h1 : (BitVec.ofInt 64 0).toNat = 0 := by decide
  have h2 : (BitVec.ofInt 64 (x : Int)).toNat = x := by
    rw [BitVec.ofInt_natCast, BitVec.toNat_ofNat]; exact Nat.mod_eq_of_lt (by omega)
  rw [BitVec.toNat_xor, h1, h2, Nat.xor_zero, IntKind.wrap_i64]
  omega

theorem zag_bits (u : Int) (h1 : 0 ≤ u) (h2 : u ≤ 18446744073709551615) :
    bits .xor .i64 (u / 2) (RowKit.wrap64 (-RowKit.wrap64 (bits .and .u64 u 1))) = zagF u := by
  rw [u64_and1 u h1 (by omega)]
  obtain ⟨m, hm⟩ := Int.eq_ofNat_of_zero_le (show 0 ≤ u / 2 by omega)
  unfold zagF
  by_cases h : u % 2 = 1
  · have e : RowKit.wrap64 (-RowKit.wrap64 (u % 2)) = -1 := by rw [h]; decide
    rw [e, hm, i64_xor_m1 m (by omega), if_pos h]
  · have h0 : u % 2 = 0 := by omega
    have e : RowKit.wrap64 (-RowKit.wrap64 (u % 2)) = 0 := by rw [h0]; decide
    rw [e, hm, i64_xor_0 m (by omega), if_neg h]

theorem zigr_neg (a : Int) (h : a < 0) : 2 * -(a + 1) + 1 = zigF a := by unfold zigF; rw [if_pos h]; omega
theorem zigr_pos (a : Int) (h : 0 ≤ a) : 2 * a = zigF a := by unfold zigF; rw [if_neg (by omega)]
theorem zagr_odd (u : Int) (h : (u % 2 == 1) = true) : -(u / 2) - 1 = zagF u := by unfold zagF; rw [if_pos (by simpa using h)]
theorem zagr_even (u : Int) (h : (u % 2 == 1) = false) : u / 2 = zagF u := by unfold zagF; rw [if_neg (by simpa using h)]
end Go.Proofs.Ytndknaiicmkeiaa
