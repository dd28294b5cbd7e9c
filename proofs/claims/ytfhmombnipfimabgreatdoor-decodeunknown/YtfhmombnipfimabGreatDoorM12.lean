/-
  The walks over the program's numbers: zigzag, what a value is written as, and its bytes in a packed field.
  The walks over the small functions of package value, and of the document: types of fields, and which field is meant.
  The walk over the document's own Small of schemas.
-/
import Derived.Test.YtfhmombnipfimabGreatDoorM9
import Derived.Test.YtfhmombnipfimabGreatDoorM10
import Derived.Test.YtfhmombnipfimabGreatDoorM11
import Derived.Lib.Zigzag
import Derived.Test.YtfhmombnipfimabGreatDoorM8
import Derived.BigQuiet
import Derived.Test.YtfhmombnipfimabGreatDoorM7
namespace Go.Proofs.YtfhmombnipfimabGreatDoor
set_option linter.unusedVariables false
open Go.ChangeShapes Go.WideShapes Go.ChangeAt Go.RowKit Go.Lib

theorem zig_bits (a : Int) (h1 : -9223372036854775808 ≤ a) (h2 : a ≤ 9223372036854775807) :
    bits .xor .u64 (IntKind.u64.wrap (IntKind.u64.wrap a * 2)) (IntKind.u64.wrap (a / 9223372036854775808)) = zigI a := by
  unfold zigI
  by_cases h : a < 0
  · have e1 : IntKind.u64.wrap (IntKind.u64.wrap a * 2) = (((2 * a + 18446744073709551616).toNat : Nat) : Int) := by
      rw [IntKind.wrap_u64, IntKind.wrap_u64]; omega
    have e2 : IntKind.u64.wrap (a / 9223372036854775808) = ((2 ^ 64 - 1 : Nat) : Int) := by
      rw [IntKind.wrap_u64]; omega
    rw [e1, e2, bits_xor_u64_nat _ _ (by omega) (by decide), Nat.xor_comm, xor_ones64 _ (by omega), if_pos h]
    omega
  · have e1 : IntKind.u64.wrap (IntKind.u64.wrap a * 2) = (((2 * a).toNat : Nat) : Int) := by
      rw [IntKind.wrap_u64, IntKind.wrap_u64]; omega
    have e2 : IntKind.u64.wrap (a / 9223372036854775808) = ((0 : Nat) : Int) := by
      rw [IntKind.wrap_u64]; omega
    rw [e1, e2, bits_xor_u64_nat _ _ (by omega) (by decide), Nat.xor_zero, if_neg h]
    omega
set_option maxHeartbeats 1000000 in
theorem zigP_any (a : Int) (w : World) (h1 : -9223372036854775808 ≤ a) (h2 : a ≤ 9223372036854775807) : Calls Tryz.prog 119 #[.int .i64 a] w fun e w' => e = .returned (.int .u64 (zigI a)) ∧ w' = w := by
  go_enter Tryz.func119, Tryz.ntmps119
  go_wp2
  go_ret
  exact ⟨ret_int (zig_bits a h1 h2), rfl⟩
set_option maxHeartbeats 1000000 in
theorem isNum_any (k : Int) (w : World) : Calls Tryz.prog 86 #[.int .i64 k] w fun e w' => e = .returned (.bool (isNum k)) ∧ w' = w := by
  obtain ⟨R, hR⟩ : ∃ R, isNum k = R := ⟨_, rfl⟩
  have HR : Hid (decide (k ≠ 5 ∧ k ≠ 6 ∧ k ≠ 10) = R) := hR
  rw [hR]
  clear hR
  by_cases h5 : k = 5
  · subst h5
    have e : R = false := by rw [← HR.out]; decide
    subst e
    go_enter Tryz.func86, Tryz.ntmps86
    go_wp2_with fail
    go_ret
    exact ⟨rfl, rfl⟩
  by_cases h6 : k = 6
  · subst h6
    have e : R = false := by rw [← HR.out]; decide
    subst e
    go_enter Tryz.func86, Tryz.ntmps86
    go_wp2_with fail
    go_ret
    exact ⟨rfl, rfl⟩
  by_cases h10 : k = 10
  · subst h10
    have e : R = false := by rw [← HR.out]; decide
    subst e
    go_enter Tryz.func86, Tryz.ntmps86
    go_wp2_with fail
    go_ret
    exact ⟨rfl, rfl⟩
  have e : R = true := by rw [← HR.out]; simp [h5, h6, h10]
  subst e
  have k5 : (k != 5) = true := by simp [h5]
  have k6 : (k != 6) = true := by simp [h6]
  have k10 : (k != 10) = true := by simp [h10]
  go_enter Tryz.func86, Tryz.ntmps86
  go_wp2_with fail
  go_ret
  exact ⟨rfl, rfl⟩
set_option maxHeartbeats 4000000 in
theorem nbytes_any (k n : Int) (w : World) (h0 : 0 ≤ n) (h1 : n ≤ 18446744073709551615) : Calls Tryz.prog 105 #[.int .i64 k, .int .u64 n] w fun e w' => e = .returned (.slice (some ⟨w.heap.size, 0, none⟩) (nbytes k n).length (nbytes k n).length) ∧ w' = blk w 5 (nbytes k n) := by
  by_cases h7 : k = 7
  · subst h7
    have e : nbytes 7 n = lob (n % 4294967296) 4 := rfl
    have hw : IntKind.u32.wrap n = n % 4294967296 := by rw [IntKind.wrap_u32]
    have h := append32_any none 0 0 [] (n % 4294967296) w (isB_nil w) (by omega) (by omega) (by omega)
    rw [e, lob_length]
    clear e
    go_enter Tryz.func105, Tryz.ntmps105
    go_wp2_with fail
    refine h.mono ?_
    rintro e W ⟨rfl, rfl⟩
    go_wp2_with fail
    go_ret
    exact ⟨rfl, rfl⟩
  by_cases h8 : k = 8
  · subst h8
    have e : nbytes 8 n = lob n 8 := rfl
    have h := append64_any none 0 0 [] n w (isB_nil w) h0 h1 (by omega)
    rw [e, lob_length]
    clear e
    go_enter Tryz.func105, Tryz.ntmps105
    go_wp2_with fail
    refine h.mono ?_
    rintro e W ⟨rfl, rfl⟩
    go_wp2_with fail
    go_ret
    exact ⟨rfl, rfl⟩
  have e : nbytes k n = vint n.toNat := by unfold nbytes; rw [if_neg h7, if_neg h8]
  have h := append_int none 0 0 [] n w (isB_nil w) h0 h1 (by omega)
  rw [Nat.zero_add] at h
  rw [e]
  have k7 : (k == 7) = false := by simp [h7]
  have k8 : (k == 8) = false := by simp [h8]
  clear e
  go_enter Tryz.func105, Tryz.ntmps105
  go_wp2_with fail
  refine h.mono ?_
  rintro e W ⟨rfl, rfl⟩
  go_wp2_with fail
  go_ret
  exact ⟨rfl, rfl⟩
set_option maxHeartbeats 8000000 in
theorem numberP_any (k : Int) (y : Nd) (fs : Value) (w : World) (hy : Rg1 y) : Calls Tryz.prog 106 #[.int .i64 k, ival y fs] w fun e w' => e = .returned (.int .u64 (numP k y)) ∧ w' = w := by
  have t1 := fun W => taInt y fs W
  have t2 := fun W => taUint y fs W
  have t3 := fun W => taBool y fs W
  have t6 := fun W => taEnum y fs W
  obtain ⟨v, hv⟩ : ∃ v, ival y fs = v := ⟨_, rfl⟩
  rw [hv] at t1 t2 t3 t6 ⊢
  clear hv
  obtain ⟨kind, n, u, b, s, type, fields⟩ := y
  obtain ⟨⟨hn1, hn2⟩, _, _⟩ := hy
  dsimp only at t1 t2 t3 t6 hn1 hn2
  obtain ⟨R, hR⟩ : ∃ R, numP k ⟨kind, n, u, b, s, type, fields⟩ = R := ⟨_, rfl⟩
  have HR : Hid ((if kind = 1 then (if k = 3 then zigI n else IntKind.u64.wrap n) else if kind = 2 then u else if kind = 6 then IntKind.u64.wrap (IntKind.i32.wrap n) else if kind = 3 then (if b then 1 else 0) else 0) = R) := hR
  rw [hR]
  clear hR
  by_cases h1 : kind = 1
  · subst h1
    rw [if_pos rfl, decide_eq_true rfl] at t1
    clear t2 t3 t6
    by_cases h3 : k = 3
    · subst h3
      have e : R = zigI n := by rw [← HR.out]; simp
      subst e
      have h := zigP_any n w hn1 hn2
      go_enter Tryz.func106, Tryz.ntmps106
      go_wp2_with fail
      refine h.mono ?_
      rintro e W ⟨rfl, hW⟩
      have hW := hW.symm
      subst hW
      go_wp2_with fail
      go_ret
      exact ⟨rfl, rfl⟩
    · have e : R = IntKind.u64.wrap n := by rw [← HR.out]; simp [h3]
      subst e
      have k3 : (k == 3) = false := by simp [h3]
      go_enter Tryz.func106, Tryz.ntmps106
      go_wp2_with fail
      go_ret
      exact ⟨rfl, rfl⟩
  rw [if_neg h1, decide_eq_false h1] at t1
  by_cases h2 : kind = 2
  · subst h2
    rw [if_pos rfl, decide_eq_true rfl] at t2
    clear t3 t6
    have e : R = u := by rw [← HR.out]; simp
    subst e
    go_enter Tryz.func106, Tryz.ntmps106
    go_wp2_with fail
    go_ret
    exact ⟨rfl, rfl⟩
  rw [if_neg h2, decide_eq_false h2] at t2
  by_cases h6 : kind = 6
  · subst h6
    rw [if_pos rfl, decide_eq_true rfl] at t6
    clear t3
    have e : R = IntKind.u64.wrap (IntKind.i32.wrap n) := by rw [← HR.out]; simp
    subst e
    go_enter Tryz.func106, Tryz.ntmps106
    go_wp2_with fail
    go_ret
    exact ⟨ret_int (by simp only [wrap64, wrap32, IntKind.wrap_i32, IntKind.wrap_u64]; omega), rfl⟩
  rw [if_neg h6, decide_eq_false h6] at t6
  by_cases h3 : kind = 3
  · subst h3
    rw [if_pos rfl, decide_eq_true rfl] at t3
    cases b
    · have e : R = 0 := by rw [← HR.out]; simp
      subst e
      go_enter Tryz.func106, Tryz.ntmps106
      go_wp2_with fail
      go_ret
      exact ⟨rfl, rfl⟩
    · have e : R = 1 := by rw [← HR.out]; simp
      subst e
      go_enter Tryz.func106, Tryz.ntmps106
      go_wp2_with fail
      go_ret
      exact ⟨rfl, rfl⟩
  rw [if_neg h3, decide_eq_false h3] at t3
  have e : R = 0 := by rw [← HR.out]; simp [h1, h2, h3, h6]
  subst e
  go_enter Tryz.func106, Tryz.ntmps106
  go_wp2_with fail
  go_ret
  exact ⟨rfl, rfl⟩
end Go.Proofs.YtfhmombnipfimabGreatDoor
namespace Go.Proofs.YtfhmombnipfimabGreatDoor
set_option linter.unusedVariables false
open Go.ChangeShapes Go.WideShapes Go.ChangeAt Go.RowKit

set_option maxHeartbeats 4000000 in
theorem ownT_any (k : Int) (w : World) : Calls Tryz.prog 100 #[.int .i64 k] w fun e w' => e = .returned (.int .i64 (ownT k)) ∧ w' = w := by
  unfold ownT
  by_cases h1 : k = 1
  · subst h1; go_enter Tryz.func100, Tryz.ntmps100
    go_wp2_with fail
    go_ret
    exact ⟨rfl, rfl⟩
  by_cases h2 : k = 2
  · subst h2; go_enter Tryz.func100, Tryz.ntmps100
    go_wp2_with fail
    go_ret
    exact ⟨rfl, rfl⟩
  by_cases h3 : k = 3
  · subst h3; go_enter Tryz.func100, Tryz.ntmps100
    go_wp2_with fail
    go_ret
    exact ⟨rfl, rfl⟩
  by_cases h4 : k = 4
  · subst h4; go_enter Tryz.func100, Tryz.ntmps100
    go_wp2_with fail
    go_ret
    exact ⟨rfl, rfl⟩
  by_cases h9 : k = 9
  · subst h9; go_enter Tryz.func100, Tryz.ntmps100
    go_wp2_with fail
    go_ret
    exact ⟨rfl, rfl⟩
  by_cases h7 : k = 7
  · subst h7; go_enter Tryz.func100, Tryz.ntmps100
    go_wp2_with fail
    go_ret
    exact ⟨rfl, rfl⟩
  by_cases h8 : k = 8
  · subst h8; go_enter Tryz.func100, Tryz.ntmps100
    go_wp2_with fail
    go_ret
    exact ⟨rfl, rfl⟩
  go_enter Tryz.func100, Tryz.ntmps100
  go_wp2_with fail
  go_ret
  exact ⟨rfl, rfl⟩
end Go.Proofs.YtfhmombnipfimabGreatDoor
namespace Go.Proofs.YtfhmombnipfimabGreatDoor
set_option linter.unusedVariables false
open Go.ChangeShapes Go.WideShapes Go.ChangeAt Go.RowKit

/-- a schema of a size that is looked at -/
def SmM (m : MD) : Prop := m.name.length ≤ 3000 ∧ m.fields.length ≤ 2000 ∧ ∀ f ∈ m.fields, f.name.length ≤ 3000
def SmE (m : ED) : Prop := m.name.length ≤ 3000 ∧ m.values.length ≤ 2000 ∧ ∀ f ∈ m.values, f.name.length ≤ 3000
def SmT (t : TD) : Prop := t.name.length ≤ 3000 ∧ t.service.length ≤ 3000
def SmS (s : SC) : Prop := s.ms.length + s.es.length + s.ts.length ≤ 2000 ∧ (∀ m ∈ s.ms, SmM m) ∧ (∀ m ∈ s.es, SmE m) ∧ ∀ t ∈ s.ts, SmT t
theorem all_next {α : Type} {P : α → Prop} {l : List α} {k : Nat} {y : α} (h : ∀ (j : Nat) (x : α), j < k → l[j]? = some x → P x) (hy : l[k]? = some y) (hp : P y) : ∀ (j : Nat) (x : α), j < k + 1 → l[j]? = some x → P x := fun j x hj hx => by
  by_cases hjk : j = k
  · subst hjk; rw [hy] at hx; cases hx; exact hp
  · exact h j x (by omega) hx
end Go.Proofs.YtfhmombnipfimabGreatDoor
