/-
  Plain words and facts that the walks of this seat share: a row of bytes in memory, what is taken of bytes as a varint, and bounds of the integer kinds. Nothing is proved of the program here.
-/
import Derived.WalkKit
import Derived.ProofKit
import Derived.Lib.VarintBits
import Derived.Below
namespace Go.Proofs.YtckbplhplpnhaaaDoor
set_option linter.unusedVariables false
open Go.ChangeShapes Go.WideShapes Go.ChangeAt Go.RowKit

theorem ret_int {k : IntKind} {a b : Int} (h : a = b) : Ending.returned (.int k a) = .returned (.int k b) := by rw [h]
theorem bd_i64 {a : Int} (w : (Lit.int .i64 a).wf = true) : -9223372036854775808 ≤ a ∧ a ≤ 9223372036854775807 := by
  simpa [Lit.wf, IntKind.min, IntKind.max, IntKind.bits, IntKind.signed] using w
theorem bd_u64 {a : Int} (w : (Lit.int .u64 a).wf = true) : 0 ≤ a ∧ a ≤ 18446744073709551615 := by
  simpa [Lit.wf, IntKind.min, IntKind.max, IntKind.bits, IntKind.signed] using w
theorem bd_u32 {a : Int} (w : (Lit.int .u32 a).wf = true) : 0 ≤ a ∧ a ≤ 4294967295 := by
  simpa [Lit.wf, IntKind.min, IntKind.max, IntKind.bits, IntKind.signed] using w
theorem bd_u8 {a : Int} (w : (Lit.int .u8 a).wf = true) : 0 ≤ a ∧ a ≤ 255 := by
  simpa [Lit.wf, IntKind.min, IntKind.max, IntKind.bits, IntKind.signed] using w

/-- the bytes zs lie in memory from the address on -/
def Held (w : World) (b off : Nat) (zs : List Int) : Prop :=
  (∀ j z, zs[j]? = some z → w.cell? ⟨b, off + j, none⟩ = some (.int .u8 z)) ∧ ∀ z ∈ zs, 0 ≤ z ∧ z ≤ 255

/-- a slice of bytes, whose elements are zs -/
def IsB (w : World) (a : Option Addr) (len : Nat) (zs : List Int) : Prop :=
  zs.length = len ∧ len ≤ 281474976710656 ∧ (zs = [] ∨ ∃ b off, a = some ⟨b, off, none⟩ ∧ Held w b off zs)

/-- a slice of bytes that came in: its elements are zs; what the form itself says of its size -/
def ArgB (w : World) (a : Option Addr) (len cap : Nat) (zs : List Int) : Prop :=
  zs.length = len ∧ len ≤ cap ∧ cap ≤ 140737488351232 ∧ (a = none → cap = 0) ∧ (zs = [] ∨ ∃ b off, a = some ⟨b, off, none⟩ ∧ Held w b off zs)
theorem ArgB.isB {w : World} {a : Option Addr} {len cap : Nat} {zs : List Int} (h : ArgB w a len cap zs) : IsB w a len zs :=
  ⟨h.1, by have := h.2.1; have := h.2.2.1; omega, h.2.2.2.2⟩
theorem ArgB.none_of {w : World} {a : Option Addr} {len cap : Nat} {zs : List Int} (h : ArgB w a len cap zs) : a = none → len = 0 ∧ cap = 0 :=
  fun e => by have := h.2.2.2.1 e; have := h.2.1; omega
theorem argB_nil (w : World) : ArgB w none 0 0 [] := ⟨rfl, Nat.le_refl _, by decide, fun _ => rfl, .inl rfl⟩
theorem argB_of {w : World} {x : Addr} {len cap : Nat} {zs : List Int} (hl : len ≤ cap) (hm : cap ≤ 140737488351232) (hz : zs.length = cap)
    (hcell : ∀ i, i < zs.length → w.cell? (x.add i) = some (.int .u8 (zs.getD i 0))) (hwz : ∀ n ∈ zs, (Lit.int .u8 n).wf = true) :
    ArgB w (some x) len cap (zs.take len) := by
  refine ⟨by simp; omega, hl, hm, fun h => by simp at h, ?_⟩
  by_cases h0 : len = 0
  · subst h0; exact .inl (by simp)
  · obtain ⟨b, off, spot⟩ := x
    have hspot : spot = none := by simpa [Addr.add] using World.cell?_spot (hcell 0 (by omega))
    subst hspot
    refine .inr ⟨b, off, rfl, ?_, ?_⟩
    · intro j z hj
      have hj2 : j < zs.length ∧ zs.getD j 0 = z := by
        rw [List.getElem?_take] at hj
        split at hj
        · have hlt : j < zs.length := by
            by_cases h : j < zs.length
            · exact h
            · rw [List.getElem?_eq_none (by omega)] at hj; simp at hj
          refine ⟨hlt, ?_⟩
          rw [List.getD_eq_getElem?_getD, hj]; rfl
        · simp at hj
      have := hcell j hj2.1
      rw [hj2.2] at this
      by_cases hj0 : j = 0
      · subst hj0; simpa [Addr.add] using this
      · simpa [Addr.add, hj0] using this
    · intro z hz'
      exact bd_u8 (hwz z (List.mem_of_mem_take hz'))

theorem held_at {w : World} {b off : Nat} {zs : List Int} (h : Held w b off zs) {k : Nat} (hk : k < zs.length) :
    ∃ z, w.cell? ⟨b, off + k, none⟩ = some (.int .u8 z) ∧ 0 ≤ z ∧ z ≤ 255 ∧ zs.drop k = z :: zs.drop (k + 1) ∧ zs[k]? = some z := by
  refine ⟨zs[k], h.1 k _ (List.getElem?_eq_getElem hk), (h.2 _ (List.getElem_mem hk)).1, (h.2 _ (List.getElem_mem hk)).2, List.drop_eq_getElem_cons hk, List.getElem?_eq_getElem hk⟩

theorem isB_at {w : World} {a : Option Addr} {len : Nat} {zs : List Int} (h : IsB w a len zs) {k : Nat} (hk : k < len) :
    ∃ b off z, a = some ⟨b, off, none⟩ ∧ w.cell? ⟨b, off + k, none⟩ = some (.int .u8 z) ∧ 0 ≤ z ∧ z ≤ 255 ∧ zs.drop k = z :: zs.drop (k + 1) ∧ zs[k]? = some z := by
  obtain ⟨hl, _, rfl | ⟨b, off, rfl, hh⟩⟩ := h
  · simp at hl; omega
  · obtain ⟨z, h1, h2, h3, h4, h5⟩ := held_at hh (show k < zs.length by omega)
    exact ⟨b, off, z, rfl, h1, h2, h3, h4, h5⟩

/-- what is taken of bytes as a varint, from the k-th byte on: the number, how many bytes, the error's number -/
def dec (X : Int) (k : Nat) : List Int → Int × Int × Int
  | [] => (0, 0, 5)
  | z :: zs => if k = 9 ∧ 1 < z then (0, 0, 2) else
      if z < 128 then (bits .or .u64 X (IntKind.u64.wrap (z % 128 * 2 ^ (7 * k))), (k : Int) + 1, 0)
      else dec (bits .or .u64 X (IntKind.u64.wrap (z % 128 * 2 ^ (7 * k)))) (k + 1) zs

theorem dec_nil (X : Int) (k : Nat) : dec X k [] = (0, 0, 5) := rfl
theorem dec_form (X : Int) (k : Nat) (z : Int) (zs : List Int) (h : k = 9) (h1 : 1 < z) : dec X k (z :: zs) = (0, 0, 2) := by
  unfold dec; rw [if_pos ⟨h, h1⟩]
theorem dec_end (X : Int) (k : Nat) (z : Int) (zs : List Int) (h : ¬(k = 9 ∧ 1 < z)) (h1 : z < 128) :
    dec X k (z :: zs) = (bits .or .u64 X (IntKind.u64.wrap (z % 128 * 2 ^ (7 * k))), (k : Int) + 1, 0) := by
  unfold dec; rw [if_neg h, if_pos h1]
theorem dec_on (X : Int) (k : Nat) (z : Int) (zs : List Int) (h : ¬(k = 9 ∧ 1 < z)) (h1 : 128 ≤ z) :
    dec X k (z :: zs) = dec (bits .or .u64 X (IntKind.u64.wrap (z % 128 * 2 ^ (7 * k)))) (k + 1) zs := by
  rw [dec, if_neg h, if_neg (by omega)]
theorem dec_nine (X : Int) (z : Int) (zs : List Int) (h0 : 0 ≤ z) (h1 : ¬ 1 < z) :
    dec X 9 (z :: zs) = (bits .or .u64 X (z % 128 * 9223372036854775808), 10, 0) := by
  rw [dec_end _ _ _ _ (by omega) (by omega)]
  have e : IntKind.u64.wrap (z % 128 * 2 ^ (7 * 9)) = z % 128 * 9223372036854775808 := by
    rw [IntKind.wrap_u64]; omega
  rw [e]; rfl
theorem ret_dec {p : Int × Int × Int} {n k e : Int} (h : p = (n, k, e)) :
    Ending.returned (.tuple #[.int .u64 n, .int .i64 k, .int .i64 e]) = .returned (.tuple #[.int .u64 p.1, .int .i64 p.2.1, .int .i64 p.2.2]) := by subst h; rfl
end Go.Proofs.YtckbplhplpnhaaaDoor
