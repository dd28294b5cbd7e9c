/-
  The plain arithmetic of varints with more bytes than they need; and an owned slice of bytes of which one is changed.
-/
import Derived.Test.YtndknaiicmkeiaaVarR
namespace Go.Proofs.Ytndknaiicmkeiaa
set_option linter.unusedVariables false
open Go.ChangeShapes Go.WideShapes Go.ChangeAt Go.RowKit

theorem or_zero (Y : Int) (h0 : 0 ≤ Y) (h1 : Y ≤ 18446744073709551615) (k : Nat) : bits .or .u64 Y (IntKind.u64.wrap (0 % 128 * 2 ^ (7 * k))) = Y := by
  obtain ⟨y, rfl⟩ := Int.eq_ofNat_of_zero_le h0
  have e : IntKind.u64.wrap (0 % 128 * 2 ^ (7 * k)) = ((0 : Nat) : Int) := by
    rw [Int.zero_emod, Int.zero_mul]; decide
  rw [e, bits_or_u64_nat y 0 (by omega) (by decide), Nat.or_zero]
theorem dec_long (V : Int) (hV0 : 0 ≤ V) (hV1 : V ≤ 18446744073709551615) : ∀ (pre : List Int) (X : Int) (k : Nat) (z : Int), 0 ≤ z → k + (pre.length + 1) ≤ 9 →
    dec X k (pre ++ [z]) = (V, (k : Int) + pre.length + 1, 0) → z < 128 ∧ dec X k (pre ++ [z + 128, 0]) = (V, (k : Int) + pre.length + 1 + 1, 0)
  | [], X, k, z, h0, hk, h => by
    simp only [List.length_nil] at hk
    simp only [List.nil_append] at h ⊢
    by_cases hz : z < 128
    · refine ⟨hz, ?_⟩
      rw [dec_end _ _ _ _ (by omega) hz] at h
      simp only [Prod.mk.injEq] at h
      rw [dec_on _ _ _ _ (by omega) (by omega), show (z + 128) % 128 = z % 128 by omega, h.1, dec_end _ _ _ _ (by omega) (by omega), or_zero V hV0 hV1]
      simp
    · rw [dec_on _ _ _ _ (by omega) (by omega), dec_nil] at h
      simp at h
  | p :: pre, X, k, z, h0, hk, h => by
    simp only [List.length_cons] at hk
    simp only [List.cons_append, List.length_cons] at h ⊢
    by_cases hp : p < 128
    · rw [dec_end _ _ _ _ (by omega) hp] at h
      simp only [Prod.mk.injEq] at h
      omega
    · rw [dec_on _ _ _ _ (by omega) (by omega)] at h ⊢
      have := dec_long V hV0 hV1 pre _ (k + 1) z h0 (by omega) (by rw [h]; simp; omega)
      refine ⟨this.1, ?_⟩
      rw [this.2]; simp; omega

/-- one more byte than before: the last one marked, a zero behind it -/
def more (xs : List Int) : List Int := xs.set (xs.length - 1) (xs.getD (xs.length - 1) 0 % 128 + 128) ++ [0]
theorem split_last (xs : List Int) (h : 1 ≤ xs.length) : ∃ pre z, xs = pre ++ [z] := by
  have hne : xs ≠ [] := by intro e; subst e; simp at h
  exact ⟨xs.dropLast, xs.getLast hne, (List.dropLast_concat_getLast hne).symm⟩
theorem more_dec (V : Int) (hV0 : 0 ≤ V) (hV1 : V ≤ 18446744073709551615) (xs : List Int) (h1 : 1 ≤ xs.length) (h9 : xs.length < 9) (hb : ∀ z ∈ xs, 0 ≤ z ∧ z ≤ 255)
    (h : dec 0 0 xs = (V, (xs.length : Int), 0)) : dec 0 0 (more xs) = (V, ((more xs).length : Int), 0) ∧ (more xs).length = xs.length + 1 ∧ ∀ z ∈ more xs, 0 ≤ z ∧ z ≤ 255 := by
  obtain ⟨pre, z, rfl⟩ := split_last xs h1
  have hz := hb z (by simp)
  have hl : (pre ++ [z]).length - 1 = pre.length := by simp
  have hm := dec_long V hV0 hV1 pre 0 0 z hz.1 (by simp at h9; omega) (by rw [h]; simp)
  have e : more (pre ++ [z]) = pre ++ [z + 128, 0] := by
    unfold more
    rw [hl]
    have : (pre ++ [z]).getD pre.length 0 = z := by simp
    rw [this, List.set_append_right _ _ (Nat.le_refl _)]
    have : z % 128 + 128 = z + 128 := by omega
    simp [this]
  rw [e]
  refine ⟨?_, by simp, ?_⟩
  · rw [hm.2]; simp; omega
  · intro y hy
    simp only [List.mem_append, List.mem_cons, List.not_mem_nil, or_false] at hy
    rcases hy with hy | rfl | rfl
    · exact hb y (by simp [hy])
    · omega
    · omega

theorem own_open {w : World} {base : Nat} {v : Value} {xs : List Int} (h : OwnB w base v xs) {j : Nat} {z : Int} (hj : xs[j]? = some z) :
    ∃ g cap, v = .slice (some ⟨g, 0, none⟩) xs.length cap ∧ base ≤ g ∧ g < w.heap.size ∧ xs.length ≤ cap ∧ w.cell? ⟨g, j, none⟩ = some (.int .u8 z) ∧ w.frozen? ⟨g, j, none⟩ = false ∧
      ∀ y, OwnB (w.setCell ⟨g, j, none⟩ (.int .u8 y)) base v (xs.set j y) := by
  obtain ⟨h1, ⟨rfl, h0⟩ | ⟨g, cap, cur, rfl, hg, hh, h3, h4, h5, h6⟩⟩ := h
  · have hx : xs = [] := List.eq_nil_of_length_eq_zero h0
    subst hx; simp at hj
  · have hjl : j < xs.length := by
      by_cases hjl : j < xs.length
      · exact hjl
      · rw [List.getElem?_eq_none (by omega)] at hj; simp at hj
    have e : cur.toList[j]? = some (.int .u8 z) := by
      have : (cur.toList.take (xs.length * 1))[j]? = (xs.map (Value.int .u8))[j]? := by rw [h6]
      rw [List.getElem?_take, if_pos (by omega), List.getElem?_map, hj] at this
      simpa using this
    have hgl : g < w.heap.size := (Array.getElem?_eq_some_iff.1 hh).1
    refine ⟨g, cap, rfl, hg, hgl, h3, ?_, ?_, ?_⟩
    · simp only [World.cell?, hh]; simpa using e
    · simp [World.frozen?, hh]
    · intro y
      refine ⟨by simp, .inr ⟨g, cap, cur.setIfInBounds j (.int .u8 y), by simp, hg, ?_, by simpa using h3, h4, by simpa using h5, ?_⟩⟩
      · rw [setCell_eq_setRow w g j cur 5 (0, 0) _ hh, setRow_heap w g cur _ 5 _ hh]
      · rw [Array.toList_setIfInBounds, List.length_set, List.take_set, h6, List.map_set]
end Go.Proofs.Ytndknaiicmkeiaa
