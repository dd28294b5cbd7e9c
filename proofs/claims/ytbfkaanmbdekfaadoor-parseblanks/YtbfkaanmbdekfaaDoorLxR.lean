/-
  A remark says nothing: how a text is read up to a line feed does not hang on what stands behind it. Nothing is proved of the program here.
-/
import Derived.Test.YtbfkaanmbdekfaaDoorLxF
namespace Go.Proofs.YtbfkaanmbdekfaaDoor
set_option linter.unusedVariables false

theorem get_app (s y : List UInt8) (k : Nat) (h : k < s.length + 1) : (ByteArray.mk (s ++ 10 :: y).toArray).get! (0 + k) = (ByteArray.mk (s ++ [10]).toArray).get! (0 + k) := by
  have e1 : (s ++ 10 :: y)[k]? = (s ++ [10])[k]? := by
    by_cases hk : k < s.length
    · rw [List.getElem?_append_left hk, List.getElem?_append_left hk]
    · have : k = s.length := by omega
      subst this
      rw [List.getElem?_append_right (by omega), List.getElem?_append_right (by omega)]; simp
  rw [Nat.zero_add]
  show (s ++ 10 :: y).toArray[k]! = (s ++ [10]).toArray[k]!
  rw [getElem!_def, getElem!_def]
  simp only [List.getElem?_toArray, e1]
theorem get_feed (s y : List UInt8) : (ByteArray.mk (s ++ 10 :: y).toArray).get! (0 + s.length) = 10 := by
  rw [Nat.zero_add]
  show (s ++ 10 :: y).toArray[s.length]! = 10
  rw [getElem!_def]
  simp
theorem size_app (s y : List UInt8) : (ByteArray.mk (s ++ 10 :: y).toArray).size = s.length + 1 + y.length := by
  show (s ++ 10 :: y).toArray.size = _
  simp; omega
/-- whether the k-th byte goes on a rune -/
def contA (A : ByteArray) (k : Nat) : Bool := decide (0 + k < A.size) && ((A.get! (0 + k)).toNat / 64 == 2)
theorem cont_end (s y : List UInt8) : contA ⟨(s ++ 10 :: y).toArray⟩ s.length = false := by
  unfold contA; rw [get_feed]; simp
theorem cont_app (s y : List UInt8) (k : Nat) (h : k < s.length + 1) : contA ⟨(s ++ 10 :: y).toArray⟩ k = contA ⟨(s ++ [10]).toArray⟩ k := by
  unfold contA
  rw [get_app s y k h, size_app, size_app s []]
  rw [decide_eq_true (by omega), decide_eq_true (by simp; omega)]

def dec4 (b0 b1 b2 b3 : Nat) (c1 c2 c3 : Bool) : Nat × Nat :=
  if b0 < 128 then (b0, 1)
  else if (b0 / 32 == 6 && c1) = true then (if b0 % 32 * 64 + b1 % 64 ≥ 128 then (b0 % 32 * 64 + b1 % 64, 2) else (65533, 1))
  else if (b0 / 16 == 14 && c1 && c2) = true then (if (decide (b0 % 16 * 4096 + b1 % 64 * 64 + b2 % 64 ≥ 2048) && Utf8.valid ((b0 % 16 * 4096 + b1 % 64 * 64 + b2 % 64 : Nat) : Int)) = true then (b0 % 16 * 4096 + b1 % 64 * 64 + b2 % 64, 3) else (65533, 1))
  else if (b0 / 8 == 30 && c1 && c2 && c3) = true then (if (decide (b0 % 8 * 262144 + b1 % 64 * 4096 + b2 % 64 * 64 + b3 % 64 ≥ 65536) && Utf8.valid ((b0 % 8 * 262144 + b1 % 64 * 4096 + b2 % 64 * 64 + b3 % 64 : Nat) : Int)) = true then (b0 % 8 * 262144 + b1 % 64 * 4096 + b2 % 64 * 64 + b3 % 64, 4) else (65533, 1))
  else (65533, 1)
theorem decode_dec4 (A : ByteArray) : Utf8.decode A 0 = dec4 (A.get! (0 + 0)).toNat (A.get! (0 + 1)).toNat (A.get! (0 + 2)).toNat (A.get! (0 + 3)).toNat (contA A 1) (contA A 2) (contA A 3) := rfl
theorem dec4_c1 (b0 b1 b2 b3 : Nat) (c2 c3 : Bool) : dec4 b0 b1 b2 b3 false c2 c3 = dec4 b0 0 0 0 false false false := by simp [dec4]
theorem dec4_c2 (b0 b1 b2 b3 : Nat) (c1 c3 : Bool) : dec4 b0 b1 b2 b3 c1 false c3 = dec4 b0 b1 0 0 c1 false false := by simp [dec4]
theorem dec4_c3 (b0 b1 b2 b3 : Nat) (c1 c2 : Bool) : dec4 b0 b1 b2 b3 c1 c2 false = dec4 b0 b1 b2 0 c1 c2 false := by simp [dec4]
theorem dec4_w1 (b0 b1 b2 b3 : Nat) (c2 c3 : Bool) : (dec4 b0 b1 b2 b3 false c2 c3).2 ≤ 1 := by
  unfold dec4; split <;> simp
theorem dec4_w2 (b0 b1 b2 b3 : Nat) (c1 c3 : Bool) : (dec4 b0 b1 b2 b3 c1 false c3).2 ≤ 2 := by
  unfold dec4; repeat' split
  all_goals simp_all
theorem dec4_w3 (b0 b1 b2 b3 : Nat) (c1 c2 : Bool) : (dec4 b0 b1 b2 b3 c1 c2 false).2 ≤ 3 := by
  unfold dec4; repeat' split
  all_goals simp_all
theorem dec4_w4 (b0 b1 b2 b3 : Nat) (c1 c2 c3 : Bool) : (dec4 b0 b1 b2 b3 c1 c2 c3).2 ≤ 4 := by
  unfold dec4; repeat' split
  all_goals simp
/-- the rune at the head, ahead of a line feed -/
theorem decode_local (s y : List UInt8) (h : s ≠ []) : Lib.decodeL (s ++ 10 :: y) = Lib.decodeL (s ++ [10]) ∧ (Lib.decodeL (s ++ 10 :: y)).2 ≤ s.length := by
  have hp := List.length_pos_iff.2 h
  unfold Lib.decodeL
  rw [decode_dec4, decode_dec4]
  have g := get_app s y
  have c := cont_app s y
  have ce := cont_end s y
  have ce0 := cont_end s []
  have hs : s.length = 1 ∨ s.length = 2 ∨ s.length = 3 ∨ 4 ≤ s.length := by omega
  rcases hs with hs | hs | hs | hs
  · rw [hs] at ce ce0
    rw [ce, ce0, g 0 (by omega), hs]
    exact ⟨(dec4_c1 _ _ _ _ _ _).trans (dec4_c1 _ _ _ _ _ _).symm, dec4_w1 _ _ _ _ _ _⟩
  · rw [hs] at ce ce0
    rw [ce, ce0, g 0 (by omega), g 1 (by omega), c 1 (by omega), hs]
    exact ⟨(dec4_c2 _ _ _ _ _ _).trans (dec4_c2 _ _ _ _ _ _).symm, dec4_w2 _ _ _ _ _ _⟩
  · rw [hs] at ce ce0
    rw [ce, ce0, g 0 (by omega), g 1 (by omega), g 2 (by omega), c 1 (by omega), c 2 (by omega), hs]
    exact ⟨(dec4_c3 _ _ _ _ _ _).trans (dec4_c3 _ _ _ _ _ _).symm, dec4_w3 _ _ _ _ _ _⟩
  · rw [g 0 (by omega), g 1 (by omega), g 2 (by omega), g 3 (by omega), c 1 (by omega), c 2 (by omega), c 3 (by omega)]
    exact ⟨rfl, Nat.le_trans (dec4_w4 _ _ _ _ _ _ _) hs⟩
theorem nx_local (s y : List UInt8) (h : s ≠ []) : nx (s ++ 10 :: y) = nx (s ++ [10]) ∧ (nx (s ++ 10 :: y)).2 ≤ s.length := by
  obtain ⟨h1, h2⟩ := decode_local s y h
  have e : nx (s ++ 10 :: y) = nx (s ++ [10]) := by
    unfold nx; rw [if_neg (c := s ++ 10 :: y = []) (by simp), if_neg (c := s ++ [10] = []) (by simp), h1]
  refine ⟨e, ?_⟩
  unfold nx
  rw [if_neg (c := s ++ 10 :: y = []) (by simp)]
  split <;> exact h2
theorem drop_local (s y : List UInt8) (n : Nat) (h : n ≤ s.length) : (s ++ 10 :: y).drop n = s.drop n ++ 10 :: y := by
  rw [List.drop_append_of_le_length h]
theorem nx_feed (y : List UInt8) : nx (10 :: y) = (10, 1) := nx_ascii 10 y (by decide)
theorem runL_local : ∀ (f : Nat) (s y : List UInt8), runL f (s ++ 10 :: y) = runL f (s ++ [10]) ∧ (runL f (s ++ 10 :: y)).1 ≤ s.length
  | 0, s, y => by simp [runL]
  | f + 1, s, y => by
    by_cases h : s = []
    · subst h
      have h1 : ∀ z : List UInt8, runL (f + 1) (10 :: z) = (0, 0) := fun z => by
        rw [runL, if_neg]
        rintro ⟨_, hh⟩
        rw [nx_feed] at hh
        exact absurd hh (by decide)
      simp only [List.nil_append]
      rw [h1, h1]; simp
    · obtain ⟨e1, e2⟩ := nx_local s y h
      have hd1 := drop_local s y _ e2
      have hd0 := drop_local s [] (nx (s ++ 10 :: y)).2 e2
      rw [runL, runL, ← e1]
      by_cases hn : nameRune (nx (s ++ 10 :: y)).1 = true
      · rw [if_pos ⟨by simp, hn⟩, if_pos ⟨by simp, hn⟩, hd1, hd0]
        obtain ⟨i1, i2⟩ := runL_local f (s.drop (nx (s ++ 10 :: y)).2) y
        rw [← i1]
        refine ⟨rfl, ?_⟩
        rw [List.length_drop] at i2
        simp only
        omega
      · rw [if_neg (fun h => hn h.2), if_neg (fun h => hn h.2)]; simp
theorem skipL_local : ∀ (f : Nat) (s y : List UInt8), skipL f (s ++ 10 :: y) = skipL f (s ++ [10]) ∧ (skipL f (s ++ 10 :: y)).1 ≤ s.length
  | 0, s, y => by simp [skipL]
  | f + 1, s, y => by
    by_cases h : s = []
    · subst h
      simp only [List.nil_append]
      rw [skipL_stop _ _ (.inr rfl), skipL_stop _ _ (.inr rfl)]; simp
    · obtain ⟨e1, e2⟩ := nx_local s y h
      have hd1 := drop_local s y _ e2
      have hd0 := drop_local s [] (nx (s ++ 10 :: y)).2 e2
      have hh : ∀ z : List UInt8, (s ++ 10 :: z).head? = s.head? := fun z => by
        cases s with
        | nil => exact absurd rfl h
        | cons a t => rfl
      rw [skipL, skipL, ← e1, hh, hh]
      by_cases hn : s.head? = some 10
      · rw [if_neg (fun h => h.2 hn), if_neg (fun h => h.2 hn)]; simp
      · rw [if_pos ⟨by simp, hn⟩, if_pos ⟨by simp, hn⟩, hd1, hd0]
        obtain ⟨i1, i2⟩ := skipL_local f (s.drop (nx (s ++ 10 :: y)).2) y
        rw [← i1]
        refine ⟨rfl, ?_⟩
        rw [List.length_drop] at i2
        simp only
        omega
end Go.Proofs.YtbfkaanmbdekfaaDoor
