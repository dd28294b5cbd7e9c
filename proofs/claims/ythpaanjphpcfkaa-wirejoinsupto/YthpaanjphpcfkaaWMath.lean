/-
  Of the bytes of a field the field comes back, whatever stands behind them; cut off, they lack something. Nothing is proved of the program here.
-/
import Derived.Test.YthpaanjphpcfkaaByt
import Derived.Test.YthpaanjphpcfkaaTfA
namespace Go.Proofs.Ythpaanjphpcfkaa
set_option linter.unusedVariables false

theorem dec_front (m : Nat) (t : List Int) (h : m ≤ 18446744073709551615) : dec 0 0 (vint m ++ t) = ((m : Int), ((vint m).length : Int), 0) := by
  have := dec_vint m 0 0 t (by simp) (by omega) (by simp; omega)
  rw [show (0 : Int) = ((0 : Nat) : Int) from rfl, this]
  simp
theorem dec_short (m c : Nat) (h : m ≤ 18446744073709551615) (hc : c < (vint m).length) : dec 0 0 ((vint m).take c) = (0, 0, 5) :=
  dec_cut m 0 0 c (by have := vint_ten h; omega) hc
theorem low_front4 (n : Int) (t : List Int) (h0 : 0 ≤ n) (h1 : n ≤ 4294967295) : low ((lob n 4 ++ t).take 4) = n := by
  rw [List.take_append_of_le_length (by rw [lob_length]; omega), List.take_of_length_le (by rw [lob_length]; omega), low_lob]; omega
theorem low_front8 (n : Int) (t : List Int) (h0 : 0 ≤ n) (h1 : n ≤ 18446744073709551615) : low ((lob n 8 ++ t).take 8) = n := by
  rw [List.take_append_of_le_length (by rw [lob_length]; omega), List.take_of_length_le (by rw [lob_length]; omega), low_lob]; omega
/-- what stands behind a field's first varint -/
def frest (ty n : Int) (d : List Int) : List Int := if ty = 0 then vint n.toNat else if ty = 1 then lob n 8 else if ty = 5 then lob n 4 else vint d.length ++ d
theorem fbytes_eq (num ty n : Int) (d : List Int) : fbytes num ty n d = vint (8 * num + ty).toNat ++ frest ty n d := rfl
theorem fmd_spec {num ty n : Int} {len : Nat} (h : fmd num ty n len = true) : 1 ≤ num ∧ num ≤ 536870911 ∧ (((ty = 0 ∨ ty = 1) ∧ len = 0) ∨ (ty = 5 ∧ len = 0 ∧ n < 4294967296) ∨ (ty = 2 ∧ n = 0)) := by
  unfold fmd at h; simpa using h

theorem tf_front (num ty n : Int) (d t : List Int) (hf : fmd num ty n d.length = true) (h0 : 0 ≤ n) (h1 : n ≤ 18446744073709551615) (hd : d.length ≤ 18446744073709551615) :
    tf (fbytes num ty n d ++ t) = ⟨num, ty, n, d, ((fbytes num ty n d).length : Int), 0⟩ := by
  obtain ⟨hm0, hm1, hty⟩ := fmd_spec hf
  have hty5 : 0 ≤ ty ∧ ty ≤ 5 := by omega
  rw [fbytes_eq, List.append_assoc, List.length_append]
  unfold tf
  rw [dec_front _ _ (by omega)]
  simp only []
  rw [if_neg (by simp), Int.toNat_natCast, List.drop_left]
  have hN : (((8 * num + ty).toNat : Nat) : Int) = 8 * num + ty := by omega
  rw [hN]
  generalize (vint (8 * num + ty).toNat).length = L
  unfold tfBody
  rw [show (8 * num + ty) / 8 = num by omega, show (8 * num + ty) % 8 = ty by omega]
  rw [if_neg (by omega)]
  rcases hty with ⟨rfl | rfl, hl⟩ | ⟨rfl, hl, hn⟩ | ⟨rfl, rfl⟩
  · obtain rfl : d = [] := List.eq_nil_of_length_eq_zero hl
    rw [if_pos rfl, show frest 0 n [] = vint n.toNat from rfl, dec_front _ _ (by omega)]
    simp only []
    rw [if_neg (by simp), show ((n.toNat : Nat) : Int) = n by omega]
    simp
  · obtain rfl : d = [] := List.eq_nil_of_length_eq_zero hl
    rw [if_neg (by omega), if_neg (by omega), if_neg (by omega), show frest 1 n [] = lob n 8 from rfl]
    rw [if_neg (by rw [List.length_append, lob_length]; omega), low_front8 n t h0 h1, lob_length]
    simp
  · obtain rfl : d = [] := List.eq_nil_of_length_eq_zero hl
    rw [if_neg (by omega), if_neg (by omega), if_pos rfl, show frest 5 n [] = lob n 4 from rfl]
    rw [if_neg (by rw [List.length_append, lob_length]; omega), low_front4 n t h0 (by omega), lob_length]
    simp
  · rw [if_neg (by omega), if_pos rfl, show frest 2 0 d = vint d.length ++ d from rfl, List.append_assoc, dec_front _ _ (by omega)]
    simp only []
    rw [if_neg (by simp), if_neg (by simp only [List.length_append]; omega), Int.toNat_natCast, Int.toNat_natCast, List.drop_left, List.take_left]
    simp only [List.length_append]
    congr 1
    omega

theorem tf_short (num ty n : Int) (d : List Int) (c : Nat) (hf : fmd num ty n d.length = true) (h0 : 0 ≤ n) (h1 : n ≤ 18446744073709551615) (hd : d.length ≤ 18446744073709551615)
    (hc : c < (fbytes num ty n d).length) : tf ((fbytes num ty n d).take c) = tfErr 5 := by
  obtain ⟨hm0, hm1, hty⟩ := fmd_spec hf
  have hty5 : 0 ≤ ty ∧ ty ≤ 5 := by omega
  rw [fbytes_eq] at hc ⊢
  rw [List.length_append] at hc
  by_cases hcl : c < (vint (8 * num + ty).toNat).length
  · rw [List.take_append_of_le_length (by omega)]
    unfold tf
    rw [dec_short _ _ (by omega) hcl]
    simp
  · rw [List.take_append, List.take_of_length_le (by omega)]
    obtain ⟨q, hq⟩ : ∃ q, c - (vint (8 * num + ty).toNat).length = q := ⟨_, rfl⟩
    rw [hq]
    have hqr : q < (frest ty n d).length := by omega
    unfold tf
    rw [dec_front _ _ (by omega)]
    simp only []
    rw [if_neg (by simp), Int.toNat_natCast, List.drop_left]
    have hN : (((8 * num + ty).toNat : Nat) : Int) = 8 * num + ty := by omega
    rw [hN]
    generalize (vint (8 * num + ty).toNat).length = L
    unfold tfBody
    rw [show (8 * num + ty) / 8 = num by omega, show (8 * num + ty) % 8 = ty by omega]
    rw [if_neg (by omega)]
    rcases hty with ⟨rfl | rfl, hl⟩ | ⟨rfl, hl, hn⟩ | ⟨rfl, rfl⟩
    · rw [if_pos rfl, show frest 0 n d = vint n.toNat from rfl] at *
      rw [dec_short _ _ (by omega) hqr]
      simp
    · rw [show frest 1 n d = lob n 8 from rfl] at *
      rw [lob_length] at hqr
      rw [if_neg (by omega), if_neg (by omega), if_neg (by omega), if_pos (by rw [List.length_take, lob_length]; omega)]
    · rw [show frest 5 n d = lob n 4 from rfl] at *
      rw [lob_length] at hqr
      rw [if_neg (by omega), if_neg (by omega), if_pos rfl, if_pos (by rw [List.length_take, lob_length]; omega)]
    · rw [show frest 2 0 d = vint d.length ++ d from rfl] at *
      rw [List.length_append] at hqr
      rw [if_neg (by omega), if_pos rfl]
      by_cases hqm : q < (vint d.length).length
      · rw [List.take_append_of_le_length (by omega), dec_short _ _ (by omega) hqm]
        simp
      · rw [List.take_append, List.take_of_length_le (by omega), dec_front _ _ (by omega)]
        simp only []
        rw [if_neg (by simp), if_pos (by rw [List.length_append, List.length_take]; omega)]
end Go.Proofs.Ythpaanjphpcfkaa
