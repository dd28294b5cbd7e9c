/-
  string(runes): the bytes of runes; and when one rune alone is a name. Nothing is proved of the program here.
-/
import Derived.Test.YthlcnofpgmpinaaDoorEnc
import Derived.Laws.Cover4
namespace Go.Proofs.YthlcnofpgmpinaaDoor
set_option linter.unusedVariables false

theorem encode_eq (r : Int) : Utf8.encode r = ⟨(Lib.encodeRune r).toArray⟩ := by
  unfold Utf8.encode Lib.encodeRune Lib.encodeRuneZ
  by_cases hv : Utf8.valid r = true
  · have hr : (0 ≤ r ∧ r < 55296) ∨ (57344 ≤ r ∧ r ≤ 1114111) := by
      unfold Utf8.valid at hv
      simp only [Bool.or_eq_true, Bool.and_eq_true, decide_eq_true_iff] at hv
      exact hv
    simp only [if_pos hv]
    by_cases h1 : r < 128
    · rw [if_pos (c := r.toNat < 128) (by omega), if_pos (c := 0 ≤ r ∧ r ≤ 127) (by omega)]; rfl
    · rw [if_neg (c := r.toNat < 128) (by omega), if_neg (c := 0 ≤ r ∧ r ≤ 127) (by omega)]
      by_cases h2 : r < 2048
      · rw [if_pos (c := r.toNat < 2048) (by omega), if_pos (c := 128 ≤ r ∧ r ≤ 2047) (by omega)]
        simp only [List.map_cons, List.map_nil]
        have e1 : (192 + r / 64).toNat = 192 + r.toNat / 64 := by omega
        have e2 : (128 + r % 64).toNat = 128 + r.toNat % 64 := by omega
        rw [e1, e2]
      · rw [if_neg (c := r.toNat < 2048) (by omega), if_neg (c := 128 ≤ r ∧ r ≤ 2047) (by omega)]
        by_cases h3 : r < 65536
        · rw [if_pos (c := r.toNat < 65536) (by omega), if_pos (c := (2048 ≤ r ∧ r < 55296) ∨ (57343 < r ∧ r ≤ 65535)) (by omega)]
          simp only [List.map_cons, List.map_nil]
          have e1 : (224 + r / 4096).toNat = 224 + r.toNat / 4096 := by omega
          have e2 : (128 + r / 64 % 64).toNat = 128 + r.toNat / 64 % 64 := by omega
          have e3 : (128 + r % 64).toNat = 128 + r.toNat % 64 := by omega
          rw [e1, e2, e3]
        · rw [if_neg (c := r.toNat < 65536) (by omega), if_neg (c := (2048 ≤ r ∧ r < 55296) ∨ (57343 < r ∧ r ≤ 65535)) (by omega), if_pos (c := 65536 ≤ r ∧ r ≤ 1114111) (by omega)]
          simp only [List.map_cons, List.map_nil]
          have e0 : (240 + r / 262144).toNat = 240 + r.toNat / 262144 := by omega
          have e1 : (128 + r / 4096 % 64).toNat = 128 + r.toNat / 4096 % 64 := by omega
          have e2 : (128 + r / 64 % 64).toNat = 128 + r.toNat / 64 % 64 := by omega
          have e3 : (128 + r % 64).toNat = 128 + r.toNat % 64 := by omega
          rw [e0, e1, e2, e3]
  · have hr : ¬ ((0 ≤ r ∧ r < 55296) ∨ (57344 ≤ r ∧ r ≤ 1114111)) := by
      intro h
      apply hv
      unfold Utf8.valid
      simp only [Bool.or_eq_true, Bool.and_eq_true, decide_eq_true_iff]
      exact h
    simp only [if_neg hv]
    rw [if_neg (c := 0 ≤ r ∧ r ≤ 127) (by omega), if_neg (c := 128 ≤ r ∧ r ≤ 2047) (by omega), if_neg (c := (2048 ≤ r ∧ r < 55296) ∨ (57343 < r ∧ r ≤ 65535)) (by omega), if_neg (c := 65536 ≤ r ∧ r ≤ 1114111) (by omega)]
    decide
theorem ba_append (a b : List UInt8) : (ByteArray.mk a.toArray) ++ (ByteArray.mk b.toArray) = ByteArray.mk (a ++ b).toArray := by
  rw [ByteArray.mk_append_mk]
  first | done | (congr 1; simp; done) | (congr 1; apply Array.ext'; simp)
theorem fold_enc : ∀ (ns : List Int) (a : List UInt8), ns.foldl (fun r n => r ++ Utf8.encode n) (ByteArray.mk a.toArray) = ⟨(a ++ encL ns).toArray⟩
  | [], a => by simp [encL]
  | n :: t, a => by
    rw [List.foldl_cons, encode_eq, ba_append, fold_enc t, encL_cons, List.append_assoc]
theorem runesBytes_eq (ns : List Int) : runesBytes ns = ⟨(encL ns).toArray⟩ := by
  have := fold_enc ns []
  rw [List.nil_append] at this
  exact this

end Go.Proofs.YthlcnofpgmpinaaDoor
