/-
  string(runes): the bytes of runes; and when one rune alone is a name. Nothing is proved of the program here.
-/
import Derived.Test.YtpodlakkfbjhbaaDoorEnc
import Derived.Laws.Cover4
namespace Go.Proofs.YtpodlakkfbjhbaaDoor
set_option linter.unusedVariables false

theorem encode_eq (r : Int) : Utf8.encode r = ⟨(Lib.encodeRune r).toArray⟩ := by
  unfold Utf8.encode Lib.encodeRune Lib.encodeRuneZ
  by_cases hv : Utf8.valid r = true
  · have hr : (0 ≤ r ∧ r < 55296) ∨ (57344 ≤ r ∧ r ≤ 1114111) := by
      unfold Utf8.valid at hv
      simp only [Bool.or_eq_true, Bool.and_eq_true, decide_eq_true_iff] at hv
      exact hv
    simp only [if_pos hv]
    by_cases h1 : r < 128
    · rw [if_pos (c := r.toNat < 128) (by omega), if_pos (c := 0 ≤ r ∧ r ≤ 127) (by omega)]; rfl
    · rw [if_neg (c := r.toNat < 128) (by omega), if_neg (c := 0 ≤ r ∧ r ≤ 127) (by omega)]
      by_cases h2 : r < 2048
      · rw [if_pos (c := r.toNat < 2048) (by omega), if_pos (c := 128 ≤ r ∧ r ≤ 2047) (by omega)]
        simp only [List.map_cons, List.map_nil]
        have e1 : (192 + r / 64).toNat = 192 + r.toNat / 64 := by omega
        have e2 : (128 + r % 64).toNat = 128 + r.toNat % 64 := by omega
        rw [e1, e2]
      · rw [if_neg (c := r.toNat < 2048) (by omega), if_neg (c := 128 ≤ r ∧ r ≤ 2047) (by omega)]
        by_cases h3 : r < 65536
        · rw [if_pos (c := r.toNat < 65536) (by omega), if_pos (c := (2048 ≤ r ∧ r < 55296) ∨ (57343 < r ∧ r ≤ 65535)) (by omega)]
          simp only [List.map_cons, List.map_nil]
          have e1 : (224 + r / 4096).toNat = 224 + r.toNat / 4096 := by omega
          have e2 : (128 + r / 64 % 64).toNat = 128 + r.toNat / 64 % 64 := by omega
          have e3 : (128 + r % 64).toNat = 128 + r.toNat % 64 := by omega
          rw [e1, e2, e3]
        · rw [if_neg (c := r.toNat < 65536) (by omega), if_neg (c := (2048 ≤ r ∧ r < 55296) ∨ (57343 < r ∧ r ≤ 65535)) (by omega), if_pos (c := 65536 ≤ r ∧ r ≤ 1114111) (by omega)]
          simp only [List.map_cons, List.map_nil]
          have e0 : (240 + r / 262144).toNat = 240 + r.toNat / 262144 := by omega
          have e1 : (128 + r / 4096 % 64).toNat = 128 + r.toNat / 4096 % 64 := by omega
          have e2 : (128 + r / 64 % 64).toNat = 128 + r.toNat / 64 % 64 := by omega
          have e3 : (128 + r % 64).toNat = 128 + r.toNat % 64 := by omega
          rw [e0, e1, e2, e3]
  · have hr : ¬ ((0 ≤ r ∧ r < 55296) ∨ (57344 ≤ r ∧ r ≤ 1114111)) := by
      intro h
      apply hv
      unfold Utf8.valid
      simp only [Bool.or_eq_true, Bool.and_eq_true, decide_eq_true_iff]
      exact h
    simp only [if_neg hv]
    rw [if_neg (c := 0 ≤ r ∧ r ≤ 127) (by omega), if_neg (c := 128 ≤ r ∧ r ≤ 2047) (by omega), if_neg (c := (2048 ≤ r ∧ r < 55296) ∨ (57343 < r ∧ r ≤ 65535)) (by omega), if_neg (c := 65536 ≤ r ∧ r ≤ 1114111) (by omega)]
    decide
theorem ba_append (a b : List UInt8) : (ByteArray.mk a.toArray) ++ (ByteArray.mk b.toArray) = ByteArray.mk (a ++ b).toArray := by
  rw [ByteArray.mk_append_mk]
  first | done | (congr 1; simp; done) | (congr 1; apply Array.ext'; simp)
theorem fold_enc : ∀ (ns : List Int) (a : List UInt8), ns.foldl (fun r n => r ++ Utf8.encode n) (ByteArray.mk a.toArray) = ⟨(a ++ encL ns).toArray⟩
  | [], a => by simp [encL]
  | n :: t, a => by
    rw [List.foldl_cons, encode_eq, ba_append, fold_enc t, encL_cons, List.append_assoc]
theorem runesBytes_eq (ns : List Int) : runesBytes ns = ⟨(encL ns).toArray⟩ := by
  have := fold_enc ns []
  rw [List.nil_append] at this
  exact this

/-- a text that begins with a byte from 224 on begins with no letter -/
theorem decode_far (s : ByteArray) (hb : 224 ≤ (s.get! (0 + 0)).toNat) : 2048 ≤ (Utf8.decode s 0).1 := by
  have h0 : (s.get! (0 + 0)).toNat < 256 := (s.get! (0 + 0)).toNat_lt
  unfold Utf8.decode
  simp only
  rw [if_neg (by omega)]
  have a2 : ((s.get! (0 + 0)).toNat / 32 == 6) = false := by
    have : ¬ (s.get! (0 + 0)).toNat / 32 = 6 := by omega
    simpa using this
  simp only [a2, Bool.false_and]
  repeat' split
  all_goals simp_all [Utf8.runeError]
  all_goals omega
theorem one_name (r : Int) : nameOf (runes ⟨(encL [r]).toArray⟩) = isLetter r := by
  by_cases ht : two r
  · rw [runes_enc [r] (by simpa using ht)]
    unfold nameOf nameRune
    simp
    intro h
    exact .inl (.inl h)
  · have hl : isLetter r = false := by
      unfold two at ht; unfold isLetter
      rw [decide_eq_false_iff_not]; omega
    rw [hl]
    have he : encL [r] = Lib.encodeRune r := by simp [encL]
    rw [he]
    have h1 : 1 ≤ (Lib.encodeRune r).length := (enc_len r).1
    have hb : ∃ x t, Lib.encodeRune r = x :: t ∧ 224 ≤ x.toNat := by
      unfold two at ht
      unfold Lib.encodeRune
      by_cases c3 : (2048 ≤ r ∧ r < 55296) ∨ (57343 < r ∧ r ≤ 65535)
      · rw [Lib.encodeRuneZ_three c3]; exact ⟨_, _, rfl, by simp; omega⟩
      · by_cases c4 : 65536 ≤ r ∧ r ≤ 1114111
        · rw [Lib.encodeRuneZ_four c4.1 c4.2]; exact ⟨_, _, rfl, by simp; omega⟩
        · rw [Lib.encodeRuneZ_bad (by omega)]; exact ⟨_, _, rfl, by decide⟩
    obtain ⟨x, t, hx, hx2⟩ := hb
    rw [hx]
    have hsz : (ByteArray.mk (x :: t).toArray).size = t.length + 1 := by show (x :: t).toArray.size = _; simp
    have hd := decode_far ⟨(x :: t).toArray⟩ (by simpa [ByteArray.get!] using hx2)
    unfold runes
    rw [hsz, rns_step _ _ _ (by rw [hsz]; omega)]
    unfold nameOf
    have hl2 : isLetter ((Utf8.decode ⟨(x :: t).toArray⟩ 0).1 : Int) = false := by
      unfold isLetter; rw [decide_eq_false_iff_not]; omega
    simp only [List.headD_cons, hl2, Bool.and_false, Bool.false_and]
end Go.Proofs.YtpodlakkfbjhbaaDoor
