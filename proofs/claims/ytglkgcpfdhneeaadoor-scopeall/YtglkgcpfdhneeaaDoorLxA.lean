/-
  What is written of the words, a blank behind each, has the same words. Nothing is proved of the program here.
-/
import Derived.Test.YtglkgcpfdhneeaaDoorLxR
namespace Go.Proofs.YtglkgcpfdhneeaaDoor
set_option linter.unusedVariables false

/-! what is read as a small rune is its bytes -/
theorem get_cons (l : List UInt8) (k : Nat) (x : UInt8) (h : l[k]? = some x) : (ByteArray.mk l.toArray).get! (0 + k) = x := by
  rw [Nat.zero_add]
  show l.toArray[k]! = x
  rw [getElem!_def]
  simp [h]
theorem dec_enc (l : List UInt8) (h : l ≠ []) (hc : (Lib.decodeL l).1 ≤ 2047) : l = Lib.encodeRune ((Lib.decodeL l).1 : Int) ++ l.drop (Lib.decodeL l).2 := by
  cases l with
  | nil => exact absurd rfl h
  | cons b0 t =>
    have g0 := get_cons (b0 :: t) 0 b0 rfl
    have hb0 := b0.toNat_lt
    by_cases h128 : b0.toNat < 128
    · rw [Lib.decodeL_ascii b0 t h128, enc_small _ (by omega) (by omega)]
      simp
    · unfold Lib.decodeL at hc ⊢
      rw [decode_dec4, g0] at hc ⊢
      unfold dec4 at hc ⊢
      rw [if_neg h128] at hc ⊢
      by_cases c6 : (b0.toNat / 32 == 6 && contA ⟨(b0 :: t).toArray⟩ 1) = true
      · rw [if_pos c6] at hc ⊢
        simp only [Bool.and_eq_true, beq_iff_eq] at c6
        obtain ⟨c6a, c6b⟩ := c6
        unfold contA at c6b
        simp only [Bool.and_eq_true, decide_eq_true_iff, beq_iff_eq] at c6b
        obtain ⟨hsz, hb1⟩ := c6b
        have hsz' : 1 < (b0 :: t).length := by
          have : (ByteArray.mk (b0 :: t).toArray).size = (b0 :: t).length := by show (b0 :: t).toArray.size = _; simp
          omega
        cases t with
        | nil => simp at hsz'
        | cons b1 t =>
          have g1 := get_cons (b0 :: b1 :: t) 1 b1 rfl
          rw [g1] at hb1 hc ⊢
          have hb1' := b1.toNat_lt
          by_cases c128 : b0.toNat % 32 * 64 + b1.toNat % 64 ≥ 128
          · rw [if_pos c128]
            simp only
            rw [enc_two _ (by omega) (by omega)]
            have e0 : (192 + ((b0.toNat % 32 * 64 + b1.toNat % 64 : Nat) : Int) / 64).toNat = b0.toNat := by omega
            have e1 : (128 + ((b0.toNat % 32 * 64 + b1.toNat % 64 : Nat) : Int) % 64).toNat = b1.toNat := by omega
            rw [e0, e1]
            simp
          · rw [if_neg c128] at hc
            simp at hc
      · rw [if_neg c6] at hc
        exfalso
        revert hc
        repeat' split
        all_goals
          simp_all
        all_goals omega
theorem rns_bytes (s : ByteArray) (hL : s.data.toList.length = s.size) : ∀ (b pos : Nat), s.size ≤ pos + b → (∀ r ∈ rns s b pos, r ≤ 2047) → s.data.toList.drop pos = encL (rns s b pos)
  | 0, pos, hb, _ => by
    rw [List.drop_eq_nil_of_le (by omega)]; rfl
  | b + 1, pos, hb, h => by
    by_cases hp : pos < s.size
    · rw [rns_step s b pos hp] at h ⊢
      have hne : s.data.toList.drop pos ≠ [] := by
        intro e; have := congrArg List.length e; rw [List.length_drop, List.length_nil] at this; omega
      have hd := Lib.decodeL_drop s pos
      have h0 := h _ List.mem_cons_self
      have h1 := dec_enc _ hne (by rw [hd]; omega)
      rw [hd, List.drop_drop] at h1
      rw [encL_cons, ← rns_bytes s hL b (pos + (Utf8.decode s pos).2) (by have := width_pos s pos hp; omega) (fun r hr => h r (List.mem_cons_of_mem _ hr))]
      exact h1
    · rw [rns_end s _ pos hp, List.drop_eq_nil_of_le (by omega)]; rfl
theorem name_bytes (t : List UInt8) (h : nameOf (runes ⟨t.toArray⟩) = true) : t = encL (runes ⟨t.toArray⟩) := by
  have hs : (ByteArray.mk t.toArray).size = t.length := by show t.toArray.size = _; simp
  have := rns_bytes ⟨t.toArray⟩ (by simp [hs]) (ByteArray.mk t.toArray).size 0 (by omega) (fun r hr => (two_of_name (name_all h r hr)).2)
  simpa [runes] using this

/-! read again -/
end Go.Proofs.YtglkgcpfdhneeaaDoor
