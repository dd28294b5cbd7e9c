/-
  The arithmetic of names' forms: a great form that begins with a great letter, made small and great again, is itself. Nothing is proved of the program here.
-/
import Derived.Test.YtpodlakkfbjhbaaEnc
namespace Go.Proofs.Ytpodlakkfbjhbaa
set_option linter.unusedVariables false

theorem camel_snake : ∀ m : List Int, (∀ r ∈ m, r ≠ 95) → camelL false (snakeL false m) = m
  | [], _ => rfl
  | x :: t, h => by
    have ih := camel_snake t (fun r hr => h r (List.mem_cons_of_mem _ hr))
    have hx := h x List.mem_cons_self
    by_cases hg : isGreat x = true
    · have hb : 65 ≤ x ∧ x ≤ 90 := by simpa [isGreat] using hg
      have hs : isSmall (x + 32) = true := by unfold isSmall; rw [decide_eq_true_iff]; omega
      rw [snakeL, if_pos hg, if_neg (by decide), camelL, if_pos rfl, camelL, if_neg (by omega), ih, hs]
      simp
    · rw [snakeL, if_neg hg, camelL, if_neg hx, ih]; simp
theorem camel_snake_first (x : Int) (t : List Int) (hg : isGreat x = true) (h : ∀ r ∈ t, r ≠ 95) : camelL true (snakeL true (x :: t)) = x :: t := by
  have hb : 65 ≤ x ∧ x ≤ 90 := by simpa [isGreat] using hg
  have hs : isSmall (x + 32) = true := by unfold isSmall; rw [decide_eq_true_iff]; omega
  rw [snakeL, if_pos hg, if_pos rfl, camelL, if_neg (by omega), camel_snake t h, hs]
  simp
/-- the answer of Camel, of Snake -/
def camS (s : ByteArray) : List UInt8 := if nameOf (runes s) = true then encL (camelL true (runes s)) else []
def snaS (s : ByteArray) : List UInt8 := if nameOf (runes s) = true ∧ Lib.runeCount ⟨(encL (snakeL true (runes s))).toArray⟩ ≤ 40 then encL (snakeL true (runes s)) else []
theorem camS_len (s : ByteArray) : (camS s).length ≤ 160 := by
  unfold camS
  split
  · rename_i h
    have h1 := (encL_len (camelL true (runes s))).2
    have h2 := camel_len (runes s) true
    unfold nameOf at h
    simp only [Bool.and_eq_true, decide_eq_true_iff] at h
    omega
  · simp
theorem snaS_len (s : ByteArray) : (snaS s).length ≤ 320 := by
  unfold snaS
  split
  · rename_i h
    have h1 := (encL_len (snakeL true (runes s))).2
    have h2 := snake_len (runes s) true
    have h := h.1
    unfold nameOf at h
    simp only [Bool.and_eq_true, decide_eq_true_iff] at h
    omega
  · simp
theorem first_byte (r : Int) (b : UInt8) (x t : List UInt8) (h : two r) (he : Lib.encodeRune r ++ x = b :: t) (h0 : 65 ≤ b.toNat) (h1 : b.toNat ≤ 90) : isGreat r = true := by
  obtain ⟨hr0, hr1⟩ := h
  unfold isGreat
  rw [decide_eq_true_iff]
  by_cases hr : r ≤ 127
  · rw [enc_small r hr0 hr] at he
    have hb : UInt8.ofNat r.toNat = b := (List.cons.inj he).1
    have : (UInt8.ofNat r.toNat).toNat = r.toNat := by simp; omega
    rw [hb] at this
    omega
  · rw [enc_two r (by omega) hr1] at he
    have hb : UInt8.ofNat (192 + r / 64).toNat = b := (List.cons.inj he).1
    have : (UInt8.ofNat (192 + r / 64).toNat).toNat = (192 + r / 64).toNat := by simp; omega
    rw [hb] at this
    omega
/-- a great form that begins with a great letter is the great form of its small form, if that is one -/
theorem cam_sna_cam (s : ByteArray) (b : UInt8) (c : List UInt8) (hc : camS s = b :: c) (ht : snaS ⟨(camS s).toArray⟩ ≠ []) (h0 : 65 ≤ b.toNat) (h1 : b.toNat ≤ 90) :
    camS ⟨(snaS ⟨(camS s).toArray⟩).toArray⟩ = camS s := by
  have hn : nameOf (runes s) = true := by
    by_cases h : nameOf (runes s) = true
    · exact h
    · unfold camS at hc; rw [if_neg h] at hc; simp at hc
  have hm := camel_name (runes s) true (name_all hn)
  have e1 : camS s = encL (camelL true (runes s)) := by unfold camS; rw [if_pos hn]
  rw [e1] at hc ht ⊢
  generalize camelL true (runes s) = m at *
  have hr : runes ⟨(encL m).toArray⟩ = m := runes_enc m (fun r hr => two_of_name (hm r hr).1)
  have hs2 := snake_name m true (fun r hr => (hm r hr).1)
  have hr2 : runes ⟨(encL (snakeL true m)).toArray⟩ = snakeL true m := runes_enc _ (fun r hr => two_of_name (hs2 r hr))
  unfold snaS at ht ⊢
  rw [hr, runeCount_runes, hr2] at ht ⊢
  by_cases hcnd : nameOf m = true ∧ (snakeL true m).length ≤ 40
  · rw [if_pos hcnd]
    cases m with
    | nil => simp [encL] at hc
    | cons x t =>
      rw [encL_cons] at hc
      have hg := first_byte x b _ _ (two_of_name (hm x List.mem_cons_self).1) hc h0 h1
      have hb : 65 ≤ x ∧ x ≤ 90 := by simpa [isGreat] using hg
      have hcs := camel_snake_first x t hg (fun r hr => (hm r (List.mem_cons_of_mem _ hr)).2)
      have hname : nameOf (snakeL true (x :: t)) = true := by
        unfold nameOf
        simp only [Bool.and_eq_true, decide_eq_true_iff, List.all_eq_true]
        refine ⟨⟨⟨?_, hcnd.2⟩, ?_⟩, hs2⟩
        · rw [snakeL, if_pos hg, if_pos rfl]; simp
        · rw [snakeL, if_pos hg, if_pos rfl]
          simp only [List.headD_cons]
          unfold isLetter
          rw [decide_eq_true_iff]; omega
      unfold camS
      rw [hr2, if_pos hname, hcs]
  · rw [if_neg hcnd] at ht; exact absurd rfl ht
end Go.Proofs.Ytpodlakkfbjhbaa
