/-
  What stands at the head of a text does not hang on what stands behind it, if that begins with a sign that is no part of it; so two texts, one behind the other, have both one's words. Facts of the plain functions: nothing is proved of the program here.
-/
import Derived.Test.YtbfkaanmbdekfaaDoorLxS
namespace Go.Proofs.YtbfkaanmbdekfaaDoor
set_option linter.unusedVariables false

/-- nothing, or a byte that goes on no rune -/
def Stop (t : List UInt8) : Prop := t = [] ∨ ∃ a u, t = a :: u ∧ a.toNat < 128
theorem get_appG (s t : List UInt8) (k : Nat) (h : k < s.length) : (ByteArray.mk (s ++ t).toArray).get! (0 + k) = (ByteArray.mk s.toArray).get! (0 + k) := by
  rw [Nat.zero_add]
  show (s ++ t).toArray[k]! = s.toArray[k]!
  rw [getElem!_def, getElem!_def]
  simp only [List.getElem?_toArray, List.getElem?_append_left h]
theorem size_appG (s t : List UInt8) : (ByteArray.mk (s ++ t).toArray).size = s.length + t.length := by
  show (s ++ t).toArray.size = _
  simp
theorem cont_appG (s t : List UInt8) (k : Nat) (h : k < s.length) : contA ⟨(s ++ t).toArray⟩ k = contA ⟨s.toArray⟩ k := by
  unfold contA
  have e : (ByteArray.mk s.toArray).size = s.length := by show s.toArray.size = _; simp
  rw [get_appG s t k h, size_appG, e, decide_eq_true (by omega), decide_eq_true (by omega)]
theorem cont_endG (s t : List UInt8) (h : Stop t) : contA ⟨(s ++ t).toArray⟩ s.length = false := by
  unfold contA
  rcases h with rfl | ⟨a, u, rfl, ha⟩
  · rw [size_appG]; simp
  · have : (ByteArray.mk (s ++ a :: u).toArray).get! (0 + s.length) = a := by
      rw [Nat.zero_add]
      show (s ++ a :: u).toArray[s.length]! = a
      rw [getElem!_def]
      simp
    rw [this]
    have : ¬ a.toNat / 64 = 2 := by omega
    simp [this]
theorem decode_stop (s t : List UInt8) (h : s ≠ []) (ht : Stop t) : Lib.decodeL (s ++ t) = Lib.decodeL s ∧ (Lib.decodeL s).2 ≤ s.length := by
  have hp := List.length_pos_iff.2 h
  unfold Lib.decodeL
  rw [decode_dec4, decode_dec4]
  have g := get_appG s t
  have c := cont_appG s t
  have ce := cont_endG s t ht
  have ce0 := cont_endG s [] (.inl rfl)
  rw [List.append_nil] at ce0
  have hs : s.length = 1 ∨ s.length = 2 ∨ s.length = 3 ∨ 4 ≤ s.length := by omega
  rcases hs with hs | hs | hs | hs
  · rw [hs] at ce ce0
    rw [ce, ce0, g 0 (by omega), hs]
    exact ⟨(dec4_c1 _ _ _ _ _ _).trans (dec4_c1 _ _ _ _ _ _).symm, dec4_w1 _ _ _ _ _ _⟩
  · rw [hs] at ce ce0
    rw [ce, ce0, g 0 (by omega), g 1 (by omega), c 1 (by omega), hs]
    exact ⟨(dec4_c2 _ _ _ _ _ _).trans (dec4_c2 _ _ _ _ _ _).symm, dec4_w2 _ _ _ _ _ _⟩
  · rw [hs] at ce ce0
    rw [ce, ce0, g 0 (by omega), g 1 (by omega), g 2 (by omega), c 1 (by omega), c 2 (by omega), hs]
    exact ⟨(dec4_c3 _ _ _ _ _ _).trans (dec4_c3 _ _ _ _ _ _).symm, dec4_w3 _ _ _ _ _ _⟩
  · rw [g 0 (by omega), g 1 (by omega), g 2 (by omega), g 3 (by omega), c 1 (by omega), c 2 (by omega), c 3 (by omega)]
    exact ⟨rfl, Nat.le_trans (dec4_w4 _ _ _ _ _ _ _) hs⟩
theorem nx_stop (s t : List UInt8) (h : s ≠ []) (ht : Stop t) : nx (s ++ t) = nx s ∧ (nx s).2 ≤ s.length := by
  obtain ⟨h1, h2⟩ := decode_stop s t h ht
  refine ⟨?_, (nx_width s h).2⟩
  unfold nx
  rw [if_neg (c := s ++ t = []) (by intro e; exact h (List.append_eq_nil_iff.1 e).1), if_neg h, h1]
/-- behind it no name and no number goes on -/
def Ends (t : List UInt8) : Prop := t = [] ∨ nameRune (nx t).1 = false
theorem run_stop (t : List UInt8) (ht : Stop t) (he : Ends t) : ∀ (f g : Nat) (s : List UInt8), (s ++ t).length ≤ f → s.length ≤ g → runL f (s ++ t) = runL g s := by
  intro f
  induction f with
  | zero =>
    intro g s hf hg
    have : s = [] := List.eq_nil_of_length_eq_zero (by rw [List.length_append] at hf; omega)
    subst this
    cases g with
    | zero => rfl
    | succ g => rw [runL, runL, if_neg (by simp)]
  | succ f ih =>
    intro g s hf hg
    by_cases hs : s = []
    · subst hs
      have r0 : ∀ k, runL k ([] : List UInt8) = (0, 0) := fun k => by cases k with
        | zero => rfl
        | succ k => rw [runL, if_neg (by simp)]
      rw [r0, List.nil_append, runL]
      rcases he with rfl | he
      · rw [if_neg (by simp)]
      · rw [if_neg (by rw [he]; simp)]
    · have hp := List.length_pos_iff.2 hs
      obtain ⟨g, rfl⟩ : ∃ g', g = g' + 1 := ⟨g - 1, by omega⟩
      obtain ⟨n1, n2⟩ := nx_stop s t hs ht
      have nw := nx_width s hs
      have hne : s ++ t ≠ [] := fun e => hs (List.append_eq_nil_iff.1 e).1
      rw [runL, runL, n1]
      by_cases hr : nameRune (nx s).1 = true
      · rw [if_pos ⟨hne, hr⟩, if_pos ⟨hs, hr⟩, List.drop_append_of_le_length n2, ih g (s.drop (nx s).2) (by rw [List.length_append, List.length_drop]; rw [List.length_append] at hf; omega) (by rw [List.length_drop]; omega)]
      · rw [if_neg (fun hh => hr hh.2), if_neg (fun hh => hr hh.2)]
theorem head_stop (s t : List UInt8) (hs : s ≠ []) (ht : Stop t) (he : Ends t) : headW (s ++ t) = headW s := by
  unfold headW
  rw [(nx_stop s t hs ht).1, run_stop t ht he _ s.length s (Nat.le_refl _) (Nat.le_refl _)]
theorem skip_stop (t : List UInt8) (ht : t = [] ∨ t.head? = some 10) : ∀ (f g : Nat) (s : List UInt8), (s ++ t).length ≤ f → s.length ≤ g → skipL f (s ++ t) = skipL g s := by
  have hst : Stop t := by
    rcases ht with rfl | ht
    · exact .inl rfl
    · cases t with
      | nil => cases ht
      | cons a u => exact .inr ⟨a, u, rfl, by have : a = 10 := by simpa using ht
                                              rw [this]; decide⟩
  intro f
  induction f with
  | zero =>
    intro g s hf hg
    have : s = [] := List.eq_nil_of_length_eq_zero (by rw [List.length_append] at hf; omega)
    subst this
    cases g with
    | zero => rfl
    | succ g => rw [skipL, skipL, if_neg (by simp)]
  | succ f ih =>
    intro g s hf hg
    by_cases hs : s = []
    · subst hs
      rw [skipL_stop g [] (.inl rfl), List.nil_append, skipL_stop _ t ht]
    · have hp := List.length_pos_iff.2 hs
      obtain ⟨g, rfl⟩ : ∃ g', g = g' + 1 := ⟨g - 1, by omega⟩
      obtain ⟨n1, n2⟩ := nx_stop s t hs hst
      have nw := nx_width s hs
      have hne : s ++ t ≠ [] := fun e => hs (List.append_eq_nil_iff.1 e).1
      have hh : (s ++ t).head? = s.head? := by cases s with
        | nil => exact absurd rfl hs
        | cons a u => rfl
      rw [skipL, skipL, n1, hh]
      by_cases hr : s.head? ≠ some 10
      · rw [if_pos ⟨hne, hr⟩, if_pos ⟨hs, hr⟩, List.drop_append_of_le_length n2, ih g (s.drop (nx s).2) (by rw [List.length_append, List.length_drop]; rw [List.length_append] at hf; omega) (by rw [List.length_drop]; omega)]
      · rw [if_neg (fun hh => hr hh.2), if_neg (fun hh => hr hh.2)]
theorem ends_feed : Ends [10] := .inr (by rw [nx_feed]; decide)
theorem stop_feed : Stop [10] := .inr ⟨10, [], rfl, by decide⟩
/-- a line feed at the end says nothing -/
theorem lex_end : ∀ (n : Nat) (s : List UInt8), s.length ≤ n → ∀ (f g line col : Nat) (acc : List Wd), s.length ≤ f → s.length + 1 ≤ g →
    (lexL f s line col acc).1 = (lexL g (s ++ [10]) line col acc).1 ∧ (lexL f s line col acc).2.2 = (lexL g (s ++ [10]) line col acc).2.2 := by
  intro n
  induction n with
  | zero =>
    intro s hn f g line col acc hf hg
    have : s = [] := List.eq_nil_of_length_eq_zero (by omega)
    subst this
    obtain ⟨g, rfl⟩ : ∃ g', g = g' + 1 := ⟨g - 1, by omega⟩
    rw [lexL_end, List.nil_append, lexL_feed g [10] _ _ _ (by simp) (by rw [nx_feed])]
    simp only [List.drop_one, List.tail_cons]
    rw [lexL_end]
    exact ⟨rfl, rfl⟩
  | succ n ih =>
    intro s hn f g line col acc hf hg
    by_cases hs : s = []
    · subst hs
      exact ih [] (by simp) f g line col acc hf hg
    · have hp := List.length_pos_iff.2 hs
      obtain ⟨f, rfl⟩ : ∃ f', f = f' + 1 := ⟨f - 1, by omega⟩
      obtain ⟨g, rfl⟩ : ∃ g', g = g' + 1 := ⟨g - 1, by omega⟩
      obtain ⟨n1, n2⟩ := nx_stop s [10] hs stop_feed
      have nw := nx_width s hs
      have hne : s ++ [10] ≠ [] := by simp
      have hd1 : ∀ k, k ≤ s.length → (s ++ [10]).drop k = s.drop k ++ [10] := fun k hk => List.drop_append_of_le_length hk
      have go : ∀ (k l2 c2 : Nat) (a2 : List Wd), 1 ≤ k → k ≤ s.length → (lexL f (s.drop k) l2 c2 a2).1 = (lexL g ((s ++ [10]).drop k) l2 c2 a2).1 ∧ (lexL f (s.drop k) l2 c2 a2).2.2 = (lexL g ((s ++ [10]).drop k) l2 c2 a2).2.2 := fun k l2 c2 a2 k1 k2 => by
        rw [hd1 k k2]
        exact ih (s.drop k) (by rw [List.length_drop]; omega) f g l2 c2 a2 (by rw [List.length_drop]; omega) (by rw [List.length_drop]; omega)
      by_cases h10 : (nx s).1 = 10
      · rw [lexL_feed f s _ _ _ hs h10, lexL_feed g _ _ _ _ hne (by rw [n1]; exact h10)]
        exact go 1 _ _ _ (by omega) (by omega)
      · by_cases hb : (nx s).1 = 32 ∨ (nx s).1 = 9
        · rw [lexL_blank f s _ _ _ hs hb, lexL_blank g _ _ _ _ hne (by rw [n1]; exact hb)]
          exact go 1 _ _ _ (by omega) (by omega)
        · have h1e : (s ++ [10])[1]? = some 47 ↔ s[1]? = some 47 := by
            by_cases hl : 1 < s.length
            · rw [List.getElem?_append_left hl]
            · have hl1 : s.length = 1 := by omega
              have e1 : (s ++ [10])[1]? = some 10 := by rw [List.getElem?_append_right (by omega), hl1]; rfl
              have e2 : s[1]? = none := List.getElem?_eq_none (by omega)
              rw [e1, e2]; simp
          by_cases hr : (nx s).1 = 47 ∧ s[1]? = some 47
          · rw [lexL_remark f s _ _ _ hs hr.1 hr.2, lexL_remark g _ _ _ _ hne (by rw [n1]; exact hr.1) (h1e.2 hr.2), skip_stop [10] (.inr rfl) _ s.length s (Nat.le_refl _) (Nat.le_refl _)]
            have hsl := skipL_le s.length s
            have hs1 : 1 ≤ (skipL s.length s).1 := by
              obtain ⟨k, hk⟩ : ∃ k, s.length = k + 1 := ⟨s.length - 1, by omega⟩
              rw [hk, skipL_step k s hs (fun e => h10 (by
                cases s with
                | nil => exact absurd rfl hs
                | cons a u => have : a = 10 := by simpa using e
                              subst this; rw [nx_feed]))]
              show 1 ≤ (nx s).2 + _
              omega
            exact go _ _ _ _ hs1 hsl.1
          · have hbg : begins s := ⟨hs, h10, fun h => hb (.inl h), fun h => hb (.inr h), hr⟩
            have hbg' : begins (s ++ [10]) := ⟨hne, by rw [n1]; exact h10, by rw [n1]; exact fun h => hb (.inl h), by rw [n1]; exact fun h => hb (.inr h), by rw [n1]; exact fun h => hr ⟨h.1, h1e.1 h.2⟩⟩
            have hbd := headW_bd s hs
            rw [lexL_word f s _ _ _ hbg, lexL_word g _ _ _ _ hbg', head_stop s [10] hs stop_feed ends_feed, n1, List.take_append_of_le_length hbd.2.1]
            by_cases c1 : rightL (headW s).1 (s.take (headW s).2.1) (nx s).1 = false
            · rw [if_pos c1, if_pos c1]; exact ⟨rfl, rfl⟩
            · rw [if_neg c1, if_neg c1]
              by_cases c2 : acc.length = 4000
              · rw [if_pos c2, if_pos c2]; exact ⟨rfl, rfl⟩
              · rw [if_neg c2, if_neg c2]
                exact go _ _ _ _ hbd.1 hbd.2.1
/-- with words ahead: the same words behind them, or there are too many -/
theorem lex_ahead (a : List Wd) : ∀ (f : Nat) (l : List UInt8) (line col : Nat) (acc : List Wd), (a ++ acc).length ≤ 4000 → (lexL f l line col acc).2.2 = 0 →
    (lexL f l line col (a ++ acc)).2.2 = 4 ∨ ((lexL f l line col (a ++ acc)).2.2 = 0 ∧ (lexL f l line col (a ++ acc)).1 = a ++ (lexL f l line col acc).1) := by
  intro f
  induction f with
  | zero => intro l line col acc _ _; exact .inr ⟨rfl, rfl⟩
  | succ f ih =>
    intro l line col acc hl h
    by_cases h0 : l = []
    · subst h0; rw [lexL_end, lexL_end]; exact .inr ⟨rfl, rfl⟩
    · by_cases h10 : (nx l).1 = 10
      · rw [lexL_feed f l _ _ _ h0 h10] at h ⊢; rw [lexL_feed f l _ _ _ h0 h10]; exact ih _ _ _ _ hl h
      · by_cases hb : (nx l).1 = 32 ∨ (nx l).1 = 9
        · rw [lexL_blank f l _ _ _ h0 hb] at h ⊢; rw [lexL_blank f l _ _ _ h0 hb]; exact ih _ _ _ _ hl h
        · by_cases hr : (nx l).1 = 47 ∧ l[1]? = some 47
          · rw [lexL_remark f l _ _ _ h0 hr.1 hr.2] at h ⊢; rw [lexL_remark f l _ _ _ h0 hr.1 hr.2]; exact ih _ _ _ _ hl h
          · have hbg : begins l := ⟨h0, h10, fun h => hb (.inl h), fun h => hb (.inr h), hr⟩
            rw [lexL_word f l _ _ _ hbg] at h ⊢
            rw [lexL_word f l _ _ _ hbg]
            by_cases c1 : rightL (headW l).1 (l.take (headW l).2.1) (nx l).1 = false
            · rw [if_pos c1] at h; cases h
            · rw [if_neg c1] at h ⊢
              rw [if_neg c1]
              by_cases c2 : acc.length = 4000
              · rw [if_pos c2] at h; cases h
              · rw [if_neg c2] at h ⊢
                by_cases c3 : (a ++ acc).length = 4000
                · rw [if_pos c3]; exact .inl rfl
                · rw [if_neg c3, List.append_assoc]
                  exact ih _ _ _ _ (by simp at hl c3 ⊢; omega) h
/-- two texts, one behind the other -/
theorem words_join (s t : List UInt8) (hs : s.length ≤ 5000) (ht : t.length ≤ 5000) (h1 : (wordsL s).2.2 = 0) (h2 : (wordsL t).2.2 = 0) :
    (wordsL (s ++ 10 :: t)).2.2 = 4 ∨ ((wordsL (s ++ 10 :: t)).2.2 = 0 ∧ kt (wordsL (s ++ 10 :: t)).1 = kt (wordsL s).1 ++ kt (wordsL t).1) := by
  unfold wordsL at *
  rw [if_neg (by omega)] at h1 h2
  rw [if_neg (by simp; omega), if_neg (by omega), if_neg (by omega)]
  have e := lex_end s.length s (Nat.le_refl _) s.length (s ++ [10]).length 1 1 [] (Nat.le_refl _) (by simp)
  rcases lex_prefix s.length s (Nat.le_refl _) 1 1 [] (by simp) with ⟨p, c, hc, ih⟩ | ⟨l2, a2, ha2, ih⟩
  · exfalso
    rw [ih [] _ (Nat.le_refl _), h1] at e
    exact hc e.2.symm
  · rw [ih [] _ (Nat.le_refl _)] at e
    have e1 : (lexL s.length s 1 1 []).1 = a2 := by rw [e.1, lexL_end]
    rw [ih t _ (Nat.le_refl _), e1]
    have k := lexL_kt t.length t l2 1 [] 1 1 [] rfl
    rw [h2] at k
    rcases lex_ahead a2 t.length t l2 1 [] (by rw [List.append_nil]; exact ha2) k.2 with h | ⟨h, h'⟩
    · rw [List.append_nil] at h; exact .inl h
    · rw [List.append_nil] at h h'
      refine .inr ⟨h, ?_⟩
      rw [h', ← k.1]
      unfold kt
      rw [List.map_append]
end Go.Proofs.YtbfkaanmbdekfaaDoor
