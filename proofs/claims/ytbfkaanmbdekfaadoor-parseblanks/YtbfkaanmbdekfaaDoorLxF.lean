/-
  Facts on the words of a text: no more rounds are needed than there are bytes; a line further down all is the same; places rise. Nothing is proved of the program here.
-/
import Derived.Test.YtbfkaanmbdekfaaDoorLxM
namespace Go.Proofs.YtbfkaanmbdekfaaDoor
set_option linter.unusedVariables false

theorem drop_lt (l : List UInt8) (n : Nat) (h : l ≠ []) (hn : 1 ≤ n) : (l.drop n).length < l.length := by
  have : 0 < l.length := List.length_pos_iff.2 h
  rw [List.length_drop]; omega
theorem skipL_one (l : List UInt8) (h : l ≠ []) (hr : l.head? ≠ some 10) : 1 ≤ (skipL l.length l).1 := by
  obtain ⟨m, hm⟩ : ∃ m, l.length = m + 1 := ⟨l.length - 1, by have := List.length_pos_iff.2 h; omega⟩
  have := (nx_width l h).1
  rw [hm, skipL_step m l h hr]; simp only; omega
theorem head_nx (l : List UInt8) (h : l ≠ []) (hr : (nx l).1 ≠ 10) : l.head? ≠ some 10 := by
  cases l with
  | nil => exact absurd rfl h
  | cons b t =>
    intro e
    have : b = 10 := by simpa using e
    subst this
    rw [nx_ascii _ _ (by decide)] at hr
    exact hr rfl
/-- the rounds that are left over do nothing -/
theorem lexL_fuel : ∀ (f g : Nat) (l : List UInt8) (line col : Nat) (acc : List Wd), l.length ≤ f → l.length ≤ g → lexL f l line col acc = lexL g l line col acc
  | 0, g, l, line, col, acc, hf, hg => by
    obtain rfl : l = [] := List.eq_nil_of_length_eq_zero (by omega)
    rw [lexL_end, lexL_end]
  | f + 1, g, l, line, col, acc, hf, hg => by
    by_cases h0 : l = []
    · subst h0; rw [lexL_end, lexL_end]
    · have hp := List.length_pos_iff.2 h0
      obtain ⟨g, rfl⟩ : ∃ g', g = g' + 1 := ⟨g - 1, by omega⟩
      by_cases h10 : (nx l).1 = 10
      · rw [lexL_feed f l _ _ _ h0 h10, lexL_feed g l _ _ _ h0 h10]
        have := drop_lt l 1 h0 (by omega)
        exact lexL_fuel f g _ _ _ _ (by omega) (by omega)
      · by_cases hb : (nx l).1 = 32 ∨ (nx l).1 = 9
        · rw [lexL_blank f l _ _ _ h0 hb, lexL_blank g l _ _ _ h0 hb]
          have := drop_lt l 1 h0 (by omega)
          exact lexL_fuel f g _ _ _ _ (by omega) (by omega)
        · by_cases hr : (nx l).1 = 47 ∧ l[1]? = some 47
          · rw [lexL_remark f l _ _ _ h0 hr.1 hr.2, lexL_remark g l _ _ _ h0 hr.1 hr.2]
            have := drop_lt l _ h0 (skipL_one l h0 (head_nx l h0 h10))
            exact lexL_fuel f g _ _ _ _ (by omega) (by omega)
          · have hbg : begins l := ⟨h0, h10, fun h => hb (.inl h), fun h => hb (.inr h), hr⟩
            rw [lexL_word f l _ _ _ hbg, lexL_word g l _ _ _ hbg]
            have := drop_lt l _ h0 (headW_bd l h0).1
            split
            · rfl
            · split
              · rfl
              · exact lexL_fuel f g _ _ _ _ (by omega) (by omega)
/-- a word some lines further down -/
def down (k : Nat) (x : Wd) : Wd := ⟨x.kind, x.text, x.line + k, x.col⟩
theorem lexL_down (k : Nat) : ∀ (f : Nat) (l : List UInt8) (line col : Nat) (acc : List Wd), lexL f l (line + k) col (acc.map (down k)) =
    ((lexL f l line col acc).1.map (down k), (if (lexL f l line col acc).2.2 = 0 then (0, 0) else ((lexL f l line col acc).2.1.1 + k, (lexL f l line col acc).2.1.2)), (lexL f l line col acc).2.2)
  | 0, l, line, col, acc => by simp [lexL]
  | f + 1, l, line, col, acc => by
    by_cases h0 : l = []
    · subst h0; rw [lexL_end, lexL_end]; simp
    · by_cases h10 : (nx l).1 = 10
      · rw [lexL_feed f l _ _ _ h0 h10, lexL_feed f l _ _ _ h0 h10, show line + k + 1 = line + 1 + k by omega]
        exact lexL_down k f _ _ _ _
      · by_cases hb : (nx l).1 = 32 ∨ (nx l).1 = 9
        · rw [lexL_blank f l _ _ _ h0 hb, lexL_blank f l _ _ _ h0 hb]
          exact lexL_down k f _ _ _ _
        · by_cases hr : (nx l).1 = 47 ∧ l[1]? = some 47
          · rw [lexL_remark f l _ _ _ h0 hr.1 hr.2, lexL_remark f l _ _ _ h0 hr.1 hr.2]
            exact lexL_down k f _ _ _ _
          · have hbg : begins l := ⟨h0, h10, fun h => hb (.inl h), fun h => hb (.inr h), hr⟩
            rw [lexL_word f l _ _ _ hbg, lexL_word f l _ _ _ hbg, List.length_map]
            by_cases c1 : rightL (headW l).1 (l.take (headW l).2.1) (nx l).1 = false
            · simp only [if_pos c1]; simp
            · simp only [if_neg c1]
              by_cases c2 : acc.length = 4000
              · simp only [if_pos c2]; simp
              · simp only [if_neg c2]
                have ih := lexL_down k f (l.drop (headW l).2.1) line (col + (headW l).2.2) (acc ++ [⟨(headW l).1, l.take (headW l).2.1, line, col⟩])
                rw [List.map_append] at ih
                exact ih
/-- the words told so far, and the place at hand: places are from 1 on, and rise -/
structure Rise (line col : Nat) (acc : List Wd) : Prop where
  here : 1 ≤ line ∧ 1 ≤ col
  pos : ∀ x ∈ acc, 1 ≤ x.line ∧ 1 ≤ x.col
  up : ∀ (i : Nat) (x y : Wd), acc[i]? = some x → acc[i + 1]? = some y → x.line < y.line ∨ (x.line = y.line ∧ x.col < y.col)
  last : ∀ x, acc.getLast? = some x → x.line < line ∨ (x.line = line ∧ x.col < col)
theorem Rise.nil (line col : Nat) (h : 1 ≤ line ∧ 1 ≤ col) : Rise line col [] := ⟨h, by simp, by simp, by simp⟩
theorem Rise.on {line col : Nat} {acc : List Wd} (h : Rise line col acc) (line' col' : Nat) (hc : 1 ≤ col') (hl : line < line' ∨ (line = line' ∧ col ≤ col')) : Rise line' col' acc := by
  refine ⟨⟨by have := h.here; omega, hc⟩, h.pos, h.up, fun x hx => ?_⟩
  have := h.last x hx
  omega
theorem Rise.word {line col : Nat} {acc : List Wd} (h : Rise line col acc) (k : Int) (t : List UInt8) (m : Nat) (hm : 1 ≤ m) : Rise line (col + m) (acc ++ [⟨k, t, line, col⟩]) := by
  refine ⟨⟨h.here.1, by omega⟩, ?_, ?_, ?_⟩
  · intro x hx
    rcases List.mem_append.1 hx with hx | hx
    · exact h.pos x hx
    · have : x = ⟨k, t, line, col⟩ := by simpa using hx
      subst this; exact h.here
  · intro i x y hx hy
    by_cases hi : i + 1 < acc.length
    · rw [List.getElem?_append_left (by omega)] at hx
      rw [List.getElem?_append_left hi] at hy
      exact h.up i x y hx hy
    · have hil : i + 1 = acc.length := by
        have := (List.getElem?_eq_some_iff.1 hy).1
        simp at this; omega
      rw [hil, List.getElem?_append_right (by omega), Nat.sub_self] at hy
      have : y = ⟨k, t, line, col⟩ := by simpa using hy.symm
      subst this
      rw [List.getElem?_append_left (by omega)] at hx
      refine h.last x ?_
      rw [List.getLast?_eq_getElem?, ← hx]
      congr 1; omega
  · intro x hx
    rw [List.getLast?_append] at hx
    have : x = ⟨k, t, line, col⟩ := by simpa using hx.symm
    subst this
    right; exact ⟨rfl, by show col < col + m; omega⟩
theorem runes_one (l : List UInt8) (h : l ≠ []) : 1 ≤ (headW l).2.2 := by
  obtain ⟨m, hm⟩ : ∃ m, l.length = m + 1 := ⟨l.length - 1, by have := List.length_pos_iff.2 h; omega⟩
  unfold headW
  split
  · rename_i hL
    rw [hm]; exact (runL_pos m l h (by unfold nameRune; rw [hL]; rfl)).2
  · split
    · rename_i hL hD
      rw [hm]; exact (runL_pos m l h (by unfold nameRune; rw [hD]; simp)).2
    · exact Nat.le_refl _
theorem lexL_rise : ∀ (f : Nat) (l : List UInt8) (line col : Nat) (acc : List Wd), Rise line col acc → ∃ line' col', Rise line' col' (lexL f l line col acc).1
  | 0, l, line, col, acc, h => ⟨line, col, h⟩
  | f + 1, l, line, col, acc, h => by
    have hh := h.here
    by_cases h0 : l = []
    · subst h0; rw [lexL_end]; exact ⟨line, col, h⟩
    · by_cases h10 : (nx l).1 = 10
      · rw [lexL_feed f l _ _ _ h0 h10]; exact lexL_rise f _ _ _ _ (h.on _ _ (by omega) (by omega))
      · by_cases hb : (nx l).1 = 32 ∨ (nx l).1 = 9
        · rw [lexL_blank f l _ _ _ h0 hb]; exact lexL_rise f _ _ _ _ (h.on _ _ (by omega) (by omega))
        · by_cases hr : (nx l).1 = 47 ∧ l[1]? = some 47
          · rw [lexL_remark f l _ _ _ h0 hr.1 hr.2]; exact lexL_rise f _ _ _ _ (h.on _ _ (by omega) (by omega))
          · rw [lexL_word f l _ _ _ ⟨h0, h10, fun h => hb (.inl h), fun h => hb (.inr h), hr⟩]
            split
            · exact ⟨1, 1, Rise.nil _ _ (by omega)⟩
            · split
              · exact ⟨1, 1, Rise.nil _ _ (by omega)⟩
              · exact lexL_rise f _ _ _ _ (h.word _ _ _ (runes_one l h0))
theorem lexL_count : ∀ (f : Nat) (l : List UInt8) (line col : Nat) (acc : List Wd), acc.length ≤ 4000 → (lexL f l line col acc).1.length ≤ 4000
  | 0, l, line, col, acc, h => h
  | f + 1, l, line, col, acc, h => by
    by_cases h0 : l = []
    · subst h0; rw [lexL_end]; exact h
    · by_cases h10 : (nx l).1 = 10
      · rw [lexL_feed f l _ _ _ h0 h10]; exact lexL_count f _ _ _ _ h
      · by_cases hb : (nx l).1 = 32 ∨ (nx l).1 = 9
        · rw [lexL_blank f l _ _ _ h0 hb]; exact lexL_count f _ _ _ _ h
        · by_cases hr : (nx l).1 = 47 ∧ l[1]? = some 47
          · rw [lexL_remark f l _ _ _ h0 hr.1 hr.2]; exact lexL_count f _ _ _ _ h
          · rw [lexL_word f l _ _ _ ⟨h0, h10, fun h => hb (.inl h), fun h => hb (.inr h), hr⟩]
            split
            · simp
            · split
              · simp
              · exact lexL_count f _ _ _ _ (by simp; omega)
/-- lines are at most as many as there are bytes, and one -/
theorem lexL_lines (M : Nat) : ∀ (f : Nat) (l : List UInt8) (line col : Nat) (acc : List Wd), (∀ x ∈ acc, x.line ≤ M) → line + l.length ≤ M → (∀ x ∈ (lexL f l line col acc).1, x.line ≤ M) ∧ (lexL f l line col acc).2.1.1 ≤ M
  | 0, l, line, col, acc, h, hl => ⟨h, Nat.zero_le _⟩
  | f + 1, l, line, col, acc, h, hl => by
    by_cases h0 : l = []
    · subst h0; rw [lexL_end]; exact ⟨h, Nat.zero_le _⟩
    · have hp := List.length_pos_iff.2 h0
      by_cases h10 : (nx l).1 = 10
      · rw [lexL_feed f l _ _ _ h0 h10]; exact lexL_lines M f _ _ _ _ h (by rw [List.length_drop]; omega)
      · by_cases hb : (nx l).1 = 32 ∨ (nx l).1 = 9
        · rw [lexL_blank f l _ _ _ h0 hb]; exact lexL_lines M f _ _ _ _ h (by rw [List.length_drop]; omega)
        · by_cases hr : (nx l).1 = 47 ∧ l[1]? = some 47
          · rw [lexL_remark f l _ _ _ h0 hr.1 hr.2]; exact lexL_lines M f _ _ _ _ h (by rw [List.length_drop]; omega)
          · rw [lexL_word f l _ _ _ ⟨h0, h10, fun h => hb (.inl h), fun h => hb (.inr h), hr⟩]
            split
            · exact ⟨by simp, by show line ≤ M; omega⟩
            · split
              · exact ⟨by simp, by show line ≤ M; omega⟩
              · refine lexL_lines M f _ _ _ _ ?_ (by rw [List.length_drop]; omega)
                intro x hx
                rcases List.mem_append.1 hx with hx | hx
                · exact h x hx
                · have : x = ⟨(headW l).1, l.take (headW l).2.1, line, col⟩ := by simpa using hx
                  subst this; show line ≤ M; omega
theorem words_lines (l : List UInt8) : (∀ x ∈ (wordsL l).1, x.line ≤ 20001) ∧ (wordsL l).2.1.1 ≤ 20001 := by
  unfold wordsL
  split
  · exact ⟨by simp, by show 1 ≤ 20001; omega⟩
  · exact lexL_lines 20001 _ _ _ _ _ (by simp) (by omega)
theorem lexL_texts (M : Nat) : ∀ (f : Nat) (l : List UInt8) (line col : Nat) (acc : List Wd), (∀ x ∈ acc, x.text.length ≤ M) → l.length ≤ M → ∀ x ∈ (lexL f l line col acc).1, x.text.length ≤ M
  | 0, l, line, col, acc, h, hl => h
  | f + 1, l, line, col, acc, h, hl => by
    by_cases h0 : l = []
    · subst h0; rw [lexL_end]; exact h
    · by_cases h10 : (nx l).1 = 10
      · rw [lexL_feed f l _ _ _ h0 h10]; exact lexL_texts M f _ _ _ _ h (by rw [List.length_drop]; omega)
      · by_cases hb : (nx l).1 = 32 ∨ (nx l).1 = 9
        · rw [lexL_blank f l _ _ _ h0 hb]; exact lexL_texts M f _ _ _ _ h (by rw [List.length_drop]; omega)
        · by_cases hr : (nx l).1 = 47 ∧ l[1]? = some 47
          · rw [lexL_remark f l _ _ _ h0 hr.1 hr.2]; exact lexL_texts M f _ _ _ _ h (by rw [List.length_drop]; omega)
          · rw [lexL_word f l _ _ _ ⟨h0, h10, fun h => hb (.inl h), fun h => hb (.inr h), hr⟩]
            split
            · simp
            · split
              · simp
              · refine lexL_texts M f _ _ _ _ ?_ (by rw [List.length_drop]; omega)
                intro x hx
                rcases List.mem_append.1 hx with hx | hx
                · exact h x hx
                · have : x = ⟨(headW l).1, l.take (headW l).2.1, line, col⟩ := by simpa using hx
                  subst this; show (l.take _).length ≤ M; rw [List.length_take]; omega
theorem words_texts (l : List UInt8) : ∀ x ∈ (wordsL l).1, x.text.length ≤ 20000 := by
  unfold wordsL
  split
  · simp
  · exact lexL_texts 20000 _ _ _ _ _ (by simp) (by omega)
/-- places rise along a text's words -/
theorem words_rise (l : List UInt8) : ∃ line col, Rise line col (wordsL l).1 := by
  unfold wordsL
  split
  · exact ⟨1, 1, Rise.nil _ _ (by omega)⟩
  · exact lexL_rise _ _ _ _ _ (Rise.nil _ _ (by omega))
/-- behind a line feed -/
theorem words_feed (l : List UInt8) (h : l.length ≤ 10000) : wordsL (10 :: l) = ((wordsL l).1.map (down 1), (if (wordsL l).2.2 = 0 then (0, 0) else ((wordsL l).2.1.1 + 1, (wordsL l).2.1.2)), (wordsL l).2.2) := by
  unfold wordsL
  rw [if_neg (by simp; omega), if_neg (by omega), List.length_cons, lexL_feed _ _ _ _ _ (by simp) (by rw [nx_ascii _ _ (by decide)]; rfl)]
  exact lexL_down 1 l.length l 1 1 []
end Go.Proofs.YtbfkaanmbdekfaaDoor
