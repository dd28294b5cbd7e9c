/-
  A remark says nothing, the rest: how a text is read up to a line feed, whatever stands behind it. Nothing is proved of the program here.
-/
import Derived.Test.YtbfkaanmbdekfaaDoorLxR
namespace Go.Proofs.YtbfkaanmbdekfaaDoor
set_option linter.unusedVariables false

theorem runL_fuel : ∀ (f g : Nat) (l : List UInt8), l.length ≤ f → l.length ≤ g → runL f l = runL g l
  | 0, g, l, hf, hg => by
    obtain rfl : l = [] := List.eq_nil_of_length_eq_zero (by omega)
    cases g with
    | zero => rfl
    | succ g => simp [runL]
  | f + 1, 0, l, hf, hg => by
    obtain rfl : l = [] := List.eq_nil_of_length_eq_zero (by omega)
    simp [runL]
  | f + 1, g + 1, l, hf, hg => by
    rw [runL, runL]
    by_cases h : l ≠ [] ∧ nameRune (nx l).1 = true
    · have := drop_lt l _ h.1 (nx_width l h.1).1
      rw [if_pos h, if_pos h, runL_fuel f g (l.drop (nx l).2) (by omega) (by omega)]
    · rw [if_neg h, if_neg h]
theorem skipL_fuel : ∀ (f g : Nat) (l : List UInt8), l.length ≤ f → l.length ≤ g → skipL f l = skipL g l
  | 0, g, l, hf, hg => by
    obtain rfl : l = [] := List.eq_nil_of_length_eq_zero (by omega)
    cases g with
    | zero => rfl
    | succ g => simp [skipL]
  | f + 1, 0, l, hf, hg => by
    obtain rfl : l = [] := List.eq_nil_of_length_eq_zero (by omega)
    simp [skipL]
  | f + 1, g + 1, l, hf, hg => by
    rw [skipL, skipL]
    by_cases h : l ≠ [] ∧ l.head? ≠ some 10
    · have := drop_lt l _ h.1 (nx_width l h.1).1
      rw [if_pos h, if_pos h, skipL_fuel f g (l.drop (nx l).2) (by omega) (by omega)]
    · rw [if_neg h, if_neg h]
theorem run_whole (s y : List UInt8) : runL (s ++ 10 :: y).length (s ++ 10 :: y) = runL (s ++ [10]).length (s ++ [10]) ∧ (runL (s ++ 10 :: y).length (s ++ 10 :: y)).1 ≤ s.length := by
  obtain ⟨h1, h2⟩ := runL_local (s ++ 10 :: y).length s y
  refine ⟨?_, h2⟩
  rw [h1]
  exact runL_fuel _ _ _ (by simp) (Nat.le_refl _)
theorem skip_whole (s y : List UInt8) : skipL (s ++ 10 :: y).length (s ++ 10 :: y) = skipL (s ++ [10]).length (s ++ [10]) ∧ (skipL (s ++ 10 :: y).length (s ++ 10 :: y)).1 ≤ s.length := by
  obtain ⟨h1, h2⟩ := skipL_local (s ++ 10 :: y).length s y
  refine ⟨?_, h2⟩
  rw [h1]
  exact skipL_fuel _ _ _ (by simp) (Nat.le_refl _)
theorem head_local (s y : List UInt8) (h : s ≠ []) : headW (s ++ 10 :: y) = headW (s ++ [10]) ∧ (headW (s ++ 10 :: y)).2.1 ≤ s.length := by
  obtain ⟨h1, h2⟩ := nx_local s y h
  obtain ⟨r1, r2⟩ := run_whole s y
  have e : headW (s ++ 10 :: y) = headW (s ++ [10]) := by unfold headW; rw [h1, r1]
  refine ⟨e, ?_⟩
  unfold headW
  split
  · exact r2
  · split
    · exact r2
    · exact h2
theorem at_local (s y : List UInt8) (h : s ≠ []) : (s ++ 10 :: y)[1]? = (s ++ [10])[1]? := by
  have hp := List.length_pos_iff.2 h
  by_cases h1 : 1 < s.length
  · rw [List.getElem?_append_left h1, List.getElem?_append_left h1]
  · rw [List.getElem?_append_right (by omega), List.getElem?_append_right (by omega), show s.length = 1 by omega]; rfl
theorem take_local (s y : List UInt8) (n : Nat) (h : n ≤ s.length) : (s ++ 10 :: y).take n = s.take n := by
  rw [List.take_append_of_le_length h]
/-- a text up to a line feed: it has an error, or it comes to what stands behind, with these words -/
theorem lex_prefix : ∀ (n : Nat) (s : List UInt8), s.length ≤ n → ∀ (line col : Nat) (acc : List Wd), acc.length ≤ 4000 →
    (∃ (p : Nat × Nat) (c : Int), c ≠ 0 ∧ ∀ (y : List UInt8) (f : Nat), (s ++ 10 :: y).length ≤ f → lexL f (s ++ 10 :: y) line col acc = ([], p, c)) ∨
    (∃ (line' : Nat) (acc' : List Wd), acc'.length ≤ 4000 ∧ ∀ (y : List UInt8) (f : Nat), (s ++ 10 :: y).length ≤ f → lexL f (s ++ 10 :: y) line col acc = lexL y.length y line' 1 acc')
  | n, [], hn, line, col, acc, hac => by
    refine .inr ⟨line + 1, acc, hac, fun y f hf => ?_⟩
    simp only [List.nil_append, List.length_cons] at hf ⊢
    obtain ⟨f, rfl⟩ : ∃ f', f = f' + 1 := ⟨f - 1, by omega⟩
    rw [lexL_feed f _ _ _ _ (by simp) (by rw [nx_feed])]
    exact lexL_fuel _ _ _ _ _ _ (by simpa using hf) (Nat.le_refl _)
  | 0, a :: s, hn, line, col, acc, hac => by simp at hn
  | n + 1, a :: s, hn, line, col, acc, hac => by
    have hne : a :: s ≠ [] := by simp
    have hnx := fun y => nx_local (a :: s) y hne
    obtain ⟨x, hx⟩ : ∃ x, nx (a :: s ++ [10]) = x := ⟨_, rfl⟩
    have hx1 : ∀ y, nx (a :: s ++ 10 :: y) = x := fun y => (hnx y).1.trans hx
    have hx2 : x.2 ≤ (a :: s).length := by have := (hnx []).2; rw [hx1] at this; exact this
    have hstep : ∀ (k : Nat), 1 ≤ k → k ≤ (a :: s).length → ∀ (line' col' : Nat) (acc' : List Wd), acc'.length ≤ 4000 →
        (∀ (y : List UInt8) (f : Nat), lexL (f + 1) (a :: s ++ 10 :: y) line col acc = lexL f ((a :: s ++ 10 :: y).drop k) line' col' acc') →
        (∃ (p : Nat × Nat) (c : Int), c ≠ 0 ∧ ∀ (y : List UInt8) (f : Nat), (a :: s ++ 10 :: y).length ≤ f → lexL f (a :: s ++ 10 :: y) line col acc = ([], p, c)) ∨
        (∃ (line' : Nat) (acc' : List Wd), acc'.length ≤ 4000 ∧ ∀ (y : List UInt8) (f : Nat), (a :: s ++ 10 :: y).length ≤ f → lexL f (a :: s ++ 10 :: y) line col acc = lexL y.length y line' 1 acc') := by
      intro k hk1 hk2 line' col' acc' hac' hl
      have hd : ∀ y, (a :: s ++ 10 :: y).drop k = (a :: s).drop k ++ 10 :: y := fun y => drop_local (a :: s) y k hk2
      have hlen : ((a :: s).drop k).length ≤ n := by rw [List.length_drop]; omega
      have hfu : ∀ y f, (a :: s ++ 10 :: y).length ≤ f + 1 → ((a :: s).drop k ++ 10 :: y).length ≤ f := fun y f hf => by
        simp only [List.length_append, List.length_drop, List.length_cons] at hf ⊢; omega
      rcases lex_prefix n _ hlen line' col' acc' hac' with ⟨p, c, hc, ih⟩ | ⟨l2, a2, ha2, ih⟩
      · refine .inl ⟨p, c, hc, fun y f hf => ?_⟩
        obtain ⟨f, rfl⟩ : ∃ f', f = f' + 1 := ⟨f - 1, by simp at hf; omega⟩
        rw [hl y f, hd y]
        exact ih y f (hfu y f hf)
      · refine .inr ⟨l2, a2, ha2, fun y f hf => ?_⟩
        obtain ⟨f, rfl⟩ : ∃ f', f = f' + 1 := ⟨f - 1, by simp at hf; omega⟩
        rw [hl y f, hd y]
        exact ih y f (hfu y f hf)
    by_cases h10 : x.1 = 10
    · exact hstep 1 (by omega) (by simp) (line + 1) 1 acc hac fun y f => lexL_feed f _ _ _ _ (by simp) (by rw [hx1]; exact h10)
    · by_cases hb : x.1 = 32 ∨ x.1 = 9
      · exact hstep 1 (by omega) (by simp) line (col + 1) acc hac fun y f => lexL_blank f _ _ _ _ (by simp) (by rw [hx1]; exact hb)
      · by_cases hr : x.1 = 47 ∧ (a :: s ++ [10])[1]? = some 47
        · have hsk := fun y => skip_whole (a :: s) y
          have h1 : 1 ≤ (skipL (a :: s ++ [10]).length (a :: s ++ [10])).1 := skipL_one _ (by simp) (head_nx _ (by simp) (by rw [hx]; exact h10))
          have h2 : (skipL (a :: s ++ [10]).length (a :: s ++ [10])).1 ≤ (a :: s).length := by have := (hsk []).2; exact this
          refine hstep _ h1 h2 line (col + (skipL (a :: s ++ [10]).length (a :: s ++ [10])).2) acc hac fun y f => ?_
          rw [lexL_remark f _ _ _ _ (by simp) (by rw [hx1]; exact hr.1) (by rw [at_local _ y hne]; exact hr.2), (hsk y).1]
        · have hbg : ∀ y, begins (a :: s ++ 10 :: y) := fun y => ⟨by simp, by rw [hx1]; exact h10, by rw [hx1]; exact fun h => hb (.inl h), by rw [hx1]; exact fun h => hb (.inr h), by rw [hx1, at_local _ y hne]; exact hr⟩
          have hhw := fun y => head_local (a :: s) y hne
          obtain ⟨H, hH⟩ : ∃ H, headW (a :: s ++ [10]) = H := ⟨_, rfl⟩
          have hH1 : ∀ y, headW (a :: s ++ 10 :: y) = H := fun y => (hhw y).1.trans hH
          have hH2 : H.2.1 ≤ (a :: s).length := by have := (hhw []).2; rw [hH1] at this; exact this
          have hH0 : 1 ≤ H.2.1 := by have := (headW_bd (a :: s ++ [10]) (by simp)).1; rw [hH] at this; exact this
          have hw : ∀ (y : List UInt8) (f : Nat), lexL (f + 1) (a :: s ++ 10 :: y) line col acc = if rightL H.1 ((a :: s).take H.2.1) x.1 = false then ([], (line, col), 6) else if acc.length = 4000 then ([], (line, col), 4) else lexL f ((a :: s ++ 10 :: y).drop H.2.1) line (col + H.2.2) (acc ++ [⟨H.1, (a :: s).take H.2.1, line, col⟩]) := fun y f => by
            rw [lexL_word f _ _ _ _ (hbg y), hH1, hx1, take_local _ y _ hH2]
          by_cases c1 : rightL H.1 ((a :: s).take H.2.1) x.1 = false
          · refine .inl ⟨(line, col), 6, by decide, fun y f hf => ?_⟩
            obtain ⟨f, rfl⟩ : ∃ f', f = f' + 1 := ⟨f - 1, by simp at hf; omega⟩
            rw [hw, if_pos c1]
          · by_cases c2 : acc.length = 4000
            · refine .inl ⟨(line, col), 4, by decide, fun y f hf => ?_⟩
              obtain ⟨f, rfl⟩ : ∃ f', f = f' + 1 := ⟨f - 1, by simp at hf; omega⟩
              rw [hw, if_neg c1, if_pos c2]
            · refine hstep _ hH0 hH2 line (col + H.2.2) (acc ++ [⟨H.1, (a :: s).take H.2.1, line, col⟩]) (by simp; omega) fun y f => ?_
              rw [hw, if_neg c1, if_neg c2]
/-- the kinds and texts of words -/
def kt (l : List Wd) : List (Int × List UInt8) := l.map fun x => (x.kind, x.text)
theorem kt_len (l : List Wd) : (kt l).length = l.length := by simp [kt]
/-- places say nothing -/
theorem lexL_kt : ∀ (f : Nat) (l : List UInt8) (line col : Nat) (acc : List Wd) (line2 col2 : Nat) (acc2 : List Wd), kt acc = kt acc2 →
    kt (lexL f l line col acc).1 = kt (lexL f l line2 col2 acc2).1 ∧ (lexL f l line col acc).2.2 = (lexL f l line2 col2 acc2).2.2
  | 0, l, line, col, acc, line2, col2, acc2, h => ⟨h, rfl⟩
  | f + 1, l, line, col, acc, line2, col2, acc2, h => by
    have hlen : acc.length = acc2.length := by rw [← kt_len, ← kt_len, h]
    by_cases h0 : l = []
    · subst h0; rw [lexL_end, lexL_end]; exact ⟨h, rfl⟩
    · by_cases h10 : (nx l).1 = 10
      · rw [lexL_feed f l _ _ _ h0 h10, lexL_feed f l _ _ _ h0 h10]; exact lexL_kt f _ _ _ _ _ _ _ h
      · by_cases hb : (nx l).1 = 32 ∨ (nx l).1 = 9
        · rw [lexL_blank f l _ _ _ h0 hb, lexL_blank f l _ _ _ h0 hb]; exact lexL_kt f _ _ _ _ _ _ _ h
        · by_cases hr : (nx l).1 = 47 ∧ l[1]? = some 47
          · rw [lexL_remark f l _ _ _ h0 hr.1 hr.2, lexL_remark f l _ _ _ h0 hr.1 hr.2]; exact lexL_kt f _ _ _ _ _ _ _ h
          · have hbg : begins l := ⟨h0, h10, fun h => hb (.inl h), fun h => hb (.inr h), hr⟩
            rw [lexL_word f l _ _ _ hbg, lexL_word f l _ _ _ hbg, ← hlen]
            by_cases c1 : rightL (headW l).1 (l.take (headW l).2.1) (nx l).1 = false
            · simp only [if_pos c1]; exact ⟨trivial, trivial⟩
            · simp only [if_neg c1]
              by_cases c2 : acc.length = 4000
              · simp only [if_pos c2]; exact ⟨trivial, trivial⟩
              · simp only [if_neg c2]
                exact lexL_kt f _ _ _ _ _ _ _ (by unfold kt at h ⊢; rw [List.map_append, List.map_append, h]; rfl)
theorem skip_all : ∀ (n : Nat) (r y : List UInt8), r.length ≤ n → (∀ b ∈ r, b ≠ 10) → ∀ f, r.length ≤ f → (skipL f (r ++ 10 :: y)).1 = r.length
  | n, [], y, hn, h, f, hf => by
    simp only [List.nil_append]
    rw [skipL_stop _ _ (.inr rfl)]; rfl
  | 0, a :: r, y, hn, h, f, hf => by simp at hn
  | n + 1, a :: r, y, hn, h, f, hf => by
    obtain ⟨f, rfl⟩ : ∃ f', f = f' + 1 := ⟨f - 1, by simp at hf; omega⟩
    obtain ⟨_, h2⟩ := nx_local (a :: r) y (by simp)
    have hw := (nx_width (a :: r ++ 10 :: y) (by simp)).1
    rw [skipL_step f _ (by simp) (by have := h a List.mem_cons_self; simpa using this), drop_local _ y _ h2]
    simp only
    rw [skip_all n _ y (by rw [List.length_drop]; omega) (fun b hb => h b (List.mem_of_mem_drop hb)) f (by rw [List.length_drop]; omega), List.length_drop]
    omega
/-- a remark in a line of its own says nothing -/
theorem words_remark (s r b : List UInt8) (hs : s.length ≤ 5000) (hr : r.length ≤ 5000) (hb : b.length ≤ 5000) (h10 : ∀ x ∈ r, x ≠ 10) :
    (wordsL (s ++ 10 :: b)).2.2 = (wordsL (s ++ 10 :: 47 :: 47 :: (r ++ 10 :: b))).2.2 ∧ kt (wordsL (s ++ 10 :: b)).1 = kt (wordsL (s ++ 10 :: 47 :: 47 :: (r ++ 10 :: b))).1 := by
  unfold wordsL
  rw [if_neg (by simp; omega), if_neg (by simp; omega)]
  rcases lex_prefix s.length s (Nat.le_refl _) 1 1 [] (by simp) with ⟨p, c, hc, ih⟩ | ⟨l2, a2, ha2, ih⟩
  · rw [ih _ _ (Nat.le_refl _), ih _ _ (Nat.le_refl _)]; exact ⟨rfl, rfl⟩
  · rw [ih _ _ (Nat.le_refl _), ih _ _ (Nat.le_refl _)]
    have hsk := skip_all (47 :: 47 :: r).length (47 :: 47 :: r) b (Nat.le_refl _) (by
      intro x hx
      rcases List.mem_cons.1 hx with rfl | hx
      · decide
      · rcases List.mem_cons.1 hx with rfl | hx
        · decide
        · exact h10 x hx) (47 :: 47 :: (r ++ 10 :: b)).length (by simp)
    have e : lexL (47 :: 47 :: (r ++ 10 :: b)).length (47 :: 47 :: (r ++ 10 :: b)) l2 1 a2 = lexL b.length b (l2 + 1) 1 a2 := by
      have hm : (47 :: 47 :: (r ++ 10 :: b) : List UInt8).length = ((47 :: (r ++ 10 :: b) : List UInt8).length) + 1 := rfl
      rw [hm, lexL_remark _ _ _ _ _ (by simp) (by rw [nx_ascii _ _ (by decide)]; rfl) rfl]
      have hsk' : (skipL (47 :: 47 :: (r ++ 10 :: b)).length (47 :: 47 :: (r ++ 10 :: b))).1 = (47 :: 47 :: r).length := hsk
      rw [hsk']
      have hd : (47 :: 47 :: (r ++ 10 :: b) : List UInt8).drop (47 :: 47 :: r).length = 10 :: b := by
        show ((47 :: 47 :: r) ++ 10 :: b).drop (47 :: 47 :: r).length = _
        rw [List.drop_left]
      rw [hd]
      have hf2 : (47 :: (r ++ 10 :: b) : List UInt8).length = (r ++ b).length + 1 + 1 := by simp; omega
      rw [hf2, lexL_feed _ _ _ _ _ (by simp) (by rw [nx_feed])]
      exact lexL_fuel _ _ _ _ _ _ (by show b.length ≤ (r ++ b).length + 1; rw [List.length_append]; omega) (Nat.le_refl _)
    rw [e]
    have := lexL_kt b.length b l2 1 a2 (l2 + 1) 1 a2 rfl
    exact ⟨this.2, this.1⟩
end Go.Proofs.YtbfkaanmbdekfaaDoor
