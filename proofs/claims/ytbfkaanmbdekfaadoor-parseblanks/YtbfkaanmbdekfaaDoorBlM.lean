/-
  A text with more blanks and lines between its words has the same words but for places, and declares the same but for places. Facts of the plain functions: nothing is proved of the program here.
-/
import Derived.Test.YtbfkaanmbdekfaaDoorSmP
import Derived.Test.YtbfkaanmbdekfaaDoorLxE
namespace Go.Proofs.YtbfkaanmbdekfaaDoor
set_option linter.unusedVariables false

section
variable {en en' : Int × Int}
theorem decls_same : ∀ (f f' : Nat) (r r' : Rd) (acc acc' : List Dc), r.m ≤ f → r'.m ≤ f' → Sim [] r r' → DLs acc acc' →
    (declsL en' f' r' acc').2.e = (declsL en f r acc).2.e ∧ ((declsL en f r acc).2.e = 0 → DLs (declsL en f r acc).1 (declsL en' f' r' acc').1) := by
  intro f
  induction f with
  | zero =>
    intro f' r r' acc acc' hm hm' h ha
    have he : ¬ r.e = 0 := by
      intro he
      unfold Rd.m at hm; rw [if_pos he] at hm; omega
    rw [declsL_stop en _ r acc (fun hh => he hh.1), declsL_stop en' _ r' acc' (fun hh => he (by rw [← h.1]; exact hh.1))]
    exact ⟨h.1, fun _ => ha⟩
  | succ f ih =>
    intro f' r r' acc acc' hm hm' h ha
    by_cases he : r.e = 0
    case neg =>
      rw [declsL_stop en _ r acc (fun hh => he hh.1), declsL_stop en' _ r' acc' (fun hh => he (by rw [← h.1]; exact hh.1))]
      exact ⟨h.1, fun _ => ha⟩
    have he' : r'.e = 0 := by rw [h.1]; exact he
    have hk := h.2 he
    rw [List.append_nil] at hk
    by_cases hl : r.l = []
    · have hl' : r'.l = [] := kt_nil (by rw [hk, hl]; rfl)
      rw [declsL_stop en _ r acc (fun hh => hh.2 hl), declsL_stop en' _ r' acc' (fun hh => hh.2 hl')]
      exact ⟨h.1, fun _ => ha⟩
    · have hl' : r'.l ≠ [] := by
        intro e
        rw [e] at hk
        exact hl (kt_nil hk.symm)
      have hv := h.declS (en := en) (en' := en') hl (.inl rfl)
      have hm1 : 1 ≤ r'.m := by unfold Rd.m; rw [if_pos he']; omega
      obtain ⟨f', rfl⟩ : ∃ g, f' = g + 1 := ⟨f' - 1, by omega⟩
      by_cases hz : (declS en r).2.e = 0
      · have m1 := declS_m en r
        have m2 := declS_m en' r'
        have s1 := declsL_step en f r acc ⟨he, hl⟩
        rw [if_pos hz] at s1
        have s2 := declsL_step en' f' r' acc' ⟨he', hl'⟩
        rw [if_pos (by rw [hv.2.1]; exact hz)] at s2
        rw [s1, s2]
        exact ih f' _ _ _ _ (by omega) (by omega) hv.2 (ha.snoc hv.1)
      · have e1 := declsL_err en f r acc ⟨he, hl⟩ hz
        have e2 := declsL_err en' f' r' acc' ⟨he', hl'⟩ (by rw [hv.2.1]; exact hz)
        rw [e1, e2]
        exact ⟨hv.2.1, fun h0 => absurd h0 hz⟩
end
theorem fileW_same (en en' : Int × Int) (ws ws' : List Wd) (hk : kt ws = kt ws') :
    (fileW en' ws').2.2 = (fileW en ws).2.2 ∧ DLs (fileW en ws).1 (fileW en' ws').1 := by
  have h := decls_same (en := en) (en' := en') (ws.length + 1) (ws'.length + 1) ⟨ws, 0, 0, 0⟩ ⟨ws', 0, 0, 0⟩ [] [] (Rd.m_le _) (Rd.m_le _) ⟨rfl, fun _ => by rw [List.append_nil]; exact hk.symm⟩ (fun _ => rfl)
  unfold fileW
  simp only
  by_cases hz : (declsL en (ws.length + 1) ⟨ws, 0, 0, 0⟩ []).2.e = 0
  · rw [if_pos hz, if_pos (by rw [h.1]; exact hz)]
    exact ⟨rfl, h.2 hz⟩
  · rw [if_neg hz, if_neg (by rw [h.1]; exact hz)]
    exact ⟨h.1, fun _ => rfl⟩

/-- the bytes that are widened -/
def spB (b : UInt8) : Bool := b == 32 || b == 123 || b == 59 || b == 125 || b == 61
theorem spB_iff (b : UInt8) : spB b = true ↔ b = 32 ∨ b = 123 ∨ b = 59 ∨ b = 125 ∨ b = 61 := by
  unfold spB; simp [or_assoc]
def wideB (b : UInt8) : List UInt8 := if spB b = true then [32, b, 10, 9] else [b]
def wideL (l : List UInt8) : List UInt8 := l.flatMap wideB
theorem wideL_cons (b : UInt8) (u : List UInt8) : wideL (b :: u) = wideB b ++ wideL u := by unfold wideL; rw [List.flatMap_cons]
theorem wideL_sp {b : UInt8} (u : List UInt8) (h : spB b = true) : wideL (b :: u) = 32 :: b :: 10 :: 9 :: wideL u := by
  rw [wideL_cons]; unfold wideB; rw [if_pos h]; rfl
theorem wideL_len (l : List UInt8) : (wideL l).length ≤ 4 * l.length := by
  induction l with
  | nil => simp [wideL]
  | cons b u ih =>
    rw [wideL_cons, List.length_append, List.length_cons]
    have : (wideB b).length ≤ 4 := by unfold wideB; split <;> simp
    omega
def SpHead (t : List UInt8) : Prop := t = [] ∨ ∃ b u, t = b :: u ∧ spB b = true
theorem sp_split (l : List UInt8) : ∃ a t, l = a ++ t ∧ SpHead t ∧ wideL l = a ++ wideL t := by
  induction l with
  | nil => exact ⟨[], [], rfl, .inl rfl, rfl⟩
  | cons b u ih =>
    by_cases hb : spB b = true
    · exact ⟨[], b :: u, rfl, .inr ⟨b, u, rfl, hb⟩, rfl⟩
    · obtain ⟨a, t, h1, h2, h3⟩ := ih
      refine ⟨b :: a, t, by rw [h1]; rfl, h2, ?_⟩
      rw [wideL_cons, h3]; unfold wideB; rw [if_neg hb]; rfl
theorem sp_ascii {b : UInt8} (h : spB b = true) : b.toNat < 128 := by
  rcases (spB_iff b).1 h with rfl | rfl | rfl | rfl | rfl <;> decide
theorem sp_stop {t : List UInt8} (h : SpHead t) : Stop t ∧ Ends t := by
  rcases h with rfl | ⟨b, u, rfl, hb⟩
  · exact ⟨.inl rfl, .inl rfl⟩
  · refine ⟨.inr ⟨b, u, rfl, sp_ascii hb⟩, .inr ?_⟩
    rw [nx_ascii b u (sp_ascii hb)]
    rcases (spB_iff b).1 hb with rfl | rfl | rfl | rfl | rfl <;> decide
theorem sp_stop_wide {t : List UInt8} (h : SpHead t) : Stop (wideL t) ∧ Ends (wideL t) := by
  rcases h with rfl | ⟨b, u, rfl, hb⟩
  · exact ⟨.inl rfl, .inl rfl⟩
  · rw [wideL_sp u hb]
    refine ⟨.inr ⟨32, _, rfl, by decide⟩, .inr ?_⟩
    rw [nx_ascii 32 _ (by decide)]
    decide
theorem nx_no47 {a : List UInt8} (h : a ≠ []) (h47 : ∀ b ∈ a, b ≠ 47) : (nx a).1 ≠ 47 := by
  cases a with
  | nil => exact absurd rfl h
  | cons b u =>
    by_cases hb : b.toNat < 128
    · rw [nx_ascii b u hb]
      intro e
      refine h47 b (by simp) (UInt8.toNat_inj.1 ?_)
      show b.toNat = 47
      have e' : (b.toNat : Int) = 47 := e
      omega
    · rcases nx_high b u (by omega) with e | e
      · rw [e]; decide
      · omega
theorem sign_head {b : UInt8} (u : List UInt8) (h : b = 123 ∨ b = 59 ∨ b = 125 ∨ b = 61) : begins (b :: u) ∧ headW (b :: u) = (3, 1, 1) ∧ ∀ t, rightL 3 t (nx (b :: u)).1 = true := by
  have hn : nx (b :: u) = ((b.toNat : Int), 1) := nx_ascii b u (by rcases h with rfl | rfl | rfl | rfl <;> decide)
  unfold begins headW rightL
  rw [hn]
  rcases h with rfl | rfl | rfl | rfl
  all_goals
    refine ⟨⟨by simp, by decide, by decide, by decide, fun hh => absurd hh.1 (by decide)⟩, ?_, fun t => ?_⟩
    · rw [if_neg (by decide), if_neg (by decide)]
    · rw [if_neg (by decide), if_neg (by decide)]; decide
theorem lex_gap (g : Nat) (l : List UInt8) (line col : Nat) (acc : List Wd) : ∃ l2 c2, lexL (g + 2) (10 :: 9 :: l) line col acc = lexL g l l2 c2 acc := by
  refine ⟨line + 1, 1 + 1, ?_⟩
  rw [lexL_feed (g + 1) (10 :: 9 :: l) _ _ _ (by simp) (by rw [nx_ascii 10 _ (by decide)]; rfl)]
  show lexL (g + 1) (9 :: l) _ _ _ = _
  rw [lexL_blank g (9 :: l) _ _ _ (by simp) (by rw [nx_ascii 9 _ (by decide)]; exact .inr rfl)]
  rfl
theorem lex_wide : ∀ (f : Nat) (a t : List UInt8) (g line col line' col' : Nat) (acc acc' : List Wd), (a ++ t).length ≤ f → (a ++ wideL t).length ≤ g → (∀ b ∈ a ++ t, b ≠ 47) → SpHead t → kt acc = kt acc' →
    kt (lexL f (a ++ t) line col acc).1 = kt (lexL g (a ++ wideL t) line' col' acc').1 ∧ (lexL f (a ++ t) line col acc).2.2 = (lexL g (a ++ wideL t) line' col' acc').2.2 := by
  intro f
  induction f with
  | zero =>
    intro a t g line col line' col' acc acc' hf hg h47 hsp hk
    have h0 : a ++ t = [] := List.eq_nil_of_length_eq_zero (by omega)
    obtain ⟨rfl, rfl⟩ := List.append_eq_nil_iff.1 h0
    have hw : wideL [] = [] := rfl
    rw [hw, List.append_nil, lexL_end, lexL_end]
    exact ⟨hk, rfl⟩
  | succ f ih =>
    intro a t g line col line' col' acc acc' hf hg h47 hsp hk
    have hlen : acc.length = acc'.length := by rw [← kt_len, ← kt_len, hk]
    by_cases ha : a = []
    · subst ha
      rcases hsp with rfl | ⟨b, u, rfl, hb⟩
      · have hw : wideL [] = [] := rfl
        rw [hw, List.append_nil, lexL_end, lexL_end]
        exact ⟨hk, rfl⟩
      · rw [wideL_sp u hb] at hg ⊢
        rw [List.nil_append] at hf hg h47 ⊢
        rw [List.nil_append]
        obtain ⟨a2, t2, e2, hs2, hw2⟩ := sp_split u
        simp only [List.length_cons] at hf hg
        obtain ⟨g, rfl⟩ : ∃ g', g = g' + 4 := ⟨g - 4, by omega⟩
        have go : ∀ (l2 c2 l3 c3 : Nat) (x y : List Wd), kt x = kt y → kt (lexL f u l2 c2 x).1 = kt (lexL g (wideL u) l3 c3 y).1 ∧ (lexL f u l2 c2 x).2.2 = (lexL g (wideL u) l3 c3 y).2.2 := fun l2 c2 l3 c3 x y hxy => by
          have hz : (wideL u).length ≤ g := by omega
          have hy : u.length ≤ f := by omega
          have h7 : ∀ b ∈ u, b ≠ 47 := fun c hc => h47 c (List.mem_cons_of_mem _ hc)
          rw [hw2] at hz ⊢
          rw [e2] at hy h7
          have := ih a2 t2 g l2 c2 l3 c3 x y hy hz h7 hs2 hxy
          rw [← e2] at this
          exact this
        rw [lexL_blank (g + 3) (32 :: b :: 10 :: 9 :: wideL u) _ _ _ (by simp) (by rw [nx_ascii 32 _ (by decide)]; exact .inl rfl)]
        show _ = kt (lexL (g + 3) (b :: 10 :: 9 :: wideL u) _ _ _).1 ∧ _ = (lexL (g + 3) (b :: 10 :: 9 :: wideL u) _ _ _).2.2
        by_cases h32 : b = 32
        · subst h32
          rw [lexL_blank f (32 :: u) _ _ _ (by simp) (by rw [nx_ascii 32 _ (by decide)]; exact .inl rfl), lexL_blank (g + 2) (32 :: 10 :: 9 :: wideL u) _ _ _ (by simp) (by rw [nx_ascii 32 _ (by decide)]; exact .inl rfl)]
          show kt (lexL f u _ _ _).1 = kt (lexL (g + 2) (10 :: 9 :: wideL u) _ _ _).1 ∧ (lexL f u _ _ _).2.2 = (lexL (g + 2) (10 :: 9 :: wideL u) _ _ _).2.2
          obtain ⟨l2, c2, e⟩ := lex_gap g (wideL u) line' (col' + 1 + 1) acc'
          rw [e]
          exact go _ _ _ _ _ _ hk
        · have hsg : b = 123 ∨ b = 59 ∨ b = 125 ∨ b = 61 := by
            rcases (spB_iff b).1 hb with h | h
            · exact absurd h h32
            · exact h
          obtain ⟨p1, p2, p3⟩ := sign_head u hsg
          obtain ⟨q1, q2, q3⟩ := sign_head (10 :: 9 :: wideL u) hsg
          rw [lexL_word f _ _ _ _ p1, lexL_word (g + 2) _ _ _ _ q1, p2, q2]
          simp only [p3, q3]
          have tf : ¬ (true = false) := by decide
          rw [if_neg tf, if_neg tf, hlen]
          by_cases c2 : acc'.length = 4000
          · rw [if_pos c2, if_pos c2]; exact ⟨rfl, rfl⟩
          · rw [if_neg c2, if_neg c2]
            show kt (lexL f u _ _ _).1 = kt (lexL (g + 2) (10 :: 9 :: wideL u) _ _ _).1 ∧ (lexL f u _ _ _).2.2 = (lexL (g + 2) (10 :: 9 :: wideL u) _ _ _).2.2
            obtain ⟨l2, c3, e⟩ := lex_gap g (wideL u) line' (col' + 1 + 1) (acc' ++ [⟨3, (b :: 10 :: 9 :: wideL u).take 1, line', col' + 1⟩])
            rw [e]
            refine go _ _ _ _ _ _ ?_
            unfold kt at hk ⊢
            rw [List.map_append, List.map_append, hk]
            rfl
    · have hp := List.length_pos_iff.2 ha
      have hst := sp_stop hsp
      have hsw := sp_stop_wide hsp
      obtain ⟨n1, n2⟩ := nx_stop a t ha hst.1
      obtain ⟨n3, _⟩ := nx_stop a (wideL t) ha hsw.1
      have nw := nx_width a ha
      have h7 := nx_no47 ha (fun b hb => h47 b (List.mem_append_left _ hb))
      have hne : a ++ t ≠ [] := fun e => ha (List.append_eq_nil_iff.1 e).1
      have hne' : a ++ wideL t ≠ [] := fun e => ha (List.append_eq_nil_iff.1 e).1
      rw [List.length_append] at hf hg
      obtain ⟨g, rfl⟩ : ∃ g', g = g' + 1 := ⟨g - 1, by omega⟩
      have go : ∀ (k l2 c2 l3 c3 : Nat) (x y : List Wd), 1 ≤ k → k ≤ a.length → kt x = kt y → kt (lexL f ((a ++ t).drop k) l2 c2 x).1 = kt (lexL g ((a ++ wideL t).drop k) l3 c3 y).1 ∧ (lexL f ((a ++ t).drop k) l2 c2 x).2.2 = (lexL g ((a ++ wideL t).drop k) l3 c3 y).2.2 := fun k l2 c2 l3 c3 x y k1 k2 hxy => by
        rw [List.drop_append_of_le_length k2, List.drop_append_of_le_length k2]
        exact ih (a.drop k) t g l2 c2 l3 c3 x y (by rw [List.length_append, List.length_drop]; omega) (by rw [List.length_append, List.length_drop]; omega)
          (fun b hb => h47 b (by
            rcases List.mem_append.1 hb with hb | hb
            · exact List.mem_append_left _ (List.mem_of_mem_drop hb)
            · exact List.mem_append_right _ hb)) hsp hxy
      by_cases h10 : (nx a).1 = 10
      · rw [lexL_feed f _ _ _ _ hne (by rw [n1]; exact h10), lexL_feed g _ _ _ _ hne' (by rw [n3]; exact h10)]
        exact go 1 _ _ _ _ _ _ (by omega) (by omega) hk
      · by_cases hb : (nx a).1 = 32 ∨ (nx a).1 = 9
        · rw [lexL_blank f _ _ _ _ hne (by rw [n1]; exact hb), lexL_blank g _ _ _ _ hne' (by rw [n3]; exact hb)]
          exact go 1 _ _ _ _ _ _ (by omega) (by omega) hk
        · have hbg : begins (a ++ t) := ⟨hne, by rw [n1]; exact h10, by rw [n1]; exact fun h => hb (.inl h), by rw [n1]; exact fun h => hb (.inr h), by rw [n1]; exact fun h => h7 h.1⟩
          have hbg' : begins (a ++ wideL t) := ⟨hne', by rw [n3]; exact h10, by rw [n3]; exact fun h => hb (.inl h), by rw [n3]; exact fun h => hb (.inr h), by rw [n3]; exact fun h => h7 h.1⟩
          have hbd := headW_bd a ha
          rw [lexL_word f _ _ _ _ hbg, lexL_word g _ _ _ _ hbg', head_stop a t ha hst.1 hst.2, head_stop a (wideL t) ha hsw.1 hsw.2, n1, n3, List.take_append_of_le_length hbd.2.1, List.take_append_of_le_length hbd.2.1, hlen]
          by_cases c1 : rightL (headW a).1 (a.take (headW a).2.1) (nx a).1 = false
          · rw [if_pos c1, if_pos c1]; exact ⟨rfl, rfl⟩
          · rw [if_neg c1, if_neg c1]
            by_cases c2 : acc'.length = 4000
            · rw [if_pos c2, if_pos c2]; exact ⟨rfl, rfl⟩
            · rw [if_neg c2, if_neg c2]
              refine go _ _ _ _ _ _ _ hbd.1 hbd.2.1 ?_
              unfold kt at hk ⊢
              rw [List.map_append, List.map_append, hk]
              rfl
theorem words_wide (s : List UInt8) (hs : s.length ≤ 5000) (h47 : ∀ b ∈ s, b ≠ 47) : kt (wordsL s).1 = kt (wordsL (wideL s)).1 ∧ (wordsL s).2.2 = (wordsL (wideL s)).2.2 := by
  have hl := wideL_len s
  unfold wordsL
  rw [if_neg (by omega), if_neg (by omega)]
  obtain ⟨a, t, e, h2, h3⟩ := sp_split s
  have := lex_wide s.length a t (wideL s).length 1 1 1 1 [] [] (by rw [← e]; exact Nat.le_refl _) (by rw [← h3]; exact Nat.le_refl _) (by rw [← e]; exact h47) h2 rfl
  rw [← e, ← h3] at this
  exact this
/-- more blanks and lines between the words -/
theorem file_wide (s : List UInt8) (hs : s.length ≤ 5000) (h47 : ∀ b ∈ s, b ≠ 47) : (fileL (wideL s)).2.2 = (fileL s).2.2 ∧ DLs (fileL s).1 (fileL (wideL s)).1 := by
  obtain ⟨hk, he⟩ := words_wide s hs h47
  unfold fileL
  rw [← he]
  by_cases hz : (wordsL s).2.2 = 0
  · rw [if_pos hz, if_pos hz]
    exact fileW_same _ _ _ _ hk
  · rw [if_neg hz, if_neg hz]
    exact ⟨rfl, fun _ => rfl⟩
end Go.Proofs.YtbfkaanmbdekfaaDoor
