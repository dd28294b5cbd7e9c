/-
  What is written of the words, a blank behind each, has the same words. Nothing is proved of the program here.
-/
import Derived.Test.YtbfkaanmbdekfaaDoorLxS
namespace Go.Proofs.YtbfkaanmbdekfaaDoor
set_option linter.unusedVariables false

/-! what is read as a small rune is its bytes -/
theorem get_cons (l : List UInt8) (k : Nat) (x : UInt8) (h : l[k]? = some x) : (ByteArray.mk l.toArray).get! (0 + k) = x := by
  rw [Nat.zero_add]
  show l.toArray[k]! = x
  rw [getElem!_def]
  simp [h]
theorem dec_enc (l : List UInt8) (h : l ≠ []) (hc : (Lib.decodeL l).1 ≤ 2047) : l = Lib.encodeRune ((Lib.decodeL l).1 : Int) ++ l.drop (Lib.decodeL l).2 := by
  cases l with
  | nil => exact absurd rfl h
  | cons b0 t =>
    have g0 := get_cons (b0 :: t) 0 b0 rfl
    have hb0 := b0.toNat_lt
    by_cases h128 : b0.toNat < 128
    · rw [Lib.decodeL_ascii b0 t h128, enc_small _ (by omega) (by omega)]
      simp
    · unfold Lib.decodeL at hc ⊢
      rw [decode_dec4, g0] at hc ⊢
      unfold dec4 at hc ⊢
      rw [if_neg h128] at hc ⊢
      by_cases c6 : (b0.toNat / 32 == 6 && contA ⟨(b0 :: t).toArray⟩ 1) = true
      · rw [if_pos c6] at hc ⊢
        simp only [Bool.and_eq_true, beq_iff_eq] at c6
        obtain ⟨c6a, c6b⟩ := c6
        unfold contA at c6b
        simp only [Bool.and_eq_true, decide_eq_true_iff, beq_iff_eq] at c6b
        obtain ⟨hsz, hb1⟩ := c6b
        have hsz' : 1 < (b0 :: t).length := by
          have : (ByteArray.mk (b0 :: t).toArray).size = (b0 :: t).length := by show (b0 :: t).toArray.size = _; simp
          omega
        cases t with
        | nil => simp at hsz'
        | cons b1 t =>
          have g1 := get_cons (b0 :: b1 :: t) 1 b1 rfl
          rw [g1] at hb1 hc ⊢
          have hb1' := b1.toNat_lt
          by_cases c128 : b0.toNat % 32 * 64 + b1.toNat % 64 ≥ 128
          · rw [if_pos c128]
            simp only
            rw [enc_two _ (by omega) (by omega)]
            have e0 : (192 + ((b0.toNat % 32 * 64 + b1.toNat % 64 : Nat) : Int) / 64).toNat = b0.toNat := by omega
            have e1 : (128 + ((b0.toNat % 32 * 64 + b1.toNat % 64 : Nat) : Int) % 64).toNat = b1.toNat := by omega
            rw [e0, e1]
            simp
          · rw [if_neg c128] at hc
            simp at hc
      · rw [if_neg c6] at hc
        exfalso
        revert hc
        repeat' split
        all_goals
          simp_all
        all_goals omega
theorem rns_bytes (s : ByteArray) (hL : s.data.toList.length = s.size) : ∀ (b pos : Nat), s.size ≤ pos + b → (∀ r ∈ rns s b pos, r ≤ 2047) → s.data.toList.drop pos = encL (rns s b pos)
  | 0, pos, hb, _ => by
    rw [List.drop_eq_nil_of_le (by omega)]; rfl
  | b + 1, pos, hb, h => by
    by_cases hp : pos < s.size
    · rw [rns_step s b pos hp] at h ⊢
      have hne : s.data.toList.drop pos ≠ [] := by
        intro e; have := congrArg List.length e; rw [List.length_drop, List.length_nil] at this; omega
      have hd := Lib.decodeL_drop s pos
      have h0 := h _ List.mem_cons_self
      have h1 := dec_enc _ hne (by rw [hd]; omega)
      rw [hd, List.drop_drop] at h1
      rw [encL_cons, ← rns_bytes s hL b (pos + (Utf8.decode s pos).2) (by have := width_pos s pos hp; omega) (fun r hr => h r (List.mem_cons_of_mem _ hr))]
      exact h1
    · rw [rns_end s _ pos hp, List.drop_eq_nil_of_le (by omega)]; rfl
theorem name_bytes (t : List UInt8) (h : nameOf (runes ⟨t.toArray⟩) = true) : t = encL (runes ⟨t.toArray⟩) := by
  have hs : (ByteArray.mk t.toArray).size = t.length := by show t.toArray.size = _; simp
  have := rns_bytes ⟨t.toArray⟩ (by simp [hs]) (ByteArray.mk t.toArray).size 0 (by omega) (fun r hr => (two_of_name (name_all h r hr)).2)
  simpa [runes] using this

/-- a word as it stands alone -/
def WordOK (x : Wd) : Prop :=
  (x.kind = 1 ∧ ∃ rs, x.text = encL rs ∧ nameOf rs = true) ∨
  (x.kind = 2 ∧ (∃ rs, x.text = encL rs ∧ rs ≠ [] ∧ ∀ r ∈ rs, isDigit r = true) ∧ (x.text.all isDig && numL x.text) = true) ∨
  (x.kind = 3 ∧ ∃ b : UInt8, x.text = [b] ∧ b.toNat < 128 ∧ signR (b.toNat : Int) = true)
theorem digits_enc : ∀ t : List UInt8, t.all isDig = true → t = encL (t.map fun b => (b.toNat : Int)) ∧ ∀ r ∈ t.map (fun b => (b.toNat : Int)), isDigit r = true
  | [], _ => ⟨rfl, by simp⟩
  | b :: t, h => by
    rw [List.all_cons, Bool.and_eq_true] at h
    obtain ⟨h1, h2⟩ := h
    unfold isDig at h1
    rw [decide_eq_true_iff] at h1
    obtain ⟨i1, i2⟩ := digits_enc t h2
    refine ⟨?_, ?_⟩
    · rw [List.map_cons, encL_cons, ← i1, enc_small _ (by omega) (by omega)]
      simp
    · intro r hr
      rw [List.map_cons] at hr
      rcases List.mem_cons.1 hr with rfl | hr
      · unfold isDigit; rw [decide_eq_true_iff]; omega
      · exact i2 r hr
theorem word_ok (l : List UInt8) (h0 : l ≠ []) (line col : Nat) (h : ¬ rightL (headW l).1 (l.take (headW l).2.1) (nx l).1 = false) : WordOK ⟨(headW l).1, l.take (headW l).2.1, line, col⟩ := by
  have hb := headW_bd l h0
  have ht : l.take (headW l).2.1 ≠ [] := by
    intro e; have := congrArg List.length e; rw [List.length_take, List.length_nil] at this; omega
  rw [Bool.not_eq_false] at h
  rcases hb.2.2.2 with hk | hk | hk
  · rw [hk] at h ⊢
    unfold rightL at h
    rw [if_pos rfl] at h
    exact .inl ⟨rfl, _, name_bytes _ h, h⟩
  · rw [hk] at h ⊢
    unfold rightL at h
    rw [if_neg (by decide), if_pos rfl] at h
    have hd := (Bool.and_eq_true _ _ ▸ h).1
    obtain ⟨d1, d2⟩ := digits_enc _ hd
    exact .inr (.inl ⟨rfl, ⟨_, d1, by simpa using ht, d2⟩, h⟩)
  · have hn : (headW l).2.1 = (nx l).2 := by
      unfold headW at hk ⊢
      split at hk
      · exact absurd hk (by show ¬ (1 : Int) = 3; decide)
      · split at hk
        · exact absurd hk (by show ¬ (2 : Int) = 3; decide)
        · rename_i a b
          rw [if_neg a, if_neg b]
    rw [hk, hn] at h ⊢
    unfold rightL at h
    rw [if_neg (by decide), if_neg (by decide)] at h
    refine .inr (.inr ⟨rfl, ?_⟩)
    cases l with
    | nil => exact absurd rfl h0
    | cons b t =>
      by_cases hb128 : b.toNat < 128
      · rw [nx_ascii b t hb128] at h ⊢
        exact ⟨b, rfl, hb128, h⟩
      · exfalso
        unfold signR at h
        rw [decide_eq_true_iff] at h
        rcases nx_high b t (by omega) with e | e <;> omega
theorem lexL_ok : ∀ (f : Nat) (l : List UInt8) (line col : Nat) (acc : List Wd), (∀ x ∈ acc, WordOK x) → ∀ x ∈ (lexL f l line col acc).1, WordOK x
  | 0, l, line, col, acc, h => h
  | f + 1, l, line, col, acc, h => by
    by_cases h0 : l = []
    · subst h0; rw [lexL_end]; exact h
    · by_cases h10 : (nx l).1 = 10
      · rw [lexL_feed f l _ _ _ h0 h10]; exact lexL_ok f _ _ _ _ h
      · by_cases hb : (nx l).1 = 32 ∨ (nx l).1 = 9
        · rw [lexL_blank f l _ _ _ h0 hb]; exact lexL_ok f _ _ _ _ h
        · by_cases hr : (nx l).1 = 47 ∧ l[1]? = some 47
          · rw [lexL_remark f l _ _ _ h0 hr.1 hr.2]; exact lexL_ok f _ _ _ _ h
          · rw [lexL_word f l _ _ _ ⟨h0, h10, fun h => hb (.inl h), fun h => hb (.inr h), hr⟩]
            by_cases c1 : rightL (headW l).1 (l.take (headW l).2.1) (nx l).1 = false
            · rw [if_pos c1]; simp
            · rw [if_neg c1]
              by_cases c2 : acc.length = 4000
              · rw [if_pos c2]; simp
              · rw [if_neg c2]
                refine lexL_ok f _ _ _ _ ?_
                intro x hx
                rcases List.mem_append.1 hx with hx | hx
                · exact h x hx
                · have : x = ⟨(headW l).1, l.take (headW l).2.1, line, col⟩ := by simpa using hx
                  subst this
                  exact word_ok l h0 line col c1
/-! read again -/
theorem nx_enc (r : Int) (t : List UInt8) (h : two r) : nx (Lib.encodeRune r ++ t) = (r, (Lib.encodeRune r).length) := by
  have hl := enc_len r
  have hd := decode_enc [] t r h
  have e : Lib.decodeL (Lib.encodeRune r ++ t) = (r.toNat, (Lib.encodeRune r).length) := by
    unfold Lib.decodeL; simpa using hd
  have hne : Lib.encodeRune r ++ t ≠ [] := by
    intro e; have := congrArg List.length e; rw [List.length_append, List.length_nil] at this; omega
  obtain ⟨h0, h1⟩ := h
  unfold nx
  rw [if_neg hne, e, if_neg (by simp only; omega)]
  simp only
  congr 1
  omega
theorem runL_stop32 (f : Nat) (y : List UInt8) : runL f (32 :: y) = (0, 0) := by
  cases f with
  | zero => rfl
  | succ f =>
    rw [runL, if_neg]
    rintro ⟨_, hh⟩
    rw [nx_ascii _ _ (by decide)] at hh
    exact absurd hh (by decide)
theorem runL_enc : ∀ (rs : List Int) (y : List UInt8) (f : Nat), (∀ r ∈ rs, nameRune r = true) → (encL rs).length ≤ f → runL f (encL rs ++ 32 :: y) = ((encL rs).length, rs.length)
  | [], y, f, _, _ => by
    have : encL [] ++ 32 :: y = 32 :: y := rfl
    rw [this, runL_stop32 f y]; rfl
  | r :: rs, y, f, h, hf => by
    have hr := h r List.mem_cons_self
    have hl := enc_len r
    have ht := two_of_name hr
    rw [encL_cons] at hf ⊢
    rw [List.length_append] at hf
    obtain ⟨f, rfl⟩ : ∃ f', f = f' + 1 := ⟨f - 1, by omega⟩
    have hx := nx_enc r (encL rs ++ 32 :: y) ht
    rw [List.append_assoc]
    have hne : Lib.encodeRune r ++ (encL rs ++ 32 :: y) ≠ [] := by
      intro e; have := congrArg List.length e; rw [List.length_append, List.length_nil] at this; omega
    rw [runL, if_pos ⟨hne, by rw [hx]; exact hr⟩, hx]
    simp only
    rw [List.drop_left, runL_enc rs y f (fun x hx => h x (List.mem_cons_of_mem _ hx)) (by omega)]
    simp
/-- what is written of words -/
def flat (ws : List Wd) : List UInt8 := ws.flatMap fun x => x.text ++ [32]
theorem flat_cons (x : Wd) (ws : List Wd) : flat (x :: ws) = x.text ++ 32 :: flat ws := by simp [flat]
/-- a word with a blank behind it is read as it is -/
theorem read_word (x : Wd) (y : List UInt8) (h : WordOK x) : begins (x.text ++ 32 :: y) ∧ (headW (x.text ++ 32 :: y)).1 = x.kind ∧ (headW (x.text ++ 32 :: y)).2.1 = x.text.length ∧ rightL x.kind x.text (nx (x.text ++ 32 :: y)).1 = true := by
  have hne : x.text ++ 32 :: y ≠ [] := by simp
  rcases h with ⟨hk, rs, ht, hn⟩ | ⟨hk, ⟨rs, ht, hn, hd⟩, hr⟩ | ⟨hk, b, ht, hb, hs⟩
  · have hall := name_all hn
    cases rs with
    | nil => simp [nameOf] at hn
    | cons r rs =>
      have hL : isLetter r = true := by
        unfold nameOf at hn; simp only [Bool.and_eq_true, List.headD_cons] at hn; exact hn.1.2
      have htw := two_of_name (hall r List.mem_cons_self)
      have hx : nx (x.text ++ 32 :: y) = (r, (Lib.encodeRune r).length) := by
        rw [ht, encL_cons, List.append_assoc]; exact nx_enc r _ htw
      have hrun : runL (x.text ++ 32 :: y).length (x.text ++ 32 :: y) = (x.text.length, (r :: rs).length) := by
        rw [ht]; exact runL_enc _ _ _ hall (by simp)
      have hLr : (97 ≤ r ∧ r ≤ 122) ∨ (65 ≤ r ∧ r ≤ 90) ∨ (913 ≤ r ∧ r ≤ 969) := by unfold isLetter at hL; rwa [decide_eq_true_iff] at hL
      have hhw : headW (x.text ++ 32 :: y) = (1, x.text.length, (r :: rs).length) := by
        unfold headW; rw [hx, if_pos hL, hrun]
      refine ⟨⟨hne, by rw [hx]; show r ≠ 10; omega, by rw [hx]; show r ≠ 32; omega, by rw [hx]; show r ≠ 9; omega, by rw [hx]; rintro ⟨e, _⟩; have e : r = 47 := e; omega⟩, by rw [hhw, hk], by rw [hhw], ?_⟩
      rw [hk]; unfold rightL
      rw [if_pos rfl, ht, runes_enc _ (fun z hz => two_of_name (hall z hz))]
      exact hn
  · have hall : ∀ r ∈ rs, nameRune r = true := fun r hr => by unfold nameRune; rw [hd r hr]; simp
    cases rs with
    | nil => exact absurd rfl hn
    | cons r rs =>
      have hD := hd r List.mem_cons_self
      have hDr : 48 ≤ r ∧ r ≤ 57 := by unfold isDigit at hD; rwa [decide_eq_true_iff] at hD
      have hL : ¬ isLetter r = true := by unfold isLetter; rw [decide_eq_true_iff]; omega
      have htw := two_of_name (hall r List.mem_cons_self)
      have hx : nx (x.text ++ 32 :: y) = (r, (Lib.encodeRune r).length) := by
        rw [ht, encL_cons, List.append_assoc]; exact nx_enc r _ htw
      have hrun : runL (x.text ++ 32 :: y).length (x.text ++ 32 :: y) = (x.text.length, (r :: rs).length) := by
        rw [ht]; exact runL_enc _ _ _ hall (by simp)
      have hhw : headW (x.text ++ 32 :: y) = (2, x.text.length, (r :: rs).length) := by
        unfold headW; rw [hx, if_neg hL, if_pos hD, hrun]
      refine ⟨⟨hne, by rw [hx]; show r ≠ 10; omega, by rw [hx]; show r ≠ 32; omega, by rw [hx]; show r ≠ 9; omega, by rw [hx]; rintro ⟨e, _⟩; have e : r = 47 := e; omega⟩, by rw [hhw, hk], by rw [hhw], ?_⟩
      rw [hk]; unfold rightL
      rw [if_neg (by decide), if_pos rfl]; exact hr
  · have hx : nx (x.text ++ 32 :: y) = ((b.toNat : Int), 1) := by rw [ht]; exact nx_ascii b _ hb
    have hsr : (b.toNat : Int) = 123 ∨ (b.toNat : Int) = 125 ∨ (b.toNat : Int) = 40 ∨ (b.toNat : Int) = 41 ∨ (b.toNat : Int) = 61 ∨ (b.toNat : Int) = 59 ∨ (b.toNat : Int) = 46 := by unfold signR at hs; rwa [decide_eq_true_iff] at hs
    have hL : ¬ isLetter (b.toNat : Int) = true := by unfold isLetter; rw [decide_eq_true_iff]; omega
    have hD : ¬ isDigit (b.toNat : Int) = true := by unfold isDigit; rw [decide_eq_true_iff]; omega
    have hhw : headW (x.text ++ 32 :: y) = (3, 1, 1) := by
      unfold headW; rw [hx, if_neg hL, if_neg hD]
    refine ⟨⟨hne, by rw [hx]; show (b.toNat : Int) ≠ 10; omega, by rw [hx]; show (b.toNat : Int) ≠ 32; omega, by rw [hx]; show (b.toNat : Int) ≠ 9; omega, by rw [hx]; rintro ⟨e, _⟩; have e : (b.toNat : Int) = 47 := e; omega⟩, by rw [hhw, hk], by rw [hhw, ht]; rfl, ?_⟩
    rw [hk, hx]; unfold rightL
    rw [if_neg (by decide), if_neg (by decide)]; exact hs
theorem lexL_again : ∀ (ws : List Wd) (f line col : Nat) (acc : List Wd), (∀ x ∈ ws, WordOK x) → (flat ws).length ≤ f → acc.length + ws.length ≤ 4000 →
    ∃ out, lexL f (flat ws) line col acc = (acc ++ out, (0, 0), 0) ∧ kt out = kt ws
  | [], f, line, col, acc, _, _, _ => ⟨[], by rw [show flat [] = [] from rfl, lexL_end, List.append_nil], rfl⟩
  | x :: ws, f, line, col, acc, h, hf, hc => by
    have hx := h x List.mem_cons_self
    obtain ⟨hbg, h1, h2, h3⟩ := read_word x (flat ws) hx
    rw [flat_cons] at hf ⊢
    rw [List.length_append, List.length_cons] at hf
    rw [List.length_cons] at hc
    have hp : 1 ≤ x.text.length := by
      have := (headW_bd _ hbg.1).1; rw [h2] at this; exact this
    obtain ⟨f, rfl⟩ : ∃ f', f = f' + 2 := ⟨f - 2, by omega⟩
    rw [show f + 2 = (f + 1) + 1 from rfl, lexL_word _ _ _ _ _ hbg, h1, h2, List.take_left, h3, if_neg (by decide), if_neg (by omega), List.drop_left]
    rw [lexL_blank f _ _ _ _ (by simp) (by rw [nx_ascii _ _ (by decide)]; exact .inl rfl)]
    show ∃ out, lexL f (flat ws) _ _ _ = _ ∧ _
    obtain ⟨out, e1, e2⟩ := lexL_again ws f line (col + (headW (x.text ++ 32 :: flat ws)).2.2 + 1) (acc ++ [⟨x.kind, x.text, line, col⟩]) (fun z hz => h z (List.mem_cons_of_mem _ hz)) (by omega) (by simp; omega)
    refine ⟨⟨x.kind, x.text, line, col⟩ :: out, ?_, ?_⟩
    · rw [e1]; simp
    · unfold kt at e2 ⊢; rw [List.map_cons, List.map_cons, e2]
/-- what is written of the words has the same words -/
theorem words_again (l : List UInt8) : (20000 < (flat (wordsL l).1).length → (wordsL (flat (wordsL l).1)).2.2 = 4) ∧
    (¬ 20000 < (flat (wordsL l).1).length → (wordsL (flat (wordsL l).1)).2.2 = 0 ∧ kt (wordsL (flat (wordsL l).1)).1 = kt (wordsL l).1) := by
  have hok : ∀ x ∈ (wordsL l).1, WordOK x := by
    unfold wordsL
    split
    · simp
    · exact lexL_ok _ _ _ _ _ (by simp)
  have hct : (wordsL l).1.length ≤ 4000 := by
    unfold wordsL
    split
    · simp
    · exact lexL_count _ _ _ _ _ (by simp)
  generalize (wordsL l).1 = ws at *
  refine ⟨fun h => ?_, fun h => ?_⟩
  · unfold wordsL; rw [if_pos h]
  · unfold wordsL; rw [if_neg h]
    obtain ⟨out, e1, e2⟩ := lexL_again ws (flat ws).length 1 1 [] hok (Nat.le_refl _) (by simpa using hct)
    rw [e1]
    exact ⟨rfl, by simpa using e2⟩
end Go.Proofs.YtbfkaanmbdekfaaDoor
