/-
  Two readers whose words are alike but for places: messages, and whole texts; what two texts declare, one with both declares. Facts of the plain functions: nothing is proved of the program here.
-/
import Derived.Test.YtbfkaanmbdekfaaDoorSmN
import Derived.Test.YtbfkaanmbdekfaaDoorDpD
import Derived.Test.YtbfkaanmbdekfaaDoorLxE
import Derived.Test.YtbfkaanmbdekfaaDoorStD
namespace Go.Proofs.YtbfkaanmbdekfaaDoor
set_option linter.unusedVariables false

section
variable {x : List (Int × List UInt8)} {en en' : Int × Int}
theorem message_deep {k depth : Nat} {r : Rd} (hd : 8 < depth) (he : r.e = 0) : messageL en (k + 1) depth r = (⟨1, [], 0, 0, [], [], [], []⟩, r.fail 8 (r.here en)) := by
  have hre := Rd.fail_e r 8 (r.here en) (by decide)
  rw [messageL, if_pos hd]
  rw [Rd.take_stay en hre, Rd.name_stay en hre, Rd.take_stay en hre, bodyL_stop en _ _ _ _ _ (fun hh => hre hh.1), Rd.take_stay en hre]
  unfold Rd.nameT Rd.nameP
  rw [Rd.isName_off hre, if_neg (by decide), if_neg (by decide)]
theorem message_err {k depth : Nat} {r : Rd} (he : r.e ≠ 0) : messageL en (k + 1) depth r = (⟨1, [], 0, 0, [], [], [], []⟩, r) := by
  have h0 : (if 8 < depth then r.fail 8 (r.here en) else r) = r := by
    split
    · exact Rd.fail_stay he _ _
    · rfl
  rw [messageL, h0]
  rw [Rd.take_stay en he, Rd.name_stay en he, Rd.take_stay en he, bodyL_stop en _ _ _ _ _ (fun hh => he hh.1), Rd.take_stay en he]
  unfold Rd.nameT Rd.nameP
  rw [Rd.isName_off he, if_neg (by decide), if_neg (by decide)]
theorem Sim.messageL : ∀ (k depth : Nat), depth + k = 9 → ∀ (r r' : Rd), Sim x r r' → (x = [] ∨ (messageL en (k + 1) depth r).2.e = 0) →
    DE (messageL en (k + 1) depth r).1 (messageL en' (k + 1) depth r').1 ∧ Sim x (messageL en (k + 1) depth r).2 (messageL en' (k + 1) depth r').2 := by
  intro k
  induction k with
  | zero =>
    intro depth hk r r' h ho
    by_cases he : r.e = 0
    · have he' : r'.e = 0 := by rw [h.1]; exact he
      rw [message_deep (by omega) he, message_deep (by omega) he']
      exact ⟨fun _ => rfl, h.fail 8 (by decide) _ _⟩
    · have he' : r'.e ≠ 0 := by rw [h.1]; exact he
      rw [message_err he, message_err he']
      exact ⟨fun _ => rfl, h⟩
  | succ k ih =>
    intro depth hk r r' h ho
    rw [Go.Proofs.YtbfkaanmbdekfaaDoor.messageL, if_neg (by omega)] at ho
    rw [Go.Proofs.YtbfkaanmbdekfaaDoor.messageL, if_neg (by omega), Go.Proofs.YtbfkaanmbdekfaaDoor.messageL, if_neg (by omega)]
    simp only at ho ⊢
    obtain ⟨r3, h3⟩ : ∃ r3, ((r.take en tMessage).name en).take en [123] = r3 := ⟨_, rfl⟩
    rw [h3] at ho ⊢
    have q4 := ho.imp id fun k => (Rd.take_ok k).1
    have q3 : x = [] ∨ (((r.take en tMessage).name en).take en [123]).e = 0 := by
      rw [h3]
      refine q4.imp id fun k => ?_
      by_cases hz : r3.e = 0
      · exact hz
      · rw [bodyL_stop en _ _ r3 [] [] (fun hh => hz hh.1)] at k; exact k
    have q2 := q3.imp id fun k => (Rd.take_ok k).1
    have q1 := q2.imp id fun k => (Rd.name_ok k).1
    have a1 := h.take (en := en) (en' := en') tMessage q1
    have a2 := a1.name (en := en) (en' := en') q2
    have a3 := a2.1.take (en := en) (en' := en') [123] q3
    rw [h3] at a3
    have a4 := Sim.bodyL (en := en) (en' := en') (msg := Go.Proofs.YtbfkaanmbdekfaaDoor.messageL en (k + 1) (depth + 1)) (msg' := Go.Proofs.YtbfkaanmbdekfaaDoor.messageL en' (k + 1) (depth + 1)) (fun r => messageL_m en k (depth + 1) r) (fun r => messageL_m en' k (depth + 1) r) (fun r r' hs hh => ih (depth + 1) (by omega) r r' hs hh) _ _ r3 _ [] [] [] [] (Rd.m_le _) (Rd.m_le _) a3 rfl (fun _ => rfl) q4
    have a5 := a4.2.2.take (en := en) (en' := en') [125] ho
    exact ⟨fun g => by unfold sD; simp only; rw [a2.2, a4.1, a4.2.1.strip g], a5⟩
theorem Sim.declS {r r' : Rd} (h : Sim x r r') (hn : r.l ≠ []) (ho : x = [] ∨ (declS en r).2.e = 0) : DE (declS en r).1 (declS en' r').1 ∧ Sim x (declS en r).2 (declS en' r').2 := by
  unfold Go.Proofs.YtbfkaanmbdekfaaDoor.declS at ho ⊢
  rw [h.is (.inr hn) tMessage, h.is (.inr hn) tEnum, h.is (.inr hn) tService]
  by_cases h1 : r.is tMessage = true
  · rw [if_pos h1] at ho ⊢; rw [if_pos h1]; exact Sim.messageL 8 1 (by decide) r r' h ho
  · rw [if_neg h1] at ho ⊢; rw [if_neg h1]
    by_cases h2 : r.is tEnum = true
    · rw [if_pos h2] at ho ⊢; rw [if_pos h2]; exact h.enum ho
    · rw [if_neg h2] at ho ⊢; rw [if_neg h2]
      by_cases h3 : r.is tService = true
      · rw [if_pos h3] at ho ⊢; rw [if_pos h3]; exact h.service ho
      · rw [if_neg h3] at ho ⊢; rw [if_neg h3]; exact ⟨fun _ => rfl, h.fail 7 (by decide) _ _⟩
theorem decls_join : ∀ (f f' : Nat) (r r' : Rd) (acc acc' : List Dc), r.m ≤ f → r'.m ≤ f' → Sim x r r' → DLs acc acc' → r.e = 0 → (declsL en f r acc).2.e = 0 →
    ∃ (f'' : Nat) (r'' : Rd) (acc'' : List Dc), declsL en' f' r' acc' = declsL en' f'' r'' acc'' ∧ r''.e = 0 ∧ kt r''.l = x ∧ DLs (declsL en f r acc).1 acc'' ∧ r''.m ≤ f'' := by
  intro f
  induction f with
  | zero =>
    intro f' r r' acc acc' hm hm' h ha he ho
    exfalso
    unfold Rd.m at hm; rw [if_pos he] at hm; omega
  | succ f ih =>
    intro f' r r' acc acc' hm hm' h ha he ho
    have he' : r'.e = 0 := by rw [h.1]; exact he
    by_cases hl : r.l = []
    · refine ⟨f', r', acc', rfl, he', ?_, ?_, hm'⟩
      · have := h.2 he; rw [hl] at this; simpa [kt] using this
      · rw [declsL_stop en _ r acc (fun hh => hh.2 hl)]; exact ha
    · have hz : (declS en r).2.e = 0 := by
        by_cases hz : (declS en r).2.e = 0
        · exact hz
        · rw [declsL_err en f r acc ⟨he, hl⟩ hz] at ho; exact ho
      have hv := h.declS (en := en) (en' := en') hl (.inr hz)
      have hl' : r'.l ≠ [] := by
        intro e
        have := h.2 he
        rw [e] at this
        cases hrl : r.l with
        | nil => exact hl hrl
        | cons a b => rw [hrl] at this; simp [kt] at this
      have hm1 : 1 ≤ r'.m := by unfold Rd.m; rw [if_pos he']; omega
      obtain ⟨f', rfl⟩ : ∃ g, f' = g + 1 := ⟨f' - 1, by omega⟩
      have m1 := declS_m en r
      have m2 := declS_m en' r'
      have s1 := declsL_step en f r acc ⟨he, hl⟩
      rw [if_pos hz] at s1
      have s2 := declsL_step en' f' r' acc' ⟨he', hl'⟩
      rw [if_pos (by rw [hv.2.1]; exact hz)] at s2
      rw [s1] at ho ⊢
      rw [s2]
      exact ih f' _ _ _ _ (by omega) (by omega) hv.2 (ha.snoc hv.1) hz ho
end
theorem declsL_acc (en : Int × Int) (a : List Dc) : ∀ (f : Nat) (r : Rd) (acc : List Dc), declsL en f r (a ++ acc) = (a ++ (declsL en f r acc).1, (declsL en f r acc).2) := by
  intro f
  induction f with
  | zero => intro r acc; rfl
  | succ f ih =>
    intro r acc
    by_cases h : r.e = 0 ∧ r.l ≠ []
    · rw [declsL_go en f r _ h, declsL_go en f r _ h, List.append_assoc, List.append_assoc, List.append_assoc, ih, ih, ih, ih]
      split
      · rfl
      · split
        · rfl
        · split <;> rfl
    · rw [declsL_stop en _ r _ h, declsL_stop en _ r _ h]
theorem kt_nil {l : List Wd} (h : kt l = []) : l = [] := by
  cases l with
  | nil => rfl
  | cons a b => simp [kt] at h
/-- words of two texts, one behind the other -/
theorem fileW_join (en1 en2 en : Int × Int) (ws1 ws2 ws : List Wd) (h1 : (fileW en1 ws1).2.2 = 0) (h2 : (fileW en2 ws2).2.2 = 0) (hk : kt ws = kt ws1 ++ kt ws2) :
    (fileW en ws).2.2 = 0 ∧ DLs ((fileW en1 ws1).1 ++ (fileW en2 ws2).1) (fileW en ws).1 := by
  have g1 : (declsL en1 (ws1.length + 1) ⟨ws1, 0, 0, 0⟩ []).2.e = 0 := by
    unfold fileW at h1; simp only at h1
    by_cases hz : (declsL en1 (ws1.length + 1) ⟨ws1, 0, 0, 0⟩ []).2.e = 0
    · exact hz
    · rw [if_neg hz] at h1; exact h1
  have g2 : (declsL en2 (ws2.length + 1) ⟨ws2, 0, 0, 0⟩ []).2.e = 0 := by
    unfold fileW at h2; simp only at h2
    by_cases hz : (declsL en2 (ws2.length + 1) ⟨ws2, 0, 0, 0⟩ []).2.e = 0
    · exact hz
    · rw [if_neg hz] at h2; exact h2
  have f1 : (fileW en1 ws1).1 = (declsL en1 (ws1.length + 1) ⟨ws1, 0, 0, 0⟩ []).1 := by unfold fileW; simp only; rw [if_pos g1]
  have f2 : (fileW en2 ws2).1 = (declsL en2 (ws2.length + 1) ⟨ws2, 0, 0, 0⟩ []).1 := by unfold fileW; simp only; rw [if_pos g2]
  obtain ⟨fa, ra, aa, e1, e2, e3, e4, e5⟩ := decls_join (x := kt ws2) (en := en1) (en' := en) (ws1.length + 1) (ws.length + 1) ⟨ws1, 0, 0, 0⟩ ⟨ws, 0, 0, 0⟩ [] [] (Rd.m_le _) (Rd.m_le _) ⟨rfl, fun _ => hk⟩ (fun _ => rfl) rfl g1
  have hacc := declsL_acc en2 (declsL en1 (ws1.length + 1) ⟨ws1, 0, 0, 0⟩ []).1 (ws2.length + 1) ⟨ws2, 0, 0, 0⟩ []
  rw [List.append_nil] at hacc
  obtain ⟨fb, rb, ab, d1, d2, d3, d4, d5⟩ := decls_join (x := []) (en := en2) (en' := en) (ws2.length + 1) fa ⟨ws2, 0, 0, 0⟩ ra (declsL en1 (ws1.length + 1) ⟨ws1, 0, 0, 0⟩ []).1 aa (Rd.m_le _) e5 ⟨e2, fun _ => by rw [e3, List.append_nil]⟩ e4 rfl (by rw [hacc]; exact g2)
  have hstop : declsL en fb rb ab = (ab, rb) := declsL_stop en fb rb ab (fun hh => hh.2 (kt_nil d3))
  have hfin : declsL en (ws.length + 1) ⟨ws, 0, 0, 0⟩ [] = (ab, rb) := by rw [e1, d1, hstop]
  have f3 : fileW en ws = (ab, (0, 0), 0) := by unfold fileW; simp only; rw [hfin, if_pos d2]
  rw [f3, f1, f2]
  refine ⟨rfl, ?_⟩
  rw [hacc] at d4
  exact d4
/-- two texts, one behind the other -/
theorem file_join (s t : List UInt8) (hs : s.length ≤ 5000) (ht : t.length ≤ 5000) (h1 : (fileL s).2.2 = 0) (h2 : (fileL t).2.2 = 0) :
    (fileL (s ++ 10 :: t)).2.2 = 4 ∨ ((fileL (s ++ 10 :: t)).2.2 = 0 ∧ DLs ((fileL s).1 ++ (fileL t).1) (fileL (s ++ 10 :: t)).1) := by
  have w1 : (wordsL s).2.2 = 0 := by
    unfold fileL at h1
    by_cases hz : (wordsL s).2.2 = 0
    · exact hz
    · rw [if_neg hz] at h1; exact h1
  have w2 : (wordsL t).2.2 = 0 := by
    unfold fileL at h2
    by_cases hz : (wordsL t).2.2 = 0
    · exact hz
    · rw [if_neg hz] at h2; exact h2
  unfold fileL at *
  rw [if_pos w1] at h1 ⊢
  rw [if_pos w2] at h2 ⊢
  rcases words_join s t hs ht w1 w2 with h | ⟨h, hk⟩
  · left
    rw [if_neg (by rw [h]; decide)]
    exact h
  · right
    rw [if_pos h]
    exact fileW_join _ _ _ _ _ _ h1 h2 hk
end Go.Proofs.YtbfkaanmbdekfaaDoor
