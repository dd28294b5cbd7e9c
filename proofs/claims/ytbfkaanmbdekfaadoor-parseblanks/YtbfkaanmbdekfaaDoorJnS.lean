/-
  Declarations in a slice that a call has made, and such slices joined. Nothing is proved of the program here.
-/
import Derived.Test.YtbfkaanmbdekfaaDoorTxM
import Derived.Test.YtbfkaanmbdekfaaDoorSmP
import Derived.Test.YtbfkaanmbdekfaaDoorEqD
import Derived.Test.YtbfkaanmbdekfaaDoorAw5
namespace Go.Proofs.YtbfkaanmbdekfaaDoor
set_option linter.unusedVariables false
open Go.ChangeShapes Go.WideShapes Go.ChangeAt Go.RowKit

theorem held_own {f : Nat} {W : World} {base g n cap : Nat} {L : List Value} {S : Nat → Prop} {es : List Dc} (hown : W.ownsRow base 38 8 (.slice (some ⟨g, 0, none⟩) n cap) n L) (hn : es.length = n) (hg : S g)
    (hrows : ∀ (j : Nat) (d : Dc), es[j]? = some d → ∃ fs vs ms ins, (∀ (i : Nat) (u : Value), (drow d fs vs ms ins)[i]? = some u → L[j * 8 + i]? = some u) ∧ Kids f W S fs vs ms ins d) : HeldD (f + 1) W S (.slice (some ⟨g, 0, none⟩) n cap) es := by
  have hcap : n ≤ cap := by
    obtain ⟨_, ⟨h2, _⟩ | ⟨g', cap', cur, hv, hg', hh, h3, _⟩⟩ := hown
    · cases h2
    · simp only [Value.slice.injEq, Option.some.injEq, Addr.mk.injEq, and_true, true_and] at hv
      obtain ⟨_, rfl⟩ := hv
      exact h3
  subst hn
  refine ⟨_, cap, rfl, hcap, .inr ⟨g, 0, rfl, hg, fun j d hj => ?_⟩⟩
  obtain ⟨fs, vs, ms, ins, h0, h1⟩ := hrows j d hj
  refine ⟨fs, vs, ms, ins, fun i u hu => ?_, h1⟩
  rw [Nat.zero_add]
  exact (own_at hown _ _ (h0 i u hu)).1
/-- rows of declarations, one list of them behind the other -/
theorem rows_join {f : Nat} {W : World} {S : Nat → Prop} {L6 L7 : List Value} {e1 e2 : List Dc} (hl : L6.length = e1.length * 8)
    (h1 : ∀ (j : Nat) (d : Dc), e1[j]? = some d → ∃ fs vs ms ins, (∀ (i : Nat) (u : Value), (drow d fs vs ms ins)[i]? = some u → L6[j * 8 + i]? = some u) ∧ Kids f W S fs vs ms ins d)
    (h2 : ∀ (j : Nat) (d : Dc), e2[j]? = some d → ∃ fs vs ms ins, (∀ (i : Nat) (u : Value), (drow d fs vs ms ins)[i]? = some u → L7[j * 8 + i]? = some u) ∧ Kids f W S fs vs ms ins d) :
    ∀ (j : Nat) (d : Dc), (e1 ++ e2)[j]? = some d → ∃ fs vs ms ins, (∀ (i : Nat) (u : Value), (drow d fs vs ms ins)[i]? = some u → (L6 ++ L7)[j * 8 + i]? = some u) ∧ Kids f W S fs vs ms ins d := by
  intro j d hj
  by_cases hjl : j < e1.length
  · rw [List.getElem?_append_left hjl] at hj
    obtain ⟨fs, vs, ms, ins, a, b⟩ := h1 j d hj
    refine ⟨fs, vs, ms, ins, fun i u hu => ?_, b⟩
    have hi : i < 8 := (List.getElem?_eq_some_iff.1 hu).1
    rw [List.getElem?_append_left (by rw [hl]; omega)]
    exact a i u hu
  · rw [List.getElem?_append_right (by omega)] at hj
    obtain ⟨fs, vs, ms, ins, a, b⟩ := h2 _ d hj
    refine ⟨fs, vs, ms, ins, fun i u hu => ?_, b⟩
    rw [List.getElem?_append_right (by rw [hl]; omega), hl, show j * 8 + i - e1.length * 8 = (j - e1.length) * 8 + i by omega]
    exact a i u hu
/-- each cell of such a row is one value -/
theorem rows_one_cell {f : Nat} {W : World} {S : Nat → Prop} {L : List Value} {es : List Dc} (hl : L.length = es.length * 8)
    (h : ∀ (j : Nat) (d : Dc), es[j]? = some d → ∃ fs vs ms ins, (∀ (i : Nat) (u : Value), (drow d fs vs ms ins)[i]? = some u → L[j * 8 + i]? = some u) ∧ Kids f W S fs vs ms ins d) : ∀ u ∈ L, u.oneCell' = true := by
  intro u hu
  obtain ⟨k, hk⟩ := List.getElem?_of_mem hu
  have hkl := (List.getElem?_eq_some_iff.1 hk).1
  have hj : k / 8 < es.length := by omega
  obtain ⟨fs, vs, ms, ins, a, b1, b2, b3, b4⟩ := h (k / 8) _ (List.getElem?_eq_getElem hj)
  obtain ⟨_, _, rfl⟩ := b1.isSlS
  obtain ⟨_, _, rfl⟩ := b2.isSlS
  obtain ⟨_, _, rfl⟩ := b3.isSlS
  obtain ⟨_, _, rfl⟩ := b4.isSlS
  have hi : k % 8 = 0 ∨ k % 8 = 1 ∨ k % 8 = 2 ∨ k % 8 = 3 ∨ k % 8 = 4 ∨ k % 8 = 5 ∨ k % 8 = 6 ∨ k % 8 = 7 := by omega
  have hke : k / 8 * 8 + k % 8 = k := by omega
  rcases hi with hi | hi | hi | hi | hi | hi | hi | hi
  all_goals
    have := a (k % 8) _ (by rw [hi]; rfl)
    rw [hke, hk] at this
    rw [Option.some.inj this]
    rfl
theorem strip_rows {f : Nat} {W : World} {S : Nat → Prop} {L : List Value} {ds : List Dc} (h : ∀ (j : Nat) (d : Dc), ds[j]? = some d → ∃ fs vs ms ins, (∀ (i : Nat) (u : Value), (drow (sD f d) fs vs ms ins)[i]? = some u → L[j * 8 + i]? = some u) ∧ Kids f W S fs vs ms ins (sD f d)) :
    ∀ (j : Nat) (d : Dc), (stripL (f + 1) ds)[j]? = some d → ∃ fs vs ms ins, (∀ (i : Nat) (u : Value), (drow d fs vs ms ins)[i]? = some u → L[j * 8 + i]? = some u) ∧ Kids f W S fs vs ms ins d := by
  intro j d hj
  rw [stripL_succ, List.getElem?_map] at hj
  obtain ⟨z, hz, rfl⟩ := Option.map_eq_some_iff.1 hj
  exact h j z hz
theorem rows_move {f : Nat} {W W' : World} {S S' : Nat → Prop} {L : List Value} {es : List Dc} (h : ∀ (j : Nat) (d : Dc), es[j]? = some d → ∃ fs vs ms ins, (∀ (i : Nat) (u : Value), (drow d fs vs ms ins)[i]? = some u → L[j * 8 + i]? = some u) ∧ Kids f W S fs vs ms ins d)
    (hb : ∀ b, S b → W'.heap[b]? = W.heap[b]?) (hS : ∀ b, S b → S' b) :
    ∀ (j : Nat) (d : Dc), es[j]? = some d → ∃ fs vs ms ins, (∀ (i : Nat) (u : Value), (drow d fs vs ms ins)[i]? = some u → L[j * 8 + i]? = some u) ∧ Kids f W' S' fs vs ms ins d := fun j d hj => by
  obtain ⟨fs, vs, ms, ins, a, b⟩ := h j d hj
  exact ⟨fs, vs, ms, ins, a, (b.old hb).more hS⟩
theorem declsL_few (l : List UInt8) : (fileL l).1.length ≤ 4001 := by
  have hw := words_few l
  unfold fileL
  split
  · unfold fileW
    simp only
    split
    · have := (declsL_fit (((endOf l).1 : Int), ((endOf l).2 : Int)) ((wordsL l).1.length + 1) ⟨(wordsL l).1, 0, 0, 0⟩ [] hw (by simp)).2
      simp only [List.length_nil, Nat.zero_add] at this
      exact Nat.le_trans this (by omega)
    · simp
  · simp
theorem strip_append (f : Nat) (a b : List Dc) : stripL (f + 1) (a ++ b) = stripL (f + 1) a ++ stripL (f + 1) b := by
  rw [stripL_succ, stripL_succ, stripL_succ, List.map_append]
theorem fit_append {f : Nat} {a b : List Dc} (h1 : FitD (f + 1) a) (h2 : FitD (f + 1) b) (hl : a.length + b.length ≤ 100000) : FitD (f + 1) (a ++ b) :=
  ⟨by rw [List.length_append]; exact hl, fun d hd => by
    rcases List.mem_append.1 hd with h | h
    · exact h1.2 d h
    · exact h2.2 d h⟩
end Go.Proofs.YtbfkaanmbdekfaaDoor
