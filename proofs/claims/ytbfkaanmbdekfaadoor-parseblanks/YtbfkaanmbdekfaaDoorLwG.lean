/-
  What the laws of this layer ask of Words, as one sentence (DevWords), and, where it holds, the walk over the laws' own awake.
-/
import Derived.Test.YtbfkaanmbdekfaaDoorDvF
import Derived.Test.YtbfkaanmbdekfaaDoorProg
import Derived.Test.YtbfkaanmbdekfaaDoorLxA
import Derived.Deep.RegionWith
import Derived.Deep.QuietTactic
import Derived.BigQuiet
import Derived.Deep.RegionLaw
namespace Go.Proofs.YtbfkaanmbdekfaaDoor
set_option linter.unusedVariables false
open Go.ChangeShapes Go.WideShapes Go.ChangeAt Go.RowKit

/-- words lie in memory, from a block's first place on, four cells each -/
def HeldW (w : World) (ad : Option Addr) (ws : List Wd) : Prop :=
  ws = [] ∨ ∃ g, ad = some ⟨g, 0, none⟩ ∧ ∀ (j : Nat) (x : Wd), ws[j]? = some x → w.cell? ⟨g, j * 4, none⟩ = some (.int .i64 x.kind) ∧ w.cell? ⟨g, j * 4 + 1, none⟩ = some (.string (mkB x.text)) ∧
    w.cell? ⟨g, j * 4 + 2, none⟩ = some (.int .i64 (x.line : Int)) ∧ w.cell? ⟨g, j * 4 + 3, none⟩ = some (.int .i64 (x.col : Int))
theorem heldW_old {w w' : World} {ad : Option Addr} {ws : List Wd} (h : HeldW w ad ws) (hb : Below w.heap.size w w') : HeldW w' ad ws := by
  rcases h with h | ⟨g, rfl, h⟩
  · exact .inl h
  · refine .inr ⟨g, rfl, fun j x hj => ?_⟩
    obtain ⟨h1, h2, h3, h4⟩ := h j x hj
    have hlt : g < w.heap.size := by
      by_cases hg : g < w.heap.size
      · exact hg
      · simp [World.cell?, Array.getElem?_eq_none (Nat.le_of_not_lt hg)] at h1
    refine ⟨?_, ?_, ?_, ?_⟩
    · rw [hb.cell hlt]; exact h1
    · rw [hb.cell hlt]; exact h2
    · rw [hb.cell hlt]; exact h3
    · rw [hb.cell hlt]; exact h4
theorem heldW_at {w : World} {ad : Option Addr} {ws : List Wd} (h : HeldW w ad ws) {j : Nat} {x : Wd} (hj : ws[j]? = some x) :
    ∃ g, ad = some ⟨g, 0, none⟩ ∧ w.cell? ⟨g, j * 4, none⟩ = some (.int .i64 x.kind) ∧ w.cell? ⟨g, j * 4 + 1, none⟩ = some (.string (mkB x.text)) ∧ w.cell? ⟨g, j * 4 + 2, none⟩ = some (.int .i64 (x.line : Int)) ∧ w.cell? ⟨g, j * 4 + 3, none⟩ = some (.int .i64 (x.col : Int)) := by
  rcases h with rfl | ⟨g, hg, h⟩
  · simp at hj
  · exact ⟨g, hg, h j x hj⟩
/-- what Words answers, as the laws see it -/
def LAns (a : List Wd × (Nat × Nat) × Int) (e : Ending) (w' : World) : Prop :=
  ∃ (ad : Option Addr) (c : Nat) (pl pc : Int), e = .returned (.tuple #[.slice ad a.1.length c, .agg #[.int .i64 pl, .int .i64 pc], .int .i64 a.2.2]) ∧ HeldW w' ad a.1 ∧ a.1.length ≤ c ∧ (a.2.2 ≠ 0 → pl = (a.2.1.1 : Int) ∧ pc = (a.2.1.2 : Int))
/-- what the program's Words is to answer -/
def DevWords : Prop := ∀ (s : ByteArray) (w : World), Errs w → s.size ≤ 9223372036854775807 →
  Calls Tryd.prog 10 #[.string s] w fun e w' => LAns (wordsL s.data.toList) e w' ∧ Below w.heap.size w w'
theorem lexL_err : ∀ (f : Nat) (l : List UInt8) (line col : Nat) (acc : List Wd), (lexL f l line col acc).2.2 ≠ 0 → (lexL f l line col acc).1 = []
  | 0, l, line, col, acc, h => absurd rfl h
  | f + 1, l, line, col, acc, h => by
    by_cases h0 : l = []
    · subst h0; rw [lexL_end] at h; exact absurd rfl h
    · by_cases h10 : (nx l).1 = 10
      · rw [lexL_feed f l _ _ _ h0 h10] at h ⊢; exact lexL_err f _ _ _ _ h
      · by_cases hb : (nx l).1 = 32 ∨ (nx l).1 = 9
        · rw [lexL_blank f l _ _ _ h0 hb] at h ⊢; exact lexL_err f _ _ _ _ h
        · by_cases hr : (nx l).1 = 47 ∧ l[1]? = some 47
          · rw [lexL_remark f l _ _ _ h0 hr.1 hr.2] at h ⊢; exact lexL_err f _ _ _ _ h
          · rw [lexL_word f l _ _ _ ⟨h0, h10, fun h => hb (.inl h), fun h => hb (.inr h), hr⟩] at h ⊢
            by_cases c1 : rightL (headW l).1 (l.take (headW l).2.1) (nx l).1 = false
            · rw [if_pos c1]
            · rw [if_neg c1] at h ⊢
              by_cases c2 : acc.length = 4000
              · rw [if_pos c2]
              · rw [if_neg c2] at h ⊢
                exact lexL_err f _ _ _ _ h
theorem words_err (l : List UInt8) (h : (wordsL l).2.2 ≠ 0) : (wordsL l).1 = [] := by
  unfold wordsL at h ⊢
  split
  · rfl
  · rename_i c; rw [if_neg c] at h; exact lexL_err _ _ _ _ _ h
theorem words_count (l : List UInt8) : (wordsL l).1.length ≤ 4000 := by
  unfold wordsL
  split
  · simp
  · exact lexL_count _ _ _ _ _ (by simp)
theorem words_aw : (wordsL [97, 61, 49, 59, 47, 47, 32, 120]).2.2 = 0 ∧ (wordsL [97, 61, 49, 59, 47, 47, 32, 120]).1.length = 4 ∧ ((wordsL [97, 61, 49, 59, 47, 47, 32, 120]).1[2]?.map fun x => (x.kind, x.text)) = some (2, [49]) := by
  decide +kernel
end Go.Proofs.YtbfkaanmbdekfaaDoor
