/-
  What of a value that fits the document's bytes need, and that its fields are the program's. Nothing is proved of the program here.
-/
import Derived.Test.YtfhmombnipfimaaGreatDoorM23
import Derived.Test.YtfhmombnipfimaaGreatDoorM25
namespace Go.Proofs.YtfhmombnipfimaaGreatDoor
set_option linter.unusedVariables false
open Go.ChangeShapes Go.WideShapes Go.ChangeAt Go.RowKit

/-- a value whose kinds are those of its fields -/
def EncK (ms : List MD) : Nat → Nd → Prop
  | 0, x => x.kind = 7 ∧ 0 ≤ x.type ∧ x.type < (ms.length : Int)
  | f + 1, x => (x.kind = 7 ∧ 0 ≤ x.type ∧ x.type < (ms.length : Int)) ∧ ∀ p ∈ x.fields, ∃ fd, firstF (fieldsOf ms x.type) p.1 = some fd ∧ ((1 ≤ fd.num ∧ fd.num ≤ 536870911) ∧ 1 ≤ fd.kind ∧ fd.kind ≤ 10) ∧ ∀ y ∈ p.2, (fd.kind ≠ 10 → kindB fd.kind y = true) ∧ (fd.kind = 10 → EncK ms f y)
theorem EncK.one {ms : List MD} {f : Nat} {x : Nd} (h : EncK ms f x) : x.kind = 7 ∧ 0 ≤ x.type ∧ x.type < (ms.length : Int) := by
  cases f with
  | zero => exact h
  | succ f => exact h.1
theorem encK_of {ms : List MD} (hk : NumOK ms) (hkd : ∀ m ∈ ms, ∀ x ∈ m.fields, 1 ≤ x.kind ∧ x.kind ≤ 10) : ∀ (f : Nat) (dep t : Int) (x : Nd), 0 ≤ t → t < (ms.length : Int) → fitP ms f dep t x = true → EncK ms f x := by
  intro f
  induction f with
  | zero =>
    intro dep t x h0 h1 h
    rw [fitP_eq, topP, Bool.and_eq_true, decide_eq_true_eq] at h
    obtain ⟨⟨hk7, ht, _⟩, _⟩ := h
    exact ⟨hk7, by rw [ht]; exact h0, by rw [ht]; exact h1⟩
  | succ f ih =>
    intro dep t x h0 h1 h
    rw [fitP_eq, topP, Bool.and_eq_true, decide_eq_true_eq] at h
    obtain ⟨⟨hk7, ht, _⟩, hb⟩ := h
    refine ⟨⟨hk7, by rw [ht]; exact h0, by rw [ht]; exact h1⟩, fun p hp => ?_⟩
    unfold fieldsOf
    rw [ht]
    cases hm : ms[t.toNat]? with
    | none => rw [hm] at hb; cases hb
    | some m =>
      rw [hm] at hb
      simp only at hb
      unfold bodyP at hb
      rw [Bool.and_eq_true] at hb
      obtain ⟨j, hj⟩ := List.getElem?_of_mem hp
      have h2 := allA_iff.1 hb.1 j p hj
      rw [Bool.and_eq_true] at h2
      have h3 := h2.2
      unfold fldP at h3
      cases hf : firstF m.fields p.1 with
      | none => rw [hf] at h3; cases h3
      | some fd =>
        rw [hf] at h3
        simp only [Bool.and_eq_true] at h3
        obtain ⟨h4, _, h5⟩ := h3
        obtain ⟨hnum, hty⟩ := hk m (List.mem_of_getElem? hm) fd (firstF_some hf).1
        refine ⟨fd, rfl, ⟨hnum, hkd m (List.mem_of_getElem? hm) fd (firstF_some hf).1⟩, fun y hy => ?_⟩
        obtain ⟨a, ha⟩ := List.getElem?_of_mem hy
        have h6 := allA_iff.1 h5 a y ha
        unfold valP at h6
        split at h6
        · rename_i h10
          exact ⟨fun h => absurd h10 h, fun _ => ih (dep + 1) fd.type y (hty h10).1 (hty h10).2 h6⟩
        · rename_i h10
          exact ⟨fun _ => h6, fun h => absurd h h10⟩
theorem wireT_ty {k : Int} : wireT k = if isNum k then (if k = 7 then 5 else if k = 8 then 1 else 0) else 2 := by
  unfold wireT isNum
  by_cases h7 : k = 7
  · subst h7; rfl
  by_cases h8 : k = 8
  · subst h8; rfl
  by_cases h : k = 5 ∨ k = 6 ∨ k = 10
  · rw [if_neg h7, if_neg h8, if_pos h, decide_eq_false (by omega)]; rfl
  · rw [if_neg h7, if_neg h8, if_neg h, decide_eq_true (by omega), if_pos rfl, if_neg h7, if_neg h8]
theorem wireT_two {k : Int} : decide (wireT k ≠ 2) = isNum k := by
  rw [wireT_ty]
  cases isNum k
  · rfl
  · rw [if_pos rfl]
    repeat' split
    all_goals rfl
/-- the document's one of a value that fits is the program's single -/
theorem sing_eq {ms : List MD} {f : Nat} {fd : FD} {y : Nd} (h : fd.kind ≠ 10 → kindB fd.kind y = true) (D : List Int) (hD : isNum fd.kind = false → D = contB (msgB ms f) y) :
    (if isNum fd.kind then (⟨fd.num, wireT fd.kind, numR fd.kind (cn y), []⟩ : WF) else ⟨fd.num, wireT fd.kind, 0, D⟩) = singW (contB (msgB ms f)) fd y := by
  unfold singW
  rw [wireT_ty]
  cases hi : isNum fd.kind
  · rw [if_neg (by simp), if_neg (by simp), if_neg (by simp), hD hi]
  · have h10 : fd.kind ≠ 10 := fun e => by rw [e] at hi; cases hi
    rw [if_pos rfl, if_pos rfl, if_pos rfl, num_eq (h h10) hi]
theorem cn_rg {y : Nd} (h : Rg1 y) : Rg1 (cn y) := by
  obtain ⟨⟨h1, h2⟩, h3, h4⟩ := h
  unfold Rg1 cn
  dsimp only
  refine ⟨?_, ?_⟩
  · repeat' split
    · exact ⟨h1, h2⟩
    · rw [IntKind.wrap_i32]; omega
    · omega
  · split
    · exact ⟨h3, h4⟩
    · omega
end Go.Proofs.YtfhmombnipfimaaGreatDoor
