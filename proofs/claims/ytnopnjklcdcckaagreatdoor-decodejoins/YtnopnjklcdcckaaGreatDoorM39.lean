/-
  The walk over the program's Same, of two values that lie in memory as one tree: it answers true.
  Numbers packed, in parts and alone: the arithmetic. Nothing is proved of the program here.
-/
import Derived.Test.YtnopnjklcdcckaaGreatDoorM6
import Derived.Test.YtnopnjklcdcckaaGreatDoorM13
import Derived.Test.YtnopnjklcdcckaaGreatDoorM8
import Derived.Defers
import Derived.Recover
import Derived.Laws.Pointers
import Derived.Lib.IfaceEq
import Derived.Test.YtnopnjklcdcckaaGreatDoorM38
namespace Go.Proofs.YtnopnjklcdcckaaGreatDoor
set_option linter.unusedVariables false
open Go.ChangeShapes Go.WideShapes Go.ChangeAt Go.RowKit

/-- every value is one, and none lies too deep -/
def KindT : Nat → Int → Nd → Prop
  | 0, d, x => d ≤ 65536
  | f + 1, d, x => d ≤ 65536 ∧ ∀ p ∈ x.fields, ∀ y ∈ p.2, (1 ≤ y.kind ∧ y.kind ≤ 7) ∧ (y.kind = 7 → KindT f (d + 1) y)
theorem KindT.le {f : Nat} {d : Int} {x : Nd} (h : KindT f d x) : d ≤ 65536 := by
  cases f with
  | zero => exact h
  | succ f => exact h.1
theorem kindT_of {ms : List MD} : ∀ (f : Nat) (dep t : Int) (x : Nd), fitP ms f dep t x = true → KindT f dep x
  | 0, dep, t, x, h => by
    rw [fitP_eq, topP, Bool.and_eq_true, decide_eq_true_eq] at h
    show dep ≤ 65536
    omega
  | f + 1, dep, t, x, h => by
    rw [fitP_eq, topP, Bool.and_eq_true, decide_eq_true_eq] at h
    obtain ⟨⟨hk7, ht, hd⟩, hb⟩ := h
    refine ⟨by omega, fun p hp y hy => ?_⟩
    cases hm : ms[t.toNat]? with
    | none => rw [hm] at hb; cases hb
    | some m =>
      rw [hm] at hb
      simp only at hb
      unfold bodyP at hb
      rw [Bool.and_eq_true] at hb
      obtain ⟨j, hj⟩ := List.getElem?_of_mem hp
      have h2 := allA_iff.1 hb.1 j p hj
      rw [Bool.and_eq_true] at h2
      have h3 := h2.2
      unfold fldP at h3
      cases hf : firstF m.fields p.1 with
      | none => rw [hf] at h3; cases h3
      | some fd =>
        rw [hf] at h3
        simp only [Bool.and_eq_true] at h3
        obtain ⟨_, _, h5⟩ := h3
        obtain ⟨a, ha⟩ := List.getElem?_of_mem hy
        have h6 := allA_iff.1 h5 a y ha
        have hr : ∀ t y, recP ms dep (f + 1) t y = true → y.kind = 7 := fun t y h => by
          have h' : fitP ms f (dep + 1) t y = true := h
          rw [fitP_eq, topP, Bool.and_eq_true, decide_eq_true_eq] at h'
          exact h'.1.1
        refine ⟨val_kind hr h6, fun hy7 => ?_⟩
        unfold valP at h6
        split at h6
        · exact kindT_of f (dep + 1) fd.type y h6
        · unfold kindB at h6
          rw [hy7] at h6
          repeat' split at h6
          all_goals simp at h6
end Go.Proofs.YtnopnjklcdcckaaGreatDoor
namespace Go.Proofs.YtnopnjklcdcckaaGreatDoor
set_option linter.unusedVariables false

def OkP (u : Int) : Prop := 0 ≤ u ∧ u ≤ 18446744073709551615
theorem takeN_front {k u : Int} (hk : k ≠ 7 ∧ k ≠ 8) (hu : OkP u) (t : List Int) : takeN k (vint u.toNat ++ t) = (u, ((vint u.toNat).length : Int), 0) := by
  unfold takeN
  rw [if_neg hk.1, if_neg hk.2, dec_front u.toNat t (by have := hu.2; omega), Int.toNat_of_nonneg hu.1]
end Go.Proofs.YtnopnjklcdcckaaGreatDoor
