/-
  The walk over the law DecodeBack.
-/
import Derived.Test.YtnopnjklcdcckaaGreatDoorM40
import Derived.Test.YtnopnjklcdcckaaGreatDoorM38
import Derived.Test.YtnopnjklcdcckaaGreatDoorM44
import Derived.Test.YtnopnjklcdcckaaGreatDoorM45
namespace Go.Proofs.YtnopnjklcdcckaaGreatDoor
set_option linter.unusedVariables false
open Go.ChangeShapes Go.WideShapes Go.ChangeAt Go.RowKit

/-- what Decode answers of what was encoded -/
def BkAns (F : Nat) (z : Nd) (w0 w : World) (e : Ending) (w' : World) : Prop := ∃ v, e = .returned (.tuple #[v, .int .i64 0]) ∧ HeldV w' (fun b => b < w'.heap.size) F v z ∧ Below w0.heap.size w0 w' ∧ Below w.heap.size w w'
theorem bk_of {s : SC} {t : Int} {zs : List Int} {w0 w : World} {e : Ending} {w' : World} {z y : Nd} {F : Nat} (hF : 16 ≤ F) (hg : GoodM s t) (hl : zs.length ≤ 4096) (hz : decM s.ms 16 t zs = .ok z) (hn : normN s.ms 16 z = y) (h : DcAns s t zs w e w') (hb : Below w0.heap.size w0 w) : BkAns F y w0 w e w' := by
  obtain ⟨⟨h1, _⟩ | ⟨_, h1, _⟩ | ⟨_, _, ⟨er, _, h1, _⟩ | ⟨x, v, h1, he, hv⟩⟩, h3⟩ := h
  · exact absurd hg h1
  · omega
  · rw [hz] at h1; cases h1
  · rw [hz] at h1
    have e1 : z = x := by injection h1
    subst e1
    rw [hn] at hv
    exact ⟨v, he, heldV_upTo hF (hv.mv (fun _ _ => rfl) (fun b hb => hb.2)), hb.trans (h3.mono hb.size), h3⟩
end Go.Proofs.YtnopnjklcdcckaaGreatDoor
