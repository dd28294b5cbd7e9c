/-
  A cell of a block.
-/
import Derived.WalkKit
namespace Go.Proofs.Ytblebbmnlbmgiaa
theorem cell_at {w : World} {B : Nat} {cs : Array Value} {T : TypeId} {fr : Nat × Nat} {v : Value} (h : w.heap[B]? = some (.cells cs T fr)) (i : Nat) (e : cs.toList[i]? = some v) : w.cell? ⟨B, i, none⟩ = some v := by
  simp only [World.cell?, h]
  simpa using e
theorem frozen_at {w : World} {B : Nat} {cs : Array Value} {T : TypeId} (h : w.heap[B]? = some (.cells cs T (0, 0))) (i : Nat) : w.frozen? ⟨B, i, none⟩ = false := by
  simp [World.frozen?, h]
end Go.Proofs.Ytblebbmnlbmgiaa
