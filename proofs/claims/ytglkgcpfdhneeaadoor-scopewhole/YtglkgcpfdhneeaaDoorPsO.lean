/-
  The walk over the law's own Ours: the same declarations.
-/
import Derived.Test.YtglkgcpfdhneeaaDoorPsC
import Derived.Deep.Cut
import Derived.Deep.DeepCutAuto
namespace Go.Proofs.YtglkgcpfdhneeaaDoor
set_option linter.unusedVariables false
open Go.ChangeShapes Go.WideShapes Go.ChangeAt Go.RowKit

theorem drewn_block {wr W5 : World} {o : Obj} (h : Below (wr.alloc o).drew.heap.size (wr.alloc o).drew W5) : W5.heap[wr.heap.size]? = some o :=
  (h.block wr.heap.size (by show wr.heap.size < (wr.heap.push o).size; simp)).trans (alloc_heap_new wr o)
theorem z8_cells {W : World} {B : Nat} {T : TypeId} (h : W.heap[B]? = some (.cells z8 T (0, 0))) : W.cell? ⟨B, 0, none⟩ = some (.int .i64 0) ∧ W.cell? ⟨B, 1, none⟩ = some (.string ⟨#[]⟩) ∧ W.cell? ⟨B, 2, none⟩ = some (.int .i64 0) ∧ W.cell? ⟨B, 3, none⟩ = some (.int .i64 0) ∧ W.cell? ⟨B, 4, none⟩ = some (.slice none 0 0) ∧ W.cell? ⟨B, 5, none⟩ = some (.slice none 0 0) ∧ W.cell? ⟨B, 6, none⟩ = some (.slice none 0 0) ∧ W.cell? ⟨B, 7, none⟩ = some (.slice none 0 0) ∧ W.frozen? ⟨B, 0, none⟩ = false ∧ W.frozen? ⟨B, 1, none⟩ = false ∧ W.frozen? ⟨B, 2, none⟩ = false ∧ W.frozen? ⟨B, 3, none⟩ = false ∧ W.frozen? ⟨B, 4, none⟩ = false ∧ W.frozen? ⟨B, 5, none⟩ = false ∧ W.frozen? ⟨B, 6, none⟩ = false ∧ W.frozen? ⟨B, 7, none⟩ = false := by
  refine ⟨?_, ?_, ?_, ?_, ?_, ?_, ?_, ?_, ?_, ?_, ?_, ?_, ?_, ?_, ?_, ?_⟩
  all_goals simp [World.cell?, World.frozen?, h]
/-- what a copy answers -/
def CAns (f : Nat) (w : World) (ds : List Dc) (e : Ending) (w' : World) : Prop :=
  ∃ ad c, e = .returned (.slice ad ds.length c) ∧ HeldD f w' (fun b => w.heap.size ≤ b ∧ b < w'.heap.size) (.slice ad ds.length c) ds ∧ Below w.heap.size w w'
end Go.Proofs.YtglkgcpfdhneeaaDoor
