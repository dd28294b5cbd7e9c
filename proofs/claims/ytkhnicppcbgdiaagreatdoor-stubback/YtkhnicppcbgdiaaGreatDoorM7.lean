/-
  Cells of tables, new blocks. Nothing is proved of the program here.
-/
import Derived.Test.YtkhnicppcbgdiaaGreatDoorM6
namespace Go.Proofs.YtkhnicppcbgdiaaGreatDoor
set_option linter.unusedVariables false
open Go.ChangeShapes Go.WideShapes Go.ChangeAt Go.RowKit

theorem box_new (w : World) (cs : Array Value) (T : TypeId) : ∃ Y, w.alloc (.cells cs T) = Y ∧ Y.heap[w.heap.size]? = some (.cells cs T (0, 0)) ∧ Below w.heap.size w Y ∧ Y.heap.size = w.heap.size + 1 :=
  ⟨_, rfl, alloc_heap_new _ _, (Below.refl _ w).alloc (Nat.le_refl _) _, by simp⟩
theorem map_new (w : World) : ∃ Y, w.alloc (.map #[] 0) = Y ∧ Y.heap[w.heap.size]? = some (.map #[] 0) ∧ Below w.heap.size w Y ∧ Y.heap.size = w.heap.size + 1 :=
  ⟨_, rfl, alloc_heap_new _ _, (Below.refl _ w).alloc (Nat.le_refl _) _, by simp⟩
theorem slice_two {a a' : Option Addr} {n n' c c' : Nat} (h : Value.slice a n c = .slice a' n' c') : a = a' ∧ c = c' := by
  injection h with h1 _ h3
  exact ⟨h1, h3⟩
theorem vd_at {w W : World} {S : Nat → Prop} {v : Value} {xs : List VD} (h : RowsIn w S 2 vdrow v xs) (hW : ∀ b, S b → W.heap[b]? = w.heap[b]?) {q : Nat} {x : VD} (hx : xs[q]? = some x) :
    ∃ g o c, v = .slice (some ⟨g, o, none⟩) xs.length c ∧ S g ∧ W.cell? ⟨g, o + q * 2, none⟩ = some (.string (mkB x.name)) ∧ W.cell? ⟨g, o + q * 2 + 1, none⟩ = some (.int .i64 x.num) := by
  obtain ⟨ad, c, hsl, hcc, hrows⟩ := h
  rcases hrows with h0 | ⟨g, o, had, hg, hrow⟩
  · rw [h0] at hx; simp at hx
  subst had
  have hb := hW g hg
  have hc : ∀ i u, (vdrow x)[i]? = some u → W.cell? ⟨g, o + (q * 2 + i), none⟩ = some u := fun i u hu => by
    rw [World.cell?_of_block hb]; exact hrow q x hx i u hu
  refine ⟨g, o, c, hsl, hg, ?_, ?_⟩
  · have := hc 0 _ rfl; simpa [Nat.add_assoc] using this
  · have := hc 1 _ rfl; simpa [Nat.add_assoc] using this
theorem td_at {w W : World} {S : Nat → Prop} {v : Value} {xs : List TD} (h : RowsIn w S 5 tdrow v xs) (hW : ∀ b, S b → W.heap[b]? = w.heap[b]?) {q : Nat} {x : TD} (hx : xs[q]? = some x) :
    ∃ g o c, v = .slice (some ⟨g, o, none⟩) xs.length c ∧ S g ∧ W.cell? ⟨g, o + q * 5, none⟩ = some (.int .i64 x.id) ∧ W.cell? ⟨g, o + q * 5 + 1, none⟩ = some (.string (mkB x.service)) ∧ W.cell? ⟨g, o + q * 5 + 2, none⟩ = some (.string (mkB x.name)) ∧ W.cell? ⟨g, o + q * 5 + 3, none⟩ = some (.int .i64 x.inp) ∧ W.cell? ⟨g, o + q * 5 + 4, none⟩ = some (.int .i64 x.out) := by
  obtain ⟨ad, c, hsl, hcc, hrows⟩ := h
  rcases hrows with h0 | ⟨g, o, had, hg, hrow⟩
  · rw [h0] at hx; simp at hx
  subst had
  have hb := hW g hg
  have hc : ∀ i u, (tdrow x)[i]? = some u → W.cell? ⟨g, o + (q * 5 + i), none⟩ = some u := fun i u hu => by
    rw [World.cell?_of_block hb]; exact hrow q x hx i u hu
  refine ⟨g, o, c, hsl, hg, ?_, ?_, ?_, ?_, ?_⟩
  · have := hc 0 _ rfl; simpa [Nat.add_assoc] using this
  · have := hc 1 _ rfl; simpa [Nat.add_assoc] using this
  · have := hc 2 _ rfl; simpa [Nat.add_assoc] using this
  · have := hc 3 _ rfl; simpa [Nat.add_assoc] using this
  · have := hc 4 _ rfl; simpa [Nat.add_assoc] using this
end Go.Proofs.YtkhnicppcbgdiaaGreatDoor
