/-
  Plain words on a new block of bytes in memory, and what a row of bytes is worth behind later changes. Nothing is proved of the program here.
-/
import Derived.Test.YtckbplhplpnhaaaDoorBase
import Derived.Laws.MakeOwn
import Derived.Laws.CopyRow
import Derived.Laws.CopyOwn
import Derived.Laws.IdiomCopy
namespace Go.Proofs.YtckbplhplpnhaaaDoor
set_option linter.unusedVariables false
open Go.ChangeShapes Go.WideShapes Go.ChangeAt Go.RowKit

/-- the world with one new block, the bytes l -/
def blk (w : World) (t : TypeId) (l : List Int) : World := w.alloc (.cells (l.map (Value.int .u8)).toArray t)

theorem blk_heap (w : World) (t : TypeId) (l : List Int) : (blk w t l).heap[w.heap.size]? = some (.cells (l.map (Value.int .u8)).toArray t) := by
  show (w.heap.push _)[w.heap.size]? = _
  simp
theorem blk_size (w : World) (t : TypeId) (l : List Int) : (blk w t l).heap.size = w.heap.size + 1 := by simp [blk]
theorem blk_cell (w : World) (t : TypeId) (l : List Int) {j : Nat} {z : Int} (h : l[j]? = some z) : (blk w t l).cell? ⟨w.heap.size, j, none⟩ = some (.int .u8 z) := by
  simp [World.cell?, blk_heap, h]
theorem blk_frozen (w : World) (t : TypeId) (l : List Int) (j : Nat) : (blk w t l).frozen? ⟨w.heap.size, j, none⟩ = false := by
  simp [World.frozen?, blk_heap]
theorem blk_below (w : World) (t : TypeId) (l : List Int) : Below w.heap.size w (blk w t l) := (Below.refl _ _).alloc (Nat.le_refl _) _
theorem blk_row (w : World) (t : TypeId) (l : List Int) (c : Array Value) : (blk w t l).setRow w.heap.size c = w.alloc (.cells c t) := by
  cases w with
  | mk heap tape drawn os output =>
    show World.mk ((heap.push _).modify heap.size _) tape drawn os output = World.mk (heap.push _) tape drawn os output
    congr 1
    apply Array.ext
    · simp
    · intro k h1 h2
      simp only [Array.getElem_modify, Array.getElem_push]
      by_cases hk : heap.size = k
      · subst hk; simp
      · have hlt : k < heap.size := by simp at h2; omega
        simp [hk, hlt]
theorem blk_set (w : World) (t : TypeId) (l : List Int) (j : Nat) (z : Int) : (blk w t l).setCell ⟨w.heap.size, j, none⟩ (.int .u8 z) = blk w t (l.set j z) := by
  rw [setCell_eq_setRow _ _ _ _ _ _ _ (blk_heap w t l), blk_row]
  unfold blk
  congr 2
  simp [List.map_set]
theorem held_blk (w : World) (t : TypeId) (l : List Int) (h : ∀ z ∈ l, 0 ≤ z ∧ z ≤ 255) : Held (blk w t l) w.heap.size 0 l :=
  ⟨fun j z hj => by rw [Nat.zero_add]; exact blk_cell w t l hj, h⟩
theorem isB_blk (w : World) (t : TypeId) (l : List Int) (h : ∀ z ∈ l, 0 ≤ z ∧ z ≤ 255) (hm : l.length ≤ 281474976710656) : IsB (blk w t l) (some ⟨w.heap.size, 0, none⟩) l.length l :=
  ⟨rfl, hm, .inr ⟨_, _, rfl, held_blk w t l h⟩⟩
theorem cell_ltB {w : World} {b o : Nat} {v : Value} (h : w.cell? ⟨b, o, none⟩ = some v) : b < w.heap.size := by
  by_cases hb : b < w.heap.size
  · exact hb
  · simp [World.cell?, Array.getElem?_eq_none (Nat.le_of_not_lt hb)] at h
theorem held_old {w w' : World} {b off : Nat} {zs : List Int} (h : Held w b off zs) (hb : Below w.heap.size w w') : Held w' b off zs :=
  ⟨fun j z hj => by have hc := h.1 j z hj; rw [hb.cell (cell_ltB hc)]; exact hc, h.2⟩
theorem isB_old {w w' : World} {a : Option Addr} {len : Nat} {zs : List Int} (h : IsB w a len zs) (hb : Below w.heap.size w w') : IsB w' a len zs := by
  obtain ⟨h1, h2, h3⟩ := h
  refine ⟨h1, h2, ?_⟩
  rcases h3 with h3 | ⟨b, off, ha, hh⟩
  · exact .inl h3
  · exact .inr ⟨b, off, ha, held_old hh hb⟩
theorem isB_bytes {w : World} {a : Option Addr} {len : Nat} {zs : List Int} (h : IsB w a len zs) : ∀ z ∈ zs, 0 ≤ z ∧ z ≤ 255 := by
  obtain ⟨_, _, rfl | ⟨b, off, _, hh⟩⟩ := h
  · simp
  · exact hh.2
theorem add_off (b o j : Nat) : (⟨b, o, none⟩ : Addr).add j = ⟨b, o + j, none⟩ := by unfold Addr.add; split <;> simp_all
end Go.Proofs.YtckbplhplpnhaaaDoor
