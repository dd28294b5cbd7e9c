/-
  Plain words on a new block of bytes in memory, and what a row of bytes is worth behind later changes. Nothing is proved of the program here.
-/
import Derived.Test.YtjjkijoabcjmmaaDoorBase
import Derived.Laws.MakeOwn
import Derived.Laws.CopyRow
import Derived.Laws.CopyOwn
import Derived.Laws.IdiomCopy
namespace Go.Proofs.YtjjkijoabcjmmaaDoor
set_option linter.unusedVariables false
open Go.ChangeShapes Go.WideShapes Go.ChangeAt Go.RowKit

/-- the world with one new block, the bytes l -/
def blk (w : World) (t : TypeId) (l : List Int) : World := w.alloc (.cells (l.map (Value.int .u8)).toArray t)

theorem blk_heap (w : World) (t : TypeId) (l : List Int) : (blk w t l).heap[w.heap.size]? = some (.cells (l.map (Value.int .u8)).toArray t) := by
  show (w.heap.push _)[w.heap.size]? = _
  simp
theorem blk_size (w : World) (t : TypeId) (l : List Int) : (blk w t l).heap.size = w.heap.size + 1 := by simp [blk]
theorem blk_cell (w : World) (t : TypeId) (l : List Int) {j : Nat} {z : Int} (h : l[j]? = some z) : (blk w t l).cell? ⟨w.heap.size, j, none⟩ = some (.int .u8 z) := by
  simp [World.cell?, blk_heap, h]
theorem blk_below (w : World) (t : TypeId) (l : List Int) : Below w.heap.size w (blk w t l) := (Below.refl _ _).alloc (Nat.le_refl _) _
theorem held_blk (w : World) (t : TypeId) (l : List Int) (h : ∀ z ∈ l, 0 ≤ z ∧ z ≤ 255) : Held (blk w t l) w.heap.size 0 l :=
  ⟨fun j z hj => by rw [Nat.zero_add]; exact blk_cell w t l hj, h⟩
theorem isB_blk (w : World) (t : TypeId) (l : List Int) (h : ∀ z ∈ l, 0 ≤ z ∧ z ≤ 255) (hm : l.length ≤ 281474976710656) : IsB (blk w t l) (some ⟨w.heap.size, 0, none⟩) l.length l :=
  ⟨rfl, hm, .inr ⟨_, _, rfl, held_blk w t l h⟩⟩
theorem cell_ltB {w : World} {b o : Nat} {v : Value} (h : w.cell? ⟨b, o, none⟩ = some v) : b < w.heap.size := by
  by_cases hb : b < w.heap.size
  · exact hb
  · simp [World.cell?, Array.getElem?_eq_none (Nat.le_of_not_lt hb)] at h
theorem held_old {w w' : World} {b off : Nat} {zs : List Int} (h : Held w b off zs) (hb : Below w.heap.size w w') : Held w' b off zs :=
  ⟨fun j z hj => by have hc := h.1 j z hj; rw [hb.cell (cell_ltB hc)]; exact hc, h.2⟩
theorem isB_old {w w' : World} {a : Option Addr} {len : Nat} {zs : List Int} (h : IsB w a len zs) (hb : Below w.heap.size w w') : IsB w' a len zs := by
  obtain ⟨h1, h2, h3⟩ := h
  refine ⟨h1, h2, ?_⟩
  rcases h3 with h3 | ⟨b, off, ha, hh⟩
  · exact .inl h3
  · exact .inr ⟨b, off, ha, held_old hh hb⟩
theorem add_off (b o j : Nat) : (⟨b, o, none⟩ : Addr).add j = ⟨b, o + j, none⟩ := by unfold Addr.add; split <;> simp_all
end Go.Proofs.YtjjkijoabcjmmaaDoor
