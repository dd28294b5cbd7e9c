/-
  Words and slices in memory, and steps of the plain reader: what the walks share. Nothing is proved of the program here.
-/
import Derived.Test.YtglkgcpfdhneeaaDoorPsM
import Derived.Test.YtglkgcpfdhneeaaDoorPsT
import Derived.Test.YtglkgcpfdhneeaaDoorPsX
import Derived.Laws.AppendOwn
import Derived.OwnWalk
import Derived.Maps.AppendAt
import Derived.BigQuiet
import Derived.Deep.QuietTactic
import Derived.Deep.AppendLies
import Derived.Lib.Hide
namespace Go.Proofs.YtglkgcpfdhneeaaDoor
set_option linter.unusedVariables false
open Go.ChangeShapes Go.WideShapes Go.ChangeAt Go.RowKit

theorem setCell_heap {w : World} {R j : Nat} {cs : Array Value} {t : TypeId} {fr : Nat × Nat} (h : w.heap[R]? = some (.cells cs t fr)) (x : Value) : (w.setCell ⟨R, j, none⟩ x).heap[R]? = some (.cells (cs.setIfInBounds j x) t fr) := by
  rw [setCell_eq_setRow _ _ _ _ _ _ _ h, setRow_heap w R _ _ _ _ h]
theorem alloc_heap_old (w : World) (o : Obj) (k : Nat) (h : k < w.heap.size) : (w.alloc o).heap[k]? = w.heap[k]? := Below.heap_alloc w o k h
theorem alloc_heap_new (w : World) (o : Obj) : (w.alloc o).heap[w.heap.size]? = some o := by
  show (w.heap.push o)[w.heap.size]? = _
  simp
theorem grownBy_set (w : World) (R j : Nat) (x : Value) : w.grownBy (w.setCell ⟨R, j, none⟩ x) (some R) :=
  have b := (Below.refl R w).setCell (p := ⟨R, j, none⟩) (Nat.le_refl _) x
  ⟨b.os, b.tape, b.output, b.size, fun k hk hne => Below.heap_setCell _ _ _ _ (fun e => hne (by rw [e]))⟩
theorem grownBy_drew (w : World) (row : Option Nat) : w.grownBy w.drew row := ⟨rfl, rfl, rfl, Nat.le_refl _, fun _ _ _ => rfl⟩
theorem grow_then {a b c : World} {row row' : Option Nat} (h : a.grownBy b row) (k : b.grownBy c row') (hr : ∀ j, row' = some j → a.heap.size ≤ j ∨ row = some j) : a.grownBy c row :=
  ⟨k.os.trans h.os, k.tape.trans h.tape, k.output.trans h.output, Nat.le_trans h.size k.size, fun i hi hne => (k.block i (Nat.lt_of_lt_of_le hi h.size) (fun e => by
    rcases hr i e.symm with h1 | h1
    · omega
    · exact hne h1.symm)).trans (h.block i hi hne)⟩

theorem set8 {w : World} {B : Nat} {T : TypeId} {z0 z1 z2 z3 z4 z5 z6 z7 : Value} (h : w.heap[B]? = some (.cells #[z0, z1, z2, z3, z4, z5, z6, z7] T (0, 0))) (x0 x1 x2 x3 x4 x5 x6 x7 : Value) :
    ((((((((w.setCell ⟨B, 0, none⟩ x0).setCell ⟨B, 1, none⟩ x1).setCell ⟨B, 2, none⟩ x2).setCell ⟨B, 3, none⟩ x3).setCell ⟨B, 4, none⟩ x4).setCell ⟨B, 5, none⟩ x5).setCell ⟨B, 6, none⟩ x6).setCell ⟨B, 7, none⟩ x7).heap[B]? = some (.cells #[x0, x1, x2, x3, x4, x5, x6, x7] T (0, 0)) := by
  have h1 : (w.setCell ⟨B, 0, none⟩ x0).heap[B]? = some (.cells #[x0, z1, z2, z3, z4, z5, z6, z7] T (0, 0)) := setCell_heap h _
  have h2 : ((w.setCell ⟨B, 0, none⟩ x0).setCell ⟨B, 1, none⟩ x1).heap[B]? = some (.cells #[x0, x1, z2, z3, z4, z5, z6, z7] T (0, 0)) := setCell_heap h1 _
  have h3 : (((w.setCell ⟨B, 0, none⟩ x0).setCell ⟨B, 1, none⟩ x1).setCell ⟨B, 2, none⟩ x2).heap[B]? = some (.cells #[x0, x1, x2, z3, z4, z5, z6, z7] T (0, 0)) := setCell_heap h2 _
  have h4 : ((((w.setCell ⟨B, 0, none⟩ x0).setCell ⟨B, 1, none⟩ x1).setCell ⟨B, 2, none⟩ x2).setCell ⟨B, 3, none⟩ x3).heap[B]? = some (.cells #[x0, x1, x2, x3, z4, z5, z6, z7] T (0, 0)) := setCell_heap h3 _
  have h5 : (((((w.setCell ⟨B, 0, none⟩ x0).setCell ⟨B, 1, none⟩ x1).setCell ⟨B, 2, none⟩ x2).setCell ⟨B, 3, none⟩ x3).setCell ⟨B, 4, none⟩ x4).heap[B]? = some (.cells #[x0, x1, x2, x3, x4, z5, z6, z7] T (0, 0)) := setCell_heap h4 _
  have h6 : ((((((w.setCell ⟨B, 0, none⟩ x0).setCell ⟨B, 1, none⟩ x1).setCell ⟨B, 2, none⟩ x2).setCell ⟨B, 3, none⟩ x3).setCell ⟨B, 4, none⟩ x4).setCell ⟨B, 5, none⟩ x5).heap[B]? = some (.cells #[x0, x1, x2, x3, x4, x5, z6, z7] T (0, 0)) := setCell_heap h5 _
  have h7 : (((((((w.setCell ⟨B, 0, none⟩ x0).setCell ⟨B, 1, none⟩ x1).setCell ⟨B, 2, none⟩ x2).setCell ⟨B, 3, none⟩ x3).setCell ⟨B, 4, none⟩ x4).setCell ⟨B, 5, none⟩ x5).setCell ⟨B, 6, none⟩ x6).heap[B]? = some (.cells #[x0, x1, x2, x3, x4, x5, x6, z7] T (0, 0)) := setCell_heap h6 _
  have h8 : ((((((((w.setCell ⟨B, 0, none⟩ x0).setCell ⟨B, 1, none⟩ x1).setCell ⟨B, 2, none⟩ x2).setCell ⟨B, 3, none⟩ x3).setCell ⟨B, 4, none⟩ x4).setCell ⟨B, 5, none⟩ x5).setCell ⟨B, 6, none⟩ x6).setCell ⟨B, 7, none⟩ x7).heap[B]? = some (.cells #[x0, x1, x2, x3, x4, x5, x6, x7] T (0, 0)) := setCell_heap h7 _
  exact h8
theorem own_block {w : World} {base : Nat} {E : TypeId} {k n : Nat} {v : Value} {xs : List Value} (h : w.ownsRow base E k v n xs) : ∀ b, v.ownBlock = some b → base ≤ b ∧ b < w.heap.size := by
  intro b hb
  obtain ⟨_, ⟨rfl, _⟩ | ⟨g, cap, cur, rfl, hg, hh, _⟩⟩ := h
  · simp [Value.ownBlock] at hb
  · simp [Value.ownBlock] at hb
    have := (Array.getElem?_eq_some_iff.1 hh).1
    omega
theorem own_slice {w : World} {base : Nat} {E : TypeId} {k n : Nat} {v : Value} {xs : List Value} (h : w.ownsRow base E k v n xs) : ∃ a c, v = .slice a n c := by
  obtain ⟨_, ⟨rfl, h0⟩ | ⟨g, cap, cur, rfl, _⟩⟩ := h
  · exact ⟨none, 0, by rw [h0]⟩
  · exact ⟨_, _, rfl⟩
theorem own_keep {w w' : World} {base : Nat} {E : TypeId} {k n : Nat} {v : Value} {xs : List Value} (h : w.ownsRow base E k v n xs) (hh : ∀ b, v.ownBlock = some b → w'.heap[b]? = w.heap[b]?) : w'.ownsRow base E k v n xs := by
  obtain ⟨h1, h2 | ⟨g, cap, cur, hv, hg, hhp, r⟩⟩ := h
  · exact ⟨h1, .inl h2⟩
  · exact ⟨h1, .inr ⟨g, cap, cur, hv, hg, by rw [hh g (by rw [hv]; rfl)]; exact hhp, r⟩⟩
abbrev z8 : Array Value := #[.int .i64 0, .string ⟨#[]⟩, .int .i64 0, .int .i64 0, .slice none 0 0, .slice none 0 0, .slice none 0 0, .slice none 0 0]
abbrev z6 : Array Value := #[.bool false, .string ⟨#[]⟩, .string ⟨#[]⟩, .int .i64 0, .int .i64 0, .int .i64 0]
theorem flat8 : ∀ (rs : List (List Value)) (j : Nat) (r : List Value) (i : Nat), (∀ r ∈ rs, r.length = 8) → i < 8 → rs[j]? = some r → (rs.flatMap id)[j * 8 + i]? = r[i]?
  | [], j, r, i, h8, hi, h => by simp at h
  | a :: t, 0, r, i, h8, hi, h => by
    have e : a = r := by simpa using h
    subst e
    rw [List.flatMap_cons, Nat.zero_mul, Nat.zero_add, List.getElem?_append_left (by show i < (id a).length; rw [show (id a).length = 8 from h8 a (by simp)]; exact hi)]; rfl
  | a :: t, j + 1, r, i, h8, hi, h => by
    have ha : (id a).length = 8 := h8 a (by simp)
    rw [List.flatMap_cons, List.getElem?_append_right (by rw [ha]; omega), ha, show (j + 1) * 8 + i - 8 = j * 8 + i by omega]
    exact flat8 t j r i (fun x hx => h8 x (by simp [hx])) hi (by simpa using h)
end Go.Proofs.YtglkgcpfdhneeaaDoor
