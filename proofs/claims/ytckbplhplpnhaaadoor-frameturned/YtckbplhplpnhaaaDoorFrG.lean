/-
  Slices of bytes that are cut, at the level of one operation; an array of nine numbers that is filled.
-/
import Derived.Test.YtckbplhplpnhaaaDoorFrA
namespace Go.Proofs.YtckbplhplpnhaaaDoor
set_option linter.unusedVariables false
open Go.ChangeShapes Go.WideShapes Go.ChangeAt Go.RowKit

/-- where a slice lies that is cut off ahead -/
def cutA (a : Option Addr) (c k : Nat) : Option Addr := if c = k then a else a.map (·.add k)
/-- bytes that lie in a slice with room -/
def SlB (w : World) (a : Option Addr) (len cap : Nat) (zs : List Int) : Prop := IsB w a len zs ∧ len ≤ cap ∧ (a = none → len = 0 ∧ cap = 0)
theorem cut_from (a : Option Addr) (n c k : Nat) (hk : k ≤ n) (hn : n ≤ c) (W : World) :
    (Instr.slice 23 (.slice a n c) (some (.int .i64 (k : Int))) none none).run Tryd.prog W = .ok (.slice (cutA a c k) (n - k) (c - k)) W := by
  have h0 : (0 : Int) ≤ (k : Int) := by omega
  unfold cutA
  by_cases h : c = k
  · simp [go_sem, Instr.slice, Instr.sliceBounds, Instr.sliceBound, h, h0, hk]
  · simp [go_sem, Instr.slice, Instr.sliceBounds, Instr.sliceBound, h, h0, hk]
theorem cut_both (a : Option Addr) (n c k m : Nat) (hk : k ≤ m) (hm : m ≤ n) (hn : n ≤ c) (W : World) :
    (Instr.slice 23 (.slice a n c) (some (.int .i64 (k : Int))) (some (.int .i64 (m : Int))) none).run Tryd.prog W = .ok (.slice (cutA a c k) (m - k) (c - k)) W := by
  have h0 : (0 : Int) ≤ (k : Int) := by omega
  have h2 : (0 : Int) ≤ (m : Int) := by omega
  unfold cutA
  by_cases h : c = k
  · simp [go_sem, Instr.slice, Instr.sliceBounds, Instr.sliceBound, h, h0, h2, hk]
    intro hx; omega
  · simp [go_sem, Instr.slice, Instr.sliceBounds, Instr.sliceBound, h, h0, h2, hk]
    intro hx; omega
theorem cut_to (a : Option Addr) (n c m : Nat) (hm : m ≤ n) (hn : n ≤ c) (W : World) :
    (Instr.slice 23 (.slice a n c) none (some (.int .u64 (m : Int))) none).run Tryd.prog W = .ok (.slice a m c) W := by
  have h2 : (0 : Int) ≤ (m : Int) := by omega
  have h4 : m ≤ c := by omega
  simp [go_sem, Instr.slice, Instr.sliceBounds, Instr.sliceBound, h2, h4]
theorem isB_cut {w : World} {a : Option Addr} {n c : Nat} {zs : List Int} (h : SlB w a n c zs) (k m : Nat) (hk : k ≤ m) (hm : m ≤ n) : SlB w (cutA a c k) (m - k) (c - k) ((zs.drop k).take (m - k)) := by
  obtain ⟨⟨h1, h2, h3⟩, h4, h6⟩ := h
  refine ⟨⟨by rw [List.length_take, List.length_drop]; omega, by omega, ?_⟩, by omega, ?_⟩
  · rcases h3 with rfl | ⟨b, off, rfl, hh⟩
    · left; simp
    · by_cases hc : c = k
      · left
        have : m - k = 0 := by omega
        rw [this, List.take_zero]
      · right
        refine ⟨b, off + k, by unfold cutA; rw [if_neg hc]; simp [add_off], fun j z hj => ?_, fun z hz => hh.2 z (List.mem_of_mem_drop (List.mem_of_mem_take hz))⟩
        rw [List.getElem?_take] at hj
        split at hj
        · rw [List.getElem?_drop] at hj
          have := hh.1 (k + j) z hj
          rwa [Nat.add_assoc]
        · cases hj
  · intro e
    unfold cutA at e
    split at e
    · have := h6 e; omega
    · cases a with
      | none => have := h6 rfl; omega
      | some x => simp at e
theorem slB_old {w w' : World} {a : Option Addr} {n c : Nat} {zs : List Int} (h : SlB w a n c zs) (hb : Below w.heap.size w w') : SlB w' a n c zs := ⟨isB_old h.1 hb, h.2⟩
theorem own_slB {w : World} {base : Nat} {v : Value} {xs : List Int} (h : OwnB w base v xs) (hb : ∀ z ∈ xs, 0 ≤ z ∧ z ≤ 255) (hm : xs.length ≤ 281474976710656) : ∃ a c, v = .slice a xs.length c ∧ SlB w a xs.length c xs := by
  obtain ⟨a, c, h1, h2, h3, h4⟩ := own_isB h hb hm
  exact ⟨a, c, h1, h2, h3, h4⟩
theorem cutA_some (a : Addr) (c k : Nat) : ∃ y, cutA (some a) c k = some y := by
  unfold cutA
  split
  · exact ⟨_, rfl⟩
  · exact ⟨_, rfl⟩
theorem argB_slB {w : World} {a : Option Addr} {n c : Nat} {zs : List Int} (h : ArgB w a n c zs) : SlB w a n c zs := ⟨h.isB, h.2.1, h.none_of⟩
/-- nine numbers in a block -/
def Nin (w : World) (b : Nat) (l : List Int) : Prop := l.length = 9 ∧ w.heap[b]? = some (.cells (l.map (Value.int .u64)).toArray 37)
theorem Nin.cell {w : World} {b : Nat} {l : List Int} (h : Nin w b l) {j : Nat} (hj : j < 9) : w.cell? ⟨b, j, none⟩ = some (.int .u64 (l.getD j 0)) := by
  have e : l[j]? = some (l.getD j 0) := by rw [List.getD_eq_getElem?_getD, List.getElem?_eq_getElem (by rw [h.1]; exact hj)]; rfl
  simp only [World.cell?, h.2]
  rw [List.getElem?_toArray, List.getElem?_map, e]
  rfl
theorem Nin.frozen {w : World} {b : Nat} {l : List Int} (h : Nin w b l) (j : Nat) : w.frozen? ⟨b, j, none⟩ = false := by simp [World.frozen?, h.2]
set_option maxRecDepth 4000 in
theorem Nin.set {w : World} {b : Nat} {l : List Int} (h : Nin w b l) (j : Nat) (z : Int) : Nin (w.setCell ⟨b, j, none⟩ (.int .u64 z)) b (l.set j z) := by
  refine ⟨by rw [List.length_set]; exact h.1, ?_⟩
  rw [setCell_eq_setRow _ _ _ _ _ _ _ h.2, setRow_heap w b _ _ _ _ h.2, List.map_set, List.setIfInBounds_toArray]
theorem Nin.below {w w' : World} {b B : Nat} {l : List Int} (h : Nin w b l) (hb : Below B w w') (hB : b < B) : Nin w' b l := ⟨h.1, by rw [hb.block b hB]; exact h.2⟩
theorem setCell_row {w : World} {B i : Nat} {T : TypeId} {cs : Array Value} (h : w.heap[B]? = some (.cells cs T (0, 0))) (v : Value) : (w.setCell ⟨B, i, none⟩ v).heap[B]? = some (.cells (cs.setIfInBounds i v) T (0, 0)) := by
  rw [setCell_eq_setRow _ _ _ _ _ _ _ h, setRow_heap w B _ _ _ _ h]
theorem set9_all {w : World} {B : Nat} {T : TypeId} {z0 z1 z2 z3 z4 z5 z6 z7 z8 : Value} (h : w.heap[B]? = some (.cells #[z0, z1, z2, z3, z4, z5, z6, z7, z8] T (0, 0))) (x0 x1 x2 x3 x4 x5 x6 x7 x8 : Value) :
    ∃ Y, (((((((((w.setCell ⟨B, 0, none⟩ x0).setCell ⟨B, 1, none⟩ x1).setCell ⟨B, 2, none⟩ x2).setCell ⟨B, 3, none⟩ x3).setCell ⟨B, 4, none⟩ x4).setCell ⟨B, 5, none⟩ x5).setCell ⟨B, 6, none⟩ x6).setCell ⟨B, 7, none⟩ x7).setCell ⟨B, 8, none⟩ x8) = Y ∧ Y.heap[B]? = some (.cells #[x0, x1, x2, x3, x4, x5, x6, x7, x8] T (0, 0)) ∧ (∀ b, b ≠ B → Y.heap[b]? = w.heap[b]?) ∧ Y.heap.size = w.heap.size ∧ Below B w Y := by
  have h1 : (w.setCell ⟨B, 0, none⟩ x0).heap[B]? = some (.cells #[x0, z1, z2, z3, z4, z5, z6, z7, z8] T (0, 0)) := setCell_row h _
  have h2 : ((w.setCell ⟨B, 0, none⟩ x0).setCell ⟨B, 1, none⟩ x1).heap[B]? = some (.cells #[x0, x1, z2, z3, z4, z5, z6, z7, z8] T (0, 0)) := setCell_row h1 _
  have h3 : (((w.setCell ⟨B, 0, none⟩ x0).setCell ⟨B, 1, none⟩ x1).setCell ⟨B, 2, none⟩ x2).heap[B]? = some (.cells #[x0, x1, x2, z3, z4, z5, z6, z7, z8] T (0, 0)) := setCell_row h2 _
  have h4 : ((((w.setCell ⟨B, 0, none⟩ x0).setCell ⟨B, 1, none⟩ x1).setCell ⟨B, 2, none⟩ x2).setCell ⟨B, 3, none⟩ x3).heap[B]? = some (.cells #[x0, x1, x2, x3, z4, z5, z6, z7, z8] T (0, 0)) := setCell_row h3 _
  have h5 : (((((w.setCell ⟨B, 0, none⟩ x0).setCell ⟨B, 1, none⟩ x1).setCell ⟨B, 2, none⟩ x2).setCell ⟨B, 3, none⟩ x3).setCell ⟨B, 4, none⟩ x4).heap[B]? = some (.cells #[x0, x1, x2, x3, x4, z5, z6, z7, z8] T (0, 0)) := setCell_row h4 _
  have h6 : ((((((w.setCell ⟨B, 0, none⟩ x0).setCell ⟨B, 1, none⟩ x1).setCell ⟨B, 2, none⟩ x2).setCell ⟨B, 3, none⟩ x3).setCell ⟨B, 4, none⟩ x4).setCell ⟨B, 5, none⟩ x5).heap[B]? = some (.cells #[x0, x1, x2, x3, x4, x5, z6, z7, z8] T (0, 0)) := setCell_row h5 _
  have h7 : (((((((w.setCell ⟨B, 0, none⟩ x0).setCell ⟨B, 1, none⟩ x1).setCell ⟨B, 2, none⟩ x2).setCell ⟨B, 3, none⟩ x3).setCell ⟨B, 4, none⟩ x4).setCell ⟨B, 5, none⟩ x5).setCell ⟨B, 6, none⟩ x6).heap[B]? = some (.cells #[x0, x1, x2, x3, x4, x5, x6, z7, z8] T (0, 0)) := setCell_row h6 _
  have h8 : ((((((((w.setCell ⟨B, 0, none⟩ x0).setCell ⟨B, 1, none⟩ x1).setCell ⟨B, 2, none⟩ x2).setCell ⟨B, 3, none⟩ x3).setCell ⟨B, 4, none⟩ x4).setCell ⟨B, 5, none⟩ x5).setCell ⟨B, 6, none⟩ x6).setCell ⟨B, 7, none⟩ x7).heap[B]? = some (.cells #[x0, x1, x2, x3, x4, x5, x6, x7, z8] T (0, 0)) := setCell_row h7 _
  have h9 : (((((((((w.setCell ⟨B, 0, none⟩ x0).setCell ⟨B, 1, none⟩ x1).setCell ⟨B, 2, none⟩ x2).setCell ⟨B, 3, none⟩ x3).setCell ⟨B, 4, none⟩ x4).setCell ⟨B, 5, none⟩ x5).setCell ⟨B, 6, none⟩ x6).setCell ⟨B, 7, none⟩ x7).setCell ⟨B, 8, none⟩ x8).heap[B]? = some (.cells #[x0, x1, x2, x3, x4, x5, x6, x7, x8] T (0, 0)) := setCell_row h8 _
  have hb : Below B w (((((((((w.setCell ⟨B, 0, none⟩ x0).setCell ⟨B, 1, none⟩ x1).setCell ⟨B, 2, none⟩ x2).setCell ⟨B, 3, none⟩ x3).setCell ⟨B, 4, none⟩ x4).setCell ⟨B, 5, none⟩ x5).setCell ⟨B, 6, none⟩ x6).setCell ⟨B, 7, none⟩ x7).setCell ⟨B, 8, none⟩ x8) := ((((((((((Below.refl B w).setCell (p := ⟨B, 0, none⟩) (Nat.le_refl _) x0).setCell (p := ⟨B, 1, none⟩) (Nat.le_refl _) x1).setCell (p := ⟨B, 2, none⟩) (Nat.le_refl _) x2).setCell (p := ⟨B, 3, none⟩) (Nat.le_refl _) x3).setCell (p := ⟨B, 4, none⟩) (Nat.le_refl _) x4).setCell (p := ⟨B, 5, none⟩) (Nat.le_refl _) x5).setCell (p := ⟨B, 6, none⟩) (Nat.le_refl _) x6).setCell (p := ⟨B, 7, none⟩) (Nat.le_refl _) x7).setCell (p := ⟨B, 8, none⟩) (Nat.le_refl _) x8)
  refine ⟨_, rfl, h9, fun b hb => ?_, by simp, hb⟩
  rw [Below.heap_setCell _ _ _ _ (show b ≠ (⟨B, 8, none⟩ : Addr).block from hb), Below.heap_setCell _ _ _ _ (show b ≠ (⟨B, 7, none⟩ : Addr).block from hb), Below.heap_setCell _ _ _ _ (show b ≠ (⟨B, 6, none⟩ : Addr).block from hb), Below.heap_setCell _ _ _ _ (show b ≠ (⟨B, 5, none⟩ : Addr).block from hb), Below.heap_setCell _ _ _ _ (show b ≠ (⟨B, 4, none⟩ : Addr).block from hb), Below.heap_setCell _ _ _ _ (show b ≠ (⟨B, 3, none⟩ : Addr).block from hb), Below.heap_setCell _ _ _ _ (show b ≠ (⟨B, 2, none⟩ : Addr).block from hb), Below.heap_setCell _ _ _ _ (show b ≠ (⟨B, 1, none⟩ : Addr).block from hb), Below.heap_setCell _ _ _ _ (show b ≠ (⟨B, 0, none⟩ : Addr).block from hb)]
theorem cells9 {w : World} {B : Nat} {T : TypeId} {z0 z1 z2 z3 z4 z5 z6 z7 z8 : Value} (h : w.heap[B]? = some (.cells #[z0, z1, z2, z3, z4, z5, z6, z7, z8] T (0, 0))) : (w.cell? ⟨B, 0, none⟩ = some z0 ∧ w.cell? ⟨B, 1, none⟩ = some z1 ∧ w.cell? ⟨B, 2, none⟩ = some z2 ∧ w.cell? ⟨B, 3, none⟩ = some z3 ∧ w.cell? ⟨B, 4, none⟩ = some z4 ∧ w.cell? ⟨B, 5, none⟩ = some z5 ∧ w.cell? ⟨B, 6, none⟩ = some z6 ∧ w.cell? ⟨B, 7, none⟩ = some z7 ∧ w.cell? ⟨B, 8, none⟩ = some z8) ∧ ∀ j, w.frozen? ⟨B, j, none⟩ = false := by
  refine ⟨⟨?_, ?_, ?_, ?_, ?_, ?_, ?_, ?_, ?_⟩, fun j => by simp [World.frozen?, h]⟩ <;> (simp only [World.cell?, h]; rfl)
theorem alloc_heapF (w : World) (o : Obj) : (w.alloc o).heap[w.heap.size]? = some o := by
  show (w.heap.push o)[w.heap.size]? = some o
  exact Array.getElem?_push_size
end Go.Proofs.YtckbplhplpnhaaaDoor
