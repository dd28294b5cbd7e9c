/-
  The walk over the program's copied, with the function that its Normal hands to it: the normal value, in new memory.
-/
import Derived.Test.YtknijddlacmelaaDoorM10
import Derived.Test.YtknijddlacmelaaDoorM3
import Derived.Test.YtknijddlacmelaaDoorRows
import Derived.Test.YtknijddlacmelaaDoorM11
import Derived.Test.YtknijddlacmelaaDoorM12
import Derived.Test.YtknijddlacmelaaDoorM13
import Derived.Test.YtknijddlacmelaaDoorM15
import Derived.Test.YtknijddlacmelaaDoorM1
import Derived.Deep.Cut
import Derived.Deep.DeepCutAuto
namespace Go.Proofs.YtknijddlacmelaaDoor
set_option linter.unusedVariables false
open Go.ChangeShapes Go.WideShapes Go.ChangeAt Go.RowKit

section
variable {P : Program} {ops : Array Oper} {Q : Exit → Act → World → Prop} {md : Region.Mode} {S : World → Prop}
theorem T_two (i j : Nat) {oi oj : Oper} {fuel : Nat} {l : Array Bool} {a : Act} {w : World} (hr : Region.ready md ops l = [i, j]) (hi : ops[i]? = some oi) (hj : ops[j]? = some oj)
    (h : ∀ K' : Act → World → Prop, Shut (∀ a w, S w → (S w → wpAnyH P md ops Q S fuel (l.setIfInBounds i true) a w) → K' a w) → if Region.wanted oi (yielded ops a.tmps) = true then Oper.wp P oi a w K' Q else K' (a.put oi.dst undef) w)
    (h' : ∀ K' : Act → World → Prop, Shut (∀ a w, S w → (S w → wpAnyH P md ops Q S fuel (l.setIfInBounds j true) a w) → K' a w) → if Region.wanted oj (yielded ops a.tmps) = true then Oper.wp P oj a w K' Q else K' (a.put oj.dst undef) w) : wpAnyH P md ops Q S (fuel + 1) l a w :=
  wpAnyH_ready hr (by simp) (AllReadyH.cons hi h (AllReadyH.cons hj h' AllReadyH.nil))
end
theorem set3V {w : World} {B : Nat} {T : TypeId} {z0 z1 z2 : Value} (h : w.heap[B]? = some (.cells #[z0, z1, z2] T (0, 0))) (x0 x1 x2 : Value) :
    ∃ Y, ((w.setCell ⟨B, 0, none⟩ x0).setCell ⟨B, 1, none⟩ x1).setCell ⟨B, 2, none⟩ x2 = Y ∧ Y.heap[B]? = some (.cells #[x0, x1, x2] T (0, 0)) ∧ Below B w Y := by
  have h1 : (w.setCell ⟨B, 0, none⟩ x0).heap[B]? = some (.cells #[x0, z1, z2] T (0, 0)) := setCell_heap h _
  have h2 : ((w.setCell ⟨B, 0, none⟩ x0).setCell ⟨B, 1, none⟩ x1).heap[B]? = some (.cells #[x0, x1, z2] T (0, 0)) := setCell_heap h1 _
  have h3 : (((w.setCell ⟨B, 0, none⟩ x0).setCell ⟨B, 1, none⟩ x1).setCell ⟨B, 2, none⟩ x2).heap[B]? = some (.cells #[x0, x1, x2] T (0, 0)) := setCell_heap h2 _
  exact ⟨_, rfl, h3, ((((Below.refl B w).setCell (p := ⟨B, 0, none⟩) (Nat.le_refl _) x0).setCell (p := ⟨B, 1, none⟩) (Nat.le_refl _) x1).setCell (p := ⟨B, 2, none⟩) (Nat.le_refl _) x2)⟩
theorem made_V (n : Nat) : madeCells (Value.nilIface).cells n = (List.replicate n Value.nilIface).toArray := by
  apply Array.ext
  · simp [madeCells, Value.cells]
  · intro i h1 h2
    simp [madeCells, Value.cells, Nat.mod_one]
theorem run_makeV (w : World) (n : Nat) (h : n ≤ 100000) :
    (Instr.makeSlice 39 (.int .i64 (n : Int)) (.int .i64 (n : Int))).run Tryd.prog w = .ok (.slice (some ⟨w.heap.size, 0, none⟩) n n) (w.alloc (.cells (List.replicate n Value.nilIface).toArray 34)) := by
  obtain ⟨i0, hi, hz0, hz1, hz2⟩ := info_parts infoVV
  have := run_make (P := Tryd.prog) w 39 34 i0 .nilIface Tryd.underlying39 hi hz0 .i64 .i64 n n (by omega) (by omega) (by rw [hz2]; omega) (by omega)
  rw [this]
  simp only [Int.toNat_natCast, hz1, Nat.mul_one]
  rw [made_V]
theorem set_made {vs : List Value} {k q : Nat} (hq : vs.length = q) (z v : Value) : ((vs ++ List.replicate (k + 1) z).toArray.setIfInBounds q v) = ((vs ++ [v]) ++ List.replicate k z).toArray := by
  subst hq
  apply Array.toList_inj.1
  simp [List.replicate_succ]
/-- values that a loop has filled in so far -/
def Filled (w : World) (B f : Nat) (g : Nd → Nd) (ys : List Nd) (vs : List Value) : Prop := vs.length = ys.length ∧ ∀ (k : Nat) (y : Nd) (v : Value), ys[k]? = some y → vs[k]? = some v → HeldV w (fun b => B < b ∧ b < w.heap.size) f v (g y)
theorem Filled.mv {w w' : World} {B f : Nat} {g : Nd → Nd} {ys : List Nd} {vs : List Value} (h : Filled w B f g ys vs) (hb : ∀ b, B < b → b < w.heap.size → w'.heap[b]? = w.heap[b]?) (hs : w.heap.size ≤ w'.heap.size) : Filled w' B f g ys vs :=
  ⟨h.1, fun k y v h1 h2 => (h.2 k y v h1 h2).mv (fun b hb' => hb b hb'.1 hb'.2) (fun b hb' => ⟨hb'.1, by have := hb'.2; omega⟩)⟩
theorem Filled.snoc {w : World} {B f : Nat} {g : Nd → Nd} {ys : List Nd} {vs : List Value} (h : Filled w B f g ys vs) {y : Nd} {v : Value} (hv : HeldV w (fun b => B < b ∧ b < w.heap.size) f v (g y)) : Filled w B f g (ys ++ [y]) (vs ++ [v]) := by
  refine ⟨by simp [h.1], fun k x u h1 h2 => ?_⟩
  rcases Nat.lt_or_ge k ys.length with hl | hl
  · rw [List.getElem?_append_left hl] at h1
    rw [List.getElem?_append_left (by rw [h.1]; exact hl)] at h2
    exact h.2 k x u h1 h2
  · rw [List.getElem?_append_right hl] at h1
    rw [List.getElem?_append_right (by rw [h.1]; exact hl), h.1] at h2
    have hj : k - ys.length = 0 := by
      have := (List.getElem?_eq_some_iff.1 h1).1
      simpa using this
    rw [hj] at h1 h2
    have e1 : y = x := by simpa using h1
    have e2 : v = u := by simpa using h2
    subst e1 e2
    exact hv
theorem Filled.vals {w : World} {B f n : Nat} {g : Nd → Nd} {ys : List Nd} {vs : List Value} {T : TypeId} (h : Filled w B f g ys vs) (hB : w.heap[B]? = some (.cells vs.toArray T (0, 0))) (hn : ys.length = n) : ValsG valS w (fun b => B ≤ b ∧ b < w.heap.size) f (.slice (some ⟨B, 0, none⟩) n n) (ys.map g) := by
  have hBl := (Array.getElem?_eq_some_iff.1 hB).1
  refine ⟨_, _, by rw [List.length_map, hn], by rw [List.length_map, hn]; exact Nat.le_refl _, .inr ⟨B, 0, rfl, ⟨Nat.le_refl _, hBl⟩, fun j x hj => ?_⟩⟩
  rw [List.getElem?_map] at hj
  obtain ⟨y, hy, rfl⟩ := Option.map_eq_some_iff.1 hj
  obtain ⟨v, hv⟩ : ∃ v, vs[j]? = some v := ⟨_, List.getElem?_eq_getElem (by rw [h.1]; exact (List.getElem?_eq_some_iff.1 hy).1)⟩
  obtain ⟨fs, rfl, hd⟩ := h.2 j y v hy hv
  refine ⟨fs, fun i u hu => ?_, fun hk => HeldG.mv (fun _ _ => rfl) (fun b hb => ⟨Nat.le_of_lt hb.1, hb.2⟩) (hd (by simpa [valS] using hk))⟩
  have hi : i = 0 := by
    have := (List.getElem?_eq_some_iff.1 hu).1
    simp [valS] at this; exact this
  subst hi
  have e : ival (g y) fs = u := by simpa [valS] using hu
  subst e
  simp only [World.cell?, hB]
  simpa [valS] using hv
end Go.Proofs.YtknijddlacmelaaDoor
