/-
  The program's own reader of words in memory. Nothing is proved of the program here.
-/
import Derived.Test.YtbfkaanmbdekfaaDoorPsW
import Derived.Test.YtbfkaanmbdekfaaDoorDpM
import Derived.Test.YtbfkaanmbdekfaaDoorProg
namespace Go.Proofs.YtbfkaanmbdekfaaDoor
set_option linter.unusedVariables false
open Go.ChangeShapes Go.WideShapes Go.ChangeAt Go.RowKit

/-- what every word is, and that a number has digits -/
def GoodX (x : Wd) : Prop := GoodW x ∧ (x.kind = 2 → x.text ≠ [])
/-- the program's reader in memory -/
structure DrAt (w : World) (R : Nat) (en : Int × Int) (r : Rd) : Prop where
  cells : ∃ ad c, w.heap[R]? = some (.cells #[.slice ad r.l.length c, .int .i64 en.1, .int .i64 en.2, .int .i64 r.pl, .int .i64 r.pc, .int .i64 r.e] 47 (0, 0)) ∧ r.l.length ≤ c ∧ WordsAt w R ad r.l
  good : ∀ x ∈ r.l, GoodX x
  few : r.l.length ≤ 4000
theorem DrAt.lt {w : World} {R : Nat} {en : Int × Int} {r : Rd} (h : DrAt w R en r) : R < w.heap.size := by
  obtain ⟨ad, c, hc, _⟩ := h.cells
  exact (Array.getElem?_eq_some_iff.1 hc).1
theorem DrAt.old {w w' : World} {R : Nat} {en : Int × Int} {r : Rd} (h : DrAt w R en r) (hb : ∀ k, k < R + 1 → w'.heap[k]? = w.heap[k]?) : DrAt w' R en r := by
  obtain ⟨ad, c, hc, hl, hw⟩ := h.cells
  exact ⟨⟨ad, c, by rw [hb R (by omega)]; exact hc, hl, hw.old fun k hk => hb k (by omega)⟩, h.good, h.few⟩
theorem DrAt.below {w w' : World} {R : Nat} {en : Int × Int} {r : Rd} (h : DrAt w R en r) (hb : Below w.heap.size w w') : DrAt w' R en r :=
  h.old fun k hk => hb.block k (by have := h.lt; omega)
theorem DrAt.alloc {w : World} {R : Nat} {en : Int × Int} {r : Rd} (h : DrAt w R en r) (o : Obj) : DrAt (w.alloc o) R en r := h.below ((Below.refl _ w).alloc (Nat.le_refl _) o)
theorem DrAt.drew {w : World} {R : Nat} {en : Int × Int} {r : Rd} (h : DrAt w R en r) : DrAt w.drew R en r := h.old fun _ _ => rfl
/-- a cell of a block behind the reader is set -/
theorem DrAt.far {w : World} {R : Nat} {en : Int × Int} {r : Rd} (h : DrAt w R en r) (g j : Nat) (hg : R < g) (x : Value) : DrAt (w.setCell ⟨g, j, none⟩ x) R en r :=
  h.old fun k hk => Below.heap_setCell _ _ _ _ (by show k ≠ g; omega)
/-- the reader's cells, as a walk reads them -/
theorem DrAt.get {w : World} {R : Nat} {en : Int × Int} {r : Rd} (h : DrAt w R en r) : ∃ ad c, r.l.length ≤ c ∧ WordsAt w R ad r.l ∧
    w.heap[R]? = some (.cells #[.slice ad r.l.length c, .int .i64 en.1, .int .i64 en.2, .int .i64 r.pl, .int .i64 r.pc, .int .i64 r.e] 47 (0, 0)) ∧
    w.cell? ⟨R, 0, none⟩ = some (.slice ad r.l.length c) ∧ w.cell? ⟨R, 1, none⟩ = some (.int .i64 en.1) ∧ w.cell? ⟨R, 2, none⟩ = some (.int .i64 en.2) ∧ w.cell? ⟨R, 3, none⟩ = some (.int .i64 r.pl) ∧ w.cell? ⟨R, 4, none⟩ = some (.int .i64 r.pc) ∧ w.cell? ⟨R, 5, none⟩ = some (.int .i64 r.e) ∧
    (∀ j, w.frozen? ⟨R, j, none⟩ = false) := by
  obtain ⟨ad, c, hc, hl, hw⟩ := h.cells
  refine ⟨ad, c, hl, hw, hc, ?_, ?_, ?_, ?_, ?_, ?_, ?_⟩
  all_goals simp [World.cell?, World.frozen?, hc]
/-- the words behind the first one, cut off -/
theorem cut_wordsD (g o n c : Nat) (h : n + 1 ≤ c) : ∃ ad', (n = 0 ∨ ad' = some ⟨g, o + 4, none⟩) ∧ ∀ W, (Instr.slice 42 (.slice (some ⟨g, o, none⟩) (n + 1) c) (some (.int .i64 1)) none none).run Tryd.prog W = .ok (.slice ad' n (c - 1)) W := by
  have hsz : ∀ W, (sizeOf (Tryd.prog.elem 42)).run Tryd.prog W = .ok 4 W := fun W => by
    have : (Tryd.prog.info? (Tryd.prog.elem 42)).map (fun i => i.size) = some 4 := by kernel_rfl
    obtain ⟨i, hi, hs⟩ := Option.map_eq_some_iff.1 this
    simp [sizeOf, typeInfo, hi, hs]
  by_cases hc : c = 1
  · subst hc
    obtain rfl : n = 0 := by omega
    refine ⟨some ⟨g, o, none⟩, .inl rfl, fun W => ?_⟩
    rw [run_slice_l (P := Tryd.prog) W 42 _ _ _ (by kernel_rfl) .i64 1 (by decide) (by decide), hsz]
    simp [Result.andThen, sliced]
  · refine ⟨some ⟨g, o + 4, none⟩, .inr rfl, fun W => ?_⟩
    rw [run_slice_l (P := Tryd.prog) W 42 _ _ _ (by kernel_rfl) .i64 1 (by decide) (by omega), hsz]
    have ea : (⟨g, o, none⟩ : Addr).add 4 = ⟨g, o + 4, none⟩ := by unfold Addr.add; split <;> simp_all
    simp [Result.andThen, sliced, hc, ea]
/-- the reader behind its first word -/
theorem DrAt.tail {w : World} {R : Nat} {en : Int × Int} {r : Rd} (h : DrAt w R en r) {y : Wd} {t : List Wd} (hrl : r.l = y :: t) {g o c : Nat}
    (hc : w.heap[R]? = some (.cells #[.slice (some ⟨g, o, none⟩) r.l.length c, .int .i64 en.1, .int .i64 en.2, .int .i64 r.pl, .int .i64 r.pc, .int .i64 r.e] 47 (0, 0))) (hw : WordsAt w R (some ⟨g, o, none⟩) r.l) (hl : r.l.length ≤ c)
    (ad' : Option Addr) (hd : t.length = 0 ∨ ad' = some ⟨g, o + 4, none⟩) : DrAt (w.setCell ⟨R, 0, none⟩ (.slice ad' t.length (c - 1))) R en r.tail := by
  have e : r.tail.l = t := by unfold Rd.tail; rw [hrl]; rfl
  refine ⟨⟨ad', c - 1, ?_, ?_, ?_⟩, ?_, ?_⟩
  · rw [setCell_heap hc, e]; rfl
  · rw [e]; rw [hrl] at hl; simp at hl; omega
  · rw [e]
    refine WordsAt.old (w := w) ?_ fun k hk => Below.heap_setCell _ _ _ _ (by show k ≠ R; omega)
    rw [hrl] at hw
    exact hw.tail rfl ad' (hd.imp List.eq_nil_of_length_eq_zero id)
  · intro x hx; rw [e] at hx; exact h.good x (by rw [hrl]; exact List.mem_cons_of_mem _ hx)
  · rw [e]; have := h.few; rw [hrl] at this; simp at this; omega
end Go.Proofs.YtbfkaanmbdekfaaDoor
