/-
  A slice that a loop fills in a declaration of its own: what holds in memory meanwhile. Nothing is proved of the program here.
-/
import Derived.Test.YtglkgcpfdhneeaaDoorPsW
import Derived.Test.YtglkgcpfdhneeaaDoorRsR
import Derived.Test.YtglkgcpfdhneeaaDoorPsT
import Derived.Test.YtglkgcpfdhneeaaDoorPsX
import Derived.Deep.RegionLaw
import Derived.Deep.RegionHeldLaw
import Derived.Deep.AppendLies
import Derived.Deep.Cut
import Derived.Deep.DeepCutAuto
import Derived.Laws.AppendOwn
import Derived.OwnWalk
import Derived.Maps.AppendAt
import Derived.BigQuiet
import Derived.Deep.QuietTactic
import Derived.Lib.Hide
namespace Go.Proofs.YtglkgcpfdhneeaaDoor
set_option linter.unusedVariables false
open Go.ChangeShapes Go.WideShapes Go.ChangeAt Go.RowKit

/-- since ws only the declaration at D has changed; its slice has been made since -/
structure Lp (ws wx : World) (D : Nat) (DT : TypeId) (cs : Array Value) (E : TypeId) (k : Nat) (v : Value) (n : Nat) (xs : List Value) : Prop where
  gr : ws.grownBy wx (some D)
  loc : wx.heap[D]? = some (.cells cs DT (0, 0))
  own : wx.ownsRow ws.heap.size E k v n xs
  lt : D < ws.heap.size
section
variable {ws wx : World} {D : Nat} {DT : TypeId} {cs : Array Value} {E : TypeId} {k : Nat} {v : Value} {n : Nat} {xs : List Value}
theorem Lp.size (h : Lp ws wx D DT cs E k v n xs) : ws.heap.size ≤ wx.heap.size := h.gr.size
theorem Lp.start (ws : World) {D : Nat} {DT : TypeId} {cs : Array Value} (h : ws.heap[D]? = some (.cells cs DT (0, 0))) (E : TypeId) (k : Nat) : Lp ws ws D DT cs E k (.slice none 0 0) 0 [] :=
  ⟨World.grownBy.refl _ _, h, World.ownsRow_nil _ _ _ _, (Array.getElem?_eq_some_iff.1 h).1⟩
theorem Lp.alloc (h : Lp ws wx D DT cs E k v n xs) (o : Obj) : Lp ws (wx.alloc o) D DT cs E k v n xs := by
  have hl := h.lt
  have hs := h.size
  exact ⟨h.gr.trans (World.grownBy_alloc _ _ _), by rw [alloc_heap_old _ _ _ (by omega)]; exact h.loc, World.ownsRow.alloc h.own o, hl⟩
theorem Lp.drew (h : Lp ws wx D DT cs E k v n xs) : Lp ws wx.drew D DT cs E k v n xs := ⟨h.gr.trans (grownBy_drew _ _), h.loc, h.own, h.lt⟩
theorem Lp.keep (h : Lp ws wx D DT cs E k v n xs) {b : Nat} (hb : b < ws.heap.size) (hne : b ≠ D) : wx.heap[b]? = ws.heap[b]? := h.gr.block b hb (by intro e; cases e; exact hne rfl)
/-- one more, at a step of a region that draws its order; it is then stored at the declaration's cell j -/
theorem Lp.push (h : Lp ws wx D DT cs E k v n xs) (j : Nat) {ops : Array Oper} {o : Oper} {a : Act} {K : Act → World → Prop} {Q : Exit → Act → World → Prop} {EE : Prop} (hgd : o.guard = none) (s' x' : Operand) (t : TypeId)
    (ho : o.op = .call { callee := .builtin .append, args := #[s', x'], argTypes := #[t, t] }) (ht : Tryd.prog.underlying t = some (.slice E)) (z : Value) (bytes : Nat)
    (hi : (Tryd.prog.info? E).map (fun i => (i.zero, i.size, i.bytes)) = some (some z, k, bytes)) (hzs : z.cells.size = k) (hk0 : 0 < k) (row : List Value) (hrow : row.length = k) (hone : ∀ u ∈ row, u.oneCell' = true)
    (crow : Array Value) (hcs : crow = row.toArray) (hs : a.eval s' = v) (hx : a.eval x' = .slice (some ⟨wx.heap.size, 0, none⟩) 1 1) (hbd : n ≤ 100000) (hby : bytes ≤ 1000)
    (hk : ∀ g cap W, W.heap[D]? = some (.cells cs DT (0, 0)) → Lp ws (W.setCell ⟨D, j, none⟩ (.slice (some ⟨g, 0, none⟩) (n + 1) cap)) D DT (cs.setIfInBounds j (.slice (some ⟨g, 0, none⟩) (n + 1) cap)) E k (.slice (some ⟨g, 0, none⟩) (n + 1) cap) (n + 1) (xs ++ row) → K (a.put o.dst (.slice (some ⟨g, 0, none⟩) (n + 1) cap)) W) :
    if Region.wanted o (yielded ops a.tmps) = true then Oper.wp Tryd.prog o a (wx.alloc (.cells crow E)) K Q else EE := by
  subst hcs
  have hl := h.lt
  have hss := h.size
  have ha := h.alloc (.cells row.toArray E)
  obtain ⟨i0, hi0, hz0, hz1, hz2⟩ := info_parts hi
  have hmul : (n + 1) * bytes ≤ 100001 * 1000 := Nat.mul_le_mul (by omega) hby
  refine step_append_lies _ hgd s' x' t ho ws.heap.size E i0 z k bytes ht hi0 hz0 hz1 hz2 hzs hk0 v n xs hs ha.own ⟨wx.heap.size, 0, none⟩ 1 1 row hx (by rw [hrow]; omega) ?_ hone (by decide) (by unfold maxLen; omega) (by omega) (by simp; omega) _ rfl ?_
  · exact World.news_of_block (cs := row.toArray) (t := E) (fr := (0, 0)) (by show (wx.heap.push _)[wx.heap.size]? = _; simp)
  · intro g cap W hown hg hat hlt
    have hno : v.ownBlock ≠ some D := fun e => by have := (own_block h.own D e).1; omega
    have hD : W.heap[D]? = some (.cells cs DT (0, 0)) := by
      rw [hg.block D (by simp; omega) (fun e => hno e.symm)]; exact ha.loc
    have hgb : ws.heap.size ≤ g := by
      rcases hat with e | e
      · exact (own_block h.own g e).1
      · simp at e; omega
    refine hk g cap W hD ⟨?_, setCell_heap hD _, ?_, hl⟩
    · refine grow_then (grow_then ha.gr hg fun b hb => ?_) (grownBy_set _ _ _ _) (fun b hb => .inr hb)
      left; exact (own_block h.own b hb).1
    · refine own_keep (w := W) hown fun b hb => Below.heap_setCell _ _ _ _ ?_
      have e : g = b := by simpa [Value.ownBlock] using hb
      show b ≠ D
      omega
end
/-- eight cells of a block are set -/
theorem set8_all {w : World} {B : Nat} {T : TypeId} {z0 z1 z2 z3 z4 z5 z6 z7 : Value} (h : w.heap[B]? = some (.cells #[z0, z1, z2, z3, z4, z5, z6, z7] T (0, 0))) (x0 x1 x2 x3 x4 x5 x6 x7 : Value) :
    ∃ Y, ((((((((w.setCell ⟨B, 0, none⟩ x0).setCell ⟨B, 1, none⟩ x1).setCell ⟨B, 2, none⟩ x2).setCell ⟨B, 3, none⟩ x3).setCell ⟨B, 4, none⟩ x4).setCell ⟨B, 5, none⟩ x5).setCell ⟨B, 6, none⟩ x6).setCell ⟨B, 7, none⟩ x7) = Y ∧ Y.heap[B]? = some (.cells #[x0, x1, x2, x3, x4, x5, x6, x7] T (0, 0)) ∧ (∀ b, b ≠ B → Y.heap[b]? = w.heap[b]?) ∧ Y.heap.size = w.heap.size ∧ Below B w Y := by
  have s8 := set8 h x0 x1 x2 x3 x4 x5 x6 x7
  have ho : ∀ b, b ≠ B → ((((((((w.setCell ⟨B, 0, none⟩ x0).setCell ⟨B, 1, none⟩ x1).setCell ⟨B, 2, none⟩ x2).setCell ⟨B, 3, none⟩ x3).setCell ⟨B, 4, none⟩ x4).setCell ⟨B, 5, none⟩ x5).setCell ⟨B, 6, none⟩ x6).setCell ⟨B, 7, none⟩ x7).heap[b]? = w.heap[b]? := fun b hb => by
    rw [Below.heap_setCell _ _ _ _ hb, Below.heap_setCell _ _ _ _ hb, Below.heap_setCell _ _ _ _ hb, Below.heap_setCell _ _ _ _ hb, Below.heap_setCell _ _ _ _ hb, Below.heap_setCell _ _ _ _ hb, Below.heap_setCell _ _ _ _ hb, Below.heap_setCell _ _ _ _ hb]
  have hz : ((((((((w.setCell ⟨B, 0, none⟩ x0).setCell ⟨B, 1, none⟩ x1).setCell ⟨B, 2, none⟩ x2).setCell ⟨B, 3, none⟩ x3).setCell ⟨B, 4, none⟩ x4).setCell ⟨B, 5, none⟩ x5).setCell ⟨B, 6, none⟩ x6).setCell ⟨B, 7, none⟩ x7).heap.size = w.heap.size := by simp
  have hb : Below B w ((((((((w.setCell ⟨B, 0, none⟩ x0).setCell ⟨B, 1, none⟩ x1).setCell ⟨B, 2, none⟩ x2).setCell ⟨B, 3, none⟩ x3).setCell ⟨B, 4, none⟩ x4).setCell ⟨B, 5, none⟩ x5).setCell ⟨B, 6, none⟩ x6).setCell ⟨B, 7, none⟩ x7) := (((((((((Below.refl B w).setCell (p := ⟨B, 0, none⟩) (Nat.le_refl _) x0).setCell (p := ⟨B, 1, none⟩) (Nat.le_refl _) x1).setCell (p := ⟨B, 2, none⟩) (Nat.le_refl _) x2).setCell (p := ⟨B, 3, none⟩) (Nat.le_refl _) x3).setCell (p := ⟨B, 4, none⟩) (Nat.le_refl _) x4).setCell (p := ⟨B, 5, none⟩) (Nat.le_refl _) x5).setCell (p := ⟨B, 6, none⟩) (Nat.le_refl _) x6).setCell (p := ⟨B, 7, none⟩) (Nat.le_refl _) x7)
  exact ⟨_, rfl, s8, ho, hz, hb⟩
end Go.Proofs.YtglkgcpfdhneeaaDoor
