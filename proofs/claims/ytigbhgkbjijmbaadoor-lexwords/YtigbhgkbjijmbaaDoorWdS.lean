/-
  A slice of words that grows, and what the document's own Words keeps in memory while it goes along a text. Nothing is proved of the program here.
-/
import Derived.Test.YtigbhgkbjijmbaaDoorNmR
import Derived.Laws.AppendOwn
import Derived.OwnWalk
namespace Go.Proofs.YtigbhgkbjijmbaaDoor
set_option linter.unusedVariables false
open Go.ChangeShapes Go.WideShapes Go.ChangeAt Go.RowKit

/-- a word's cells -/
def wrow (x : Wd) : List Value := [.int .i64 x.kind, .string (mkB x.text), .int .i64 (x.line : Int), .int .i64 (x.col : Int)]
theorem infoW : (Tryd.prog.info? 43).map (fun i => (i.zero, i.size, i.bytes)) = some (some (.agg #[.int .i64 0, .string ⟨#[]⟩, .int .i64 0, .int .i64 0]), 4, 40) := by kernel_rfl
/-- a slice of words that the call itself has made -/
def OwnW (w : World) (base : Nat) (v : Value) (xs : List Wd) : Prop := w.ownsRow base 43 4 v xs.length (xs.flatMap wrow)
theorem ownW_nil (w : World) (base : Nat) : OwnW w base (.slice none 0 0) [] := World.ownsRow_nil _ _ _ _
theorem ownW_block {w : World} {base : Nat} {v : Value} {xs : List Wd} (h : OwnW w base v xs) : ∀ k, v.ownBlock = some k → base ≤ k := by
  intro k hk
  obtain ⟨_, ⟨rfl, _⟩ | ⟨g, cap, cur, rfl, hg, _⟩⟩ := h
  · simp [Value.ownBlock] at hk
  · simp [Value.ownBlock] at hk; omega
theorem ownW_lt {w : World} {base : Nat} {v : Value} {xs : List Wd} (h : OwnW w base v xs) : v.ownBlock ≠ some w.heap.size := by
  obtain ⟨_, ⟨rfl, _⟩ | ⟨g, cap, cur, rfl, hg, hh, _⟩⟩ := h
  · simp [Value.ownBlock]
  · have := (Array.getElem?_eq_some_iff.1 hh).1
    simp [Value.ownBlock]; omega
theorem ownW_slice {w : World} {base : Nat} {v : Value} {xs : List Wd} (h : OwnW w base v xs) : ∃ a c, v = .slice a xs.length c := by
  obtain ⟨_, ⟨rfl, h0⟩ | ⟨g, cap, cur, rfl, _⟩⟩ := h
  · exact ⟨none, 0, by rw [h0]⟩
  · exact ⟨_, _, rfl⟩
theorem ownW_heap {w w' : World} {base : Nat} {v : Value} {xs : List Wd} (h : OwnW w base v xs) (hh : ∀ (k : Nat) (o : Obj), base ≤ k → w.heap[k]? = some o → w'.heap[k]? = some o) : OwnW w' base v xs := by
  obtain ⟨h1, h2 | ⟨g, cap, cur, hv, hg, hhp, r⟩⟩ := h
  · exact ⟨h1, .inl h2⟩
  · exact ⟨h1, .inr ⟨g, cap, cur, hv, hg, hh g _ hg hhp, r⟩⟩
theorem wpW_push {w : World} {ops : Array Oper} {rest : List Oper} {o : Oper} {a : Act} {Q : Exit → Act → World → Prop} (hgd : o.guard = none) (s x : Operand)
    (ho : o.op = .call { callee := .builtin .append, args := #[s, x], argTypes := #[29, 29] })
    (base : Nat) (v : Value) (xs : List Wd) (r : Wd) (cs : Array Value) (hcs : cs = (wrow r).toArray) (hs : a.eval s = v) (hown : OwnW w base v xs)
    (hx : a.eval x = .slice (some ⟨w.heap.size, 0, none⟩) 1 1) (hbd : xs.length ≤ 1000000000) (hbase : base ≤ w.heap.size)
    (h : ∀ v' w', OwnW w' base v' (xs ++ [r]) → (w.alloc (.cells cs 43)).grownBy w' v.ownBlock → wpList Tryd.prog ops Q rest (a.put o.dst v') w') : wpList Tryd.prog ops Q (o :: rest) a (w.alloc (.cells cs 43)) := by
  subst hcs
  obtain ⟨i0, hi, hz0, hz1, hz2⟩ := info_parts infoW
  refine wpList_append_own _ hgd s x 29 ho base 43 i0 _ 4 40 Tryd.underlying29 hi hz0 hz1 hz2 rfl (by decide) v _ _ hs (World.ownsRow.alloc hown _) ⟨w.heap.size, 0, none⟩ 1 1 (wrow r) hx rfl ?_ ?_ (by unfold maxLen; omega) (by omega) (by simp; omega) ?_
  · intro j u hj
    have ea : (⟨w.heap.size, 0, none⟩ : Addr).add j = ⟨w.heap.size, j, none⟩ := by unfold Addr.add; split <;> simp_all
    rw [ea, World.cell?_alloc_new]
    simpa using hj
  · intro u hu
    simp only [wrow, List.mem_cons, List.not_mem_nil, or_false] at hu
    rcases hu with rfl | rfl | rfl | rfl <;> rfl
  · intro v' w' h1 h2 _
    refine h v' w' ?_ h2
    unfold OwnW
    rw [List.length_append, List.flatMap_append]
    simpa using h1

/-- the state while Words goes along: the answer's place (still zero), the place at hand, the words so far -/
structure St (w0 w : World) (B : Nat) (line col : Nat) (v : Value) (acc : List Wd) : Prop where
  ans : w.heap[B]? = some (.cells #[.int .i64 0, .int .i64 0] 25 (0, 0))
  pos : w.heap[B + 1]? = some (.cells #[.int .i64 (line : Int), .int .i64 (col : Int)] 25 (0, 0))
  own : OwnW w (B + 2) v acc
  below : Below B w0 w
theorem St.size {w0 w : World} {B line col : Nat} {v : Value} {acc : List Wd} (h : St w0 w B line col v acc) : B + 2 ≤ w.heap.size := by
  have := (Array.getElem?_eq_some_iff.1 h.pos).1; omega
theorem St.old {w0 w w' : World} {B line col : Nat} {v : Value} {acc : List Wd} (h : St w0 w B line col v acc) (hb : Below w.heap.size w w') : St w0 w' B line col v acc := by
  have hsz := h.size
  refine ⟨by rw [hb.block B (by omega)]; exact h.ans, by rw [hb.block (B + 1) (by omega)]; exact h.pos, ?_, h.below.trans (hb.mono (by omega))⟩
  exact ownW_heap h.own fun k o _ hk => by rw [hb.block k (Array.getElem?_eq_some_iff.1 hk).1]; exact hk
theorem St.cells {w0 w : World} {B line col : Nat} {v : Value} {acc : List Wd} (h : St w0 w B line col v acc) :
    w.cell? ⟨B + 1, 0, none⟩ = some (.int .i64 (line : Int)) ∧ w.cell? ⟨B + 1, 1, none⟩ = some (.int .i64 (col : Int)) ∧ w.frozen? ⟨B + 1, 0, none⟩ = false ∧ w.frozen? ⟨B + 1, 1, none⟩ = false ∧
    w.cell? ⟨B, 0, none⟩ = some (.int .i64 0) ∧ w.cell? ⟨B, 1, none⟩ = some (.int .i64 0) ∧ w.frozen? ⟨B, 0, none⟩ = false ∧ w.frozen? ⟨B, 1, none⟩ = false := by
  simp [World.cell?, World.frozen?, h.pos, h.ans]
/-- a cell of another block, or one that is none of these, is set -/
theorem St.setPos {w0 w : World} {B line col : Nat} {v : Value} {acc : List Wd} (h : St w0 w B line col v acc) (j : Nat) (x : Value) (line' col' : Nat)
    (hx : (#[Value.int .i64 (line : Int), Value.int .i64 (col : Int)]).setIfInBounds j x = #[.int .i64 (line' : Int), .int .i64 (col' : Int)]) : St w0 (w.setCell ⟨B + 1, j, none⟩ x) B line' col' v acc := by
  have hp : (w.setCell ⟨B + 1, j, none⟩ x).heap[B + 1]? = some (.cells #[.int .i64 (line' : Int), .int .i64 (col' : Int)] 25 (0, 0)) := by
    rw [setCell_eq_setRow _ _ _ _ _ _ _ h.pos, setRow_heap w (B + 1) _ _ _ _ h.pos, hx]
  have ho : ∀ k, k ≠ B + 1 → (w.setCell ⟨B + 1, j, none⟩ x).heap[k]? = w.heap[k]? := fun k hk => by
    rw [setCell_eq_setRow _ _ _ _ _ _ _ h.pos]; exact setRow_other w (B + 1) k _ hk
  exact ⟨by rw [ho B (by omega)]; exact h.ans, hp, ownW_heap h.own fun k o hk hko => by rw [ho k (by omega)]; exact hko, h.below.setCell (p := ⟨B + 1, j, none⟩) (by show B ≤ B + 1; omega) _⟩
theorem St.alloc {w0 w : World} {B line col : Nat} {v : Value} {acc : List Wd} (h : St w0 w B line col v acc) (o : Obj) : St w0 (w.alloc o) B line col v acc := h.old ((Below.refl _ w).alloc (Nat.le_refl _) o)
theorem St.drew {w0 w : World} {B line col : Nat} {v : Value} {acc : List Wd} (h : St w0 w B line col v acc) : St w0 w.drew B line col v acc := ⟨h.ans, h.pos, h.own, h.below.drew⟩
/-- the words have grown -/
theorem St.grown {w0 w w' : World} {B line col : Nat} {v v' : Value} {acc acc' : List Wd} (h : St w0 w B line col v acc) (hg : w.grownBy w' v.ownBlock) (hown : OwnW w' (B + 2) v' acc') : St w0 w' B line col v' acc' := by
  have hsz := h.size
  have hb : ∀ k, k < B + 2 → w'.heap[k]? = w.heap[k]? := fun k hk => hg.block k (by omega) (fun e => by have := ownW_block h.own k e.symm; omega)
  exact ⟨by rw [hb B (by omega)]; exact h.ans, by rw [hb (B + 1) (by omega)]; exact h.pos, hown, h.below.grown hg (by omega) (fun k hk => by have := ownW_block h.own k hk; omega)⟩
/-- a cell of a block behind these is set -/
theorem St.setFar {w0 w : World} {B line col : Nat} {v : Value} {acc : List Wd} (h : St w0 w B line col v acc) (g j : Nat) (x : Value) (hg : B + 2 ≤ g) (hne : v.ownBlock ≠ some g) : St w0 (w.setCell ⟨g, j, none⟩ x) B line col v acc := by
  have ho : ∀ k, k ≠ g → (w.setCell ⟨g, j, none⟩ x).heap[k]? = w.heap[k]? := fun k hk => Below.heap_setCell _ _ _ _ hk
  refine ⟨by rw [ho B (by omega)]; exact h.ans, by rw [ho (B + 1) (by omega)]; exact h.pos, ?_, h.below.setCell (p := ⟨g, j, none⟩) (by show B ≤ g; omega) _⟩
  obtain ⟨h1, h2 | ⟨g', cap, cur, hv, hg', hhp, r⟩⟩ := h.own
  · exact ⟨h1, .inl h2⟩
  · exact ⟨h1, .inr ⟨g', cap, cur, hv, hg', by rw [ho g' (fun e => hne (by rw [hv, e]; rfl))]; exact hhp, r⟩⟩
/-- the answer's place is told -/
theorem St.final {w0 w : World} {B line col : Nat} {v : Value} {acc : List Wd} (h : St w0 w B line col v acc) (x y : Value) :
    ((w.setCell ⟨B, 0, none⟩ x).setCell ⟨B, 1, none⟩ y).cell? ⟨B, 0, none⟩ = some x ∧ ((w.setCell ⟨B, 0, none⟩ x).setCell ⟨B, 1, none⟩ y).cell? ⟨B, 1, none⟩ = some y ∧
    OwnW ((w.setCell ⟨B, 0, none⟩ x).setCell ⟨B, 1, none⟩ y) (B + 2) v acc ∧ Below B w0 ((w.setCell ⟨B, 0, none⟩ x).setCell ⟨B, 1, none⟩ y) := by
  have h1 : (w.setCell ⟨B, 0, none⟩ x).heap[B]? = some (.cells #[x, .int .i64 0] 25 (0, 0)) := by
    rw [setCell_eq_setRow _ _ _ _ _ _ _ h.ans, setRow_heap w B _ _ _ _ h.ans]; rfl
  have h2 : ((w.setCell ⟨B, 0, none⟩ x).setCell ⟨B, 1, none⟩ y).heap[B]? = some (.cells #[x, y] 25 (0, 0)) := by
    rw [setCell_eq_setRow _ _ _ _ _ _ _ h1, setRow_heap _ B _ _ _ _ h1]; rfl
  have ho : ∀ k, k ≠ B → ((w.setCell ⟨B, 0, none⟩ x).setCell ⟨B, 1, none⟩ y).heap[k]? = w.heap[k]? := fun k hk => by
    rw [Below.heap_setCell _ _ _ _ hk, Below.heap_setCell _ _ _ _ hk]
  refine ⟨by simp [World.cell?, h2], by simp [World.cell?, h2], ownW_heap h.own fun k o hk hko => by rw [ho k (by omega)]; exact hko, ?_⟩
  exact (h.below.setCell (p := ⟨B, 0, none⟩) (Nat.le_refl _) x).setCell (p := ⟨B, 1, none⟩) (Nat.le_refl _) y
end Go.Proofs.YtigbhgkbjijmbaaDoor
