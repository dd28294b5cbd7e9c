/-
  A slice of the program's words that grows, and what its Words keeps in memory while it goes along a text. Nothing is proved of the program here.
-/
import Derived.Test.YtngmimbpakmkiaaGreatDoorDvTz
import Derived.Laws.AppendOwn
import Derived.OwnWalk
import Derived.Deep.AppendLies
import Derived.WalkSmall
import Derived.Lib.OthersKept
namespace Go.Proofs.YtngmimbpakmkiaaGreatDoor
set_option linter.unusedVariables false
open Go.ChangeShapes Go.WideShapes Go.ChangeAt Go.RowKit

/-- a word's cells -/
def wrowD (x : Wd) : List Value := [.int .i64 x.kind, .string (mkB x.text), .int .i64 (x.line : Int), .int .i64 (x.col : Int)]
theorem infoD : (Tryz.prog.info? 109).map (fun i => (i.zero, i.size, i.bytes)) = some (some (.agg #[.int .i64 0, .string ⟨#[]⟩, .int .i64 0, .int .i64 0]), 4, 40) := by kernel_rfl
/-- a slice of words that the call itself has made -/
def OwnD (w : World) (base : Nat) (v : Value) (xs : List Wd) : Prop := w.ownsRow base 109 4 v xs.length (xs.flatMap wrowD)
theorem ownD_block {w : World} {base : Nat} {v : Value} {xs : List Wd} (h : OwnD w base v xs) : ∀ k, v.ownBlock = some k → base ≤ k := by
  intro k hk
  obtain ⟨_, ⟨rfl, _⟩ | ⟨g, cap, cur, rfl, hg, _⟩⟩ := h
  · simp [Value.ownBlock] at hk
  · simp [Value.ownBlock] at hk; omega
theorem ownD_slice {w : World} {base : Nat} {v : Value} {xs : List Wd} (h : OwnD w base v xs) : ∃ a c, v = .slice a xs.length c := by
  obtain ⟨_, ⟨rfl, h0⟩ | ⟨g, cap, cur, rfl, _⟩⟩ := h
  · exact ⟨none, 0, by rw [h0]⟩
  · exact ⟨_, _, rfl⟩
theorem ownD_heap {w w' : World} {base : Nat} {v : Value} {xs : List Wd} (h : OwnD w base v xs) (hh : ∀ (k : Nat) (o : Obj), base ≤ k → w.heap[k]? = some o → w'.heap[k]? = some o) : OwnD w' base v xs := by
  obtain ⟨h1, h2 | ⟨g, cap, cur, hv, hg, hhp, r⟩⟩ := h
  · exact ⟨h1, .inl h2⟩
  · exact ⟨h1, .inr ⟨g, cap, cur, hv, hg, hh g _ hg hhp, r⟩⟩

/-- the state while the program's Words goes along: the answer's place (still zero), the place at hand, how far the range has come, the words so far -/
structure Sd (w0 w : World) (B : Nat) (s : ByteArray) (p line col : Nat) (v : Value) (acc : List Wd) : Prop where
  ans : w.heap[B]? = some (.cells #[.int .i64 0, .int .i64 0] 38 (0, 0))
  pos : w.heap[B + 1]? = some (.cells #[.int .i64 (line : Int), .int .i64 (col : Int)] 38 (0, 0))
  it : w.heap[B + 2]? = some (.stringIter s p)
  own : OwnD w (B + 3) v acc
  below : Below B w0 w
section
variable {w0 w : World} {B : Nat} {s : ByteArray} {p line col : Nat} {v : Value} {acc : List Wd}
theorem Sd.size (h : Sd w0 w B s p line col v acc) : B + 3 ≤ w.heap.size := by
  have := (Array.getElem?_eq_some_iff.1 h.it).1; omega
theorem Sd.old {w' : World} (h : Sd w0 w B s p line col v acc) (hb : Below w.heap.size w w') : Sd w0 w' B s p line col v acc := by
  have hsz := h.size
  refine ⟨by rw [hb.block B (by omega)]; exact h.ans, by rw [hb.block (B + 1) (by omega)]; exact h.pos, by rw [hb.block (B + 2) (by omega)]; exact h.it, ?_, h.below.trans (hb.mono (by omega))⟩
  exact ownD_heap h.own fun k o _ hk => by rw [hb.block k (Array.getElem?_eq_some_iff.1 hk).1]; exact hk
theorem Sd.cells (h : Sd w0 w B s p line col v acc) :
    w.cell? ⟨B + 1, 0, none⟩ = some (.int .i64 (line : Int)) ∧ w.cell? ⟨B + 1, 1, none⟩ = some (.int .i64 (col : Int)) ∧ w.frozen? ⟨B + 1, 0, none⟩ = false ∧ w.frozen? ⟨B + 1, 1, none⟩ = false ∧
    w.cell? ⟨B, 0, none⟩ = some (.int .i64 0) ∧ w.cell? ⟨B, 1, none⟩ = some (.int .i64 0) ∧ w.frozen? ⟨B, 0, none⟩ = false ∧ w.frozen? ⟨B, 1, none⟩ = false := by
  simp [World.cell?, World.frozen?, h.pos, h.ans]
theorem Sd.iterPos (h : Sd w0 w B s p line col v acc) : w.iterPos (B + 2) = p := by simp [World.iterPos, h.it]
theorem Sd.alloc (h : Sd w0 w B s p line col v acc) (o : Obj) : Sd w0 (w.alloc o) B s p line col v acc := h.old ((Below.refl _ w).alloc (Nat.le_refl _) o)
theorem Sd.drew (h : Sd w0 w B s p line col v acc) : Sd w0 w.drew B s p line col v acc := ⟨h.ans, h.pos, h.it, h.own, h.below.drew⟩
/-- the range goes on -/
theorem Sd.next (h : Sd w0 w B s p line col v acc) (q : Nat) : Sd w0 (w.iterAt (B + 2) s q) B s q line col v acc := by
  refine ⟨by rw [Lib.iterAt_other _ _ _ _ _ (by omega)]; exact h.ans, by rw [Lib.iterAt_other _ _ _ _ _ (by omega)]; exact h.pos, Lib.iterAt_heap _ _ _ _ _ h.it, ?_, Lib.below_iterAt h.below (by omega) _ _⟩
  exact ownD_heap h.own fun k o hk hko => by rw [Lib.iterAt_other _ _ _ _ _ (by omega)]; exact hko
/-- the place at hand is another one -/
theorem Sd.place (h : Sd w0 w B s p line col v acc) (line' col' : Nat) : Sd w0 ((w.setCell ⟨B + 1, 0, none⟩ (.int .i64 (line' : Int))).setCell ⟨B + 1, 1, none⟩ (.int .i64 (col' : Int))) B s p line' col' v acc := by
  have h1 : (w.setCell ⟨B + 1, 0, none⟩ (.int .i64 (line' : Int))).heap[B + 1]? = some (.cells #[.int .i64 (line' : Int), .int .i64 (col : Int)] 38 (0, 0)) := by
    rw [setCell_eq_setRow _ _ _ _ _ _ _ h.pos, setRow_heap w (B + 1) _ _ _ _ h.pos]; rfl
  have h2 : ((w.setCell ⟨B + 1, 0, none⟩ (.int .i64 (line' : Int))).setCell ⟨B + 1, 1, none⟩ (.int .i64 (col' : Int))).heap[B + 1]? = some (.cells #[.int .i64 (line' : Int), .int .i64 (col' : Int)] 38 (0, 0)) := by
    rw [setCell_eq_setRow _ _ _ _ _ _ _ h1, setRow_heap _ (B + 1) _ _ _ _ h1]; rfl
  have ho : ∀ k, k ≠ B + 1 → ((w.setCell ⟨B + 1, 0, none⟩ (.int .i64 (line' : Int))).setCell ⟨B + 1, 1, none⟩ (.int .i64 (col' : Int))).heap[k]? = w.heap[k]? := fun k hk => by
    rw [Below.heap_setCell _ _ _ _ hk, Below.heap_setCell _ _ _ _ hk]
  refine ⟨by rw [ho B (by omega)]; exact h.ans, h2, by rw [ho (B + 2) (by omega)]; exact h.it, ownD_heap h.own fun k o hk hko => by rw [ho k (by omega)]; exact hko, ?_⟩
  exact (h.below.setCell (p := ⟨B + 1, 0, none⟩) (by show B ≤ B + 1; omega) _).setCell (p := ⟨B + 1, 1, none⟩) (by show B ≤ B + 1; omega) _
/-- the answer's place is told -/
theorem Sd.final (h : Sd w0 w B s p line col v acc) (x y : Value) :
    ((w.setCell ⟨B, 0, none⟩ x).setCell ⟨B, 1, none⟩ y).cell? ⟨B, 0, none⟩ = some x ∧ ((w.setCell ⟨B, 0, none⟩ x).setCell ⟨B, 1, none⟩ y).cell? ⟨B, 1, none⟩ = some y ∧
    OwnD ((w.setCell ⟨B, 0, none⟩ x).setCell ⟨B, 1, none⟩ y) (B + 3) v acc ∧ Below B w0 ((w.setCell ⟨B, 0, none⟩ x).setCell ⟨B, 1, none⟩ y) := by
  have h1 : (w.setCell ⟨B, 0, none⟩ x).heap[B]? = some (.cells #[x, .int .i64 0] 38 (0, 0)) := by
    rw [setCell_eq_setRow _ _ _ _ _ _ _ h.ans, setRow_heap w B _ _ _ _ h.ans]; rfl
  have h2 : ((w.setCell ⟨B, 0, none⟩ x).setCell ⟨B, 1, none⟩ y).heap[B]? = some (.cells #[x, y] 38 (0, 0)) := by
    rw [setCell_eq_setRow _ _ _ _ _ _ _ h1, setRow_heap _ B _ _ _ _ h1]; rfl
  have ho : ∀ k, k ≠ B → ((w.setCell ⟨B, 0, none⟩ x).setCell ⟨B, 1, none⟩ y).heap[k]? = w.heap[k]? := fun k hk => by
    rw [Below.heap_setCell _ _ _ _ hk, Below.heap_setCell _ _ _ _ hk]
  refine ⟨by simp [World.cell?, h2], by simp [World.cell?, h2], ownD_heap h.own fun k o hk hko => by rw [ho k (by omega)]; exact hko, ?_⟩
  exact (h.below.setCell (p := ⟨B, 0, none⟩) (Nat.le_refl _) x).setCell (p := ⟨B, 1, none⟩) (Nat.le_refl _) y
/-- a word more, at a step of a region that draws its order -/
theorem Sd.push (h : Sd w0 w B s p line col v acc) (r : Wd) {ops : Array Oper} {o : Oper} {a : Act} {K : Act → World → Prop} {Q : Exit → Act → World → Prop} {E : Prop} (hgd : o.guard = none) (s' x' : Operand)
    (ho : o.op = .call { callee := .builtin .append, args := #[s', x'], argTypes := #[77, 77] })
    (cs : Array Value) (hcs : cs = (wrowD r).toArray) (hs : a.eval s' = v) (hx : a.eval x' = .slice (some ⟨w.heap.size, 0, none⟩) 1 1) (hbd : acc.length ≤ 4000)
    (hk : ∀ g cap W, Sd w0 W B s p line col (.slice (some ⟨g, 0, none⟩) (acc.length + 1) cap) (acc ++ [r]) → K (a.put o.dst (.slice (some ⟨g, 0, none⟩) (acc.length + 1) cap)) W) :
    if Region.wanted o (yielded ops a.tmps) = true then Oper.wp Tryz.prog o a (w.alloc (.cells cs 109)) K Q else E := by
  subst hcs
  have hsz := h.size
  have ha := h.alloc (.cells (wrowD r).toArray 109)
  obtain ⟨i0, hi, hz0, hz1, hz2⟩ := info_parts infoD
  refine step_append_lies _ hgd s' x' 77 ho (B + 3) 109 i0 _ 4 40 Tryz.underlying77 hi hz0 hz1 hz2 rfl (by decide) v acc.length (acc.flatMap wrowD) hs ha.own ⟨w.heap.size, 0, none⟩ 1 1 (wrowD r) hx rfl ?_ ?_ (by decide) (by unfold maxLen; omega) (by omega) (by simp; omega) _ rfl ?_
  · exact World.news_of_block (cs := (wrowD r).toArray) (t := 109) (fr := (0, 0)) (by show (w.heap.push _)[w.heap.size]? = _; simp)
  · intro u hu
    simp only [wrowD, List.mem_cons, List.not_mem_nil, or_false] at hu
    rcases hu with rfl | rfl | rfl | rfl <;> rfl
  · intro g cap W hown hg _ _
    refine hk g cap W ?_
    have hb : ∀ k, k < B + 3 → W.heap[k]? = (w.alloc (.cells (wrowD r).toArray 109)).heap[k]? := fun k hk => hg.block k (by simp; omega) (fun e => by have := ownD_block h.own k e.symm; omega)
    refine ⟨by rw [hb B (by omega)]; exact ha.ans, by rw [hb (B + 1) (by omega)]; exact ha.pos, by rw [hb (B + 2) (by omega)]; exact ha.it, ?_, ha.below.grown hg (by simp; omega) (fun k hk => by have := ownD_block h.own k hk; omega)⟩
    unfold OwnD
    rw [List.length_append, List.flatMap_append]
    simpa using hown
end
/-- what the state is when the range begins -/
theorem Sd.start (w : World) (s : ByteArray) : Sd w (((w.alloc (.cells #[.int .i64 0, .int .i64 0] 38)).alloc (.cells #[.int .i64 1, .int .i64 1] 38)).iter s 0) w.heap.size s 0 1 1 (.slice none 0 0) [] := by
  have e1 : (w.alloc (.cells #[.int .i64 0, .int .i64 0] 38)).heap.size = w.heap.size + 1 := by simp
  have e2 : ((w.alloc (.cells #[.int .i64 0, .int .i64 0] 38)).alloc (.cells #[.int .i64 1, .int .i64 1] 38)).heap.size = w.heap.size + 2 := by simp
  have h0 : (w.alloc (.cells #[.int .i64 0, .int .i64 0] 38)).heap[w.heap.size]? = some (.cells #[.int .i64 0, .int .i64 0] 38 (0, 0)) := by
    show (w.heap.push _)[w.heap.size]? = _; simp
  have b1 := (Below.refl _ (w.alloc (.cells #[.int .i64 0, .int .i64 0] 38))).alloc (Nat.le_refl _) (.cells #[.int .i64 1, .int .i64 1] 38)
  have h1 : ((w.alloc (.cells #[.int .i64 0, .int .i64 0] 38)).alloc (.cells #[.int .i64 1, .int .i64 1] 38)).heap[w.heap.size + 1]? = some (.cells #[.int .i64 1, .int .i64 1] 38 (0, 0)) := by
    rw [← e1]
    generalize w.alloc (.cells #[.int .i64 0, .int .i64 0] 38) = W
    show (W.heap.push _)[W.heap.size]? = _; simp
  have bw : Below w.heap.size w ((w.alloc (.cells #[.int .i64 0, .int .i64 0] 38)).alloc (.cells #[.int .i64 1, .int .i64 1] 38)) := ((Below.refl _ w).alloc (Nat.le_refl _) _).alloc (by simp) _
  have h0' : ((w.alloc (.cells #[.int .i64 0, .int .i64 0] 38)).alloc (.cells #[.int .i64 1, .int .i64 1] 38)).heap[w.heap.size]? = some (.cells #[.int .i64 0, .int .i64 0] 38 (0, 0)) := by
    rw [b1.block w.heap.size (by rw [e1]; omega)]; exact h0
  generalize (w.alloc (.cells #[.int .i64 0, .int .i64 0] 38)).alloc (.cells #[.int .i64 1, .int .i64 1] 38) = W at *
  have bi : Below W.heap.size W (W.iter s 0) := (Below.refl _ W).alloc (Nat.le_refl _) _
  refine ⟨by rw [bi.block _ (by omega)]; exact h0', by rw [bi.block _ (by omega)]; exact h1, ?_, World.ownsRow_nil _ _ _ _, bw.trans (bi.mono (by omega))⟩
  rw [← e2]; exact World.iter_heap W s 0
end Go.Proofs.YtngmimbpakmkiaaGreatDoor
