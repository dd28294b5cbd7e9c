/-
  Schemas in memory; rows that grow. Nothing is proved of the program here.
  A cell of a block.
  Cells of tables, new blocks. Nothing is proved of the program here.
-/
import Derived.Test.YtkhnicppcbgdiaaGreatDoorM6
import Derived.Deep.AppendLies
import Derived.WalkKit
namespace Go.Proofs.YtkhnicppcbgdiaaGreatDoor
set_option linter.unusedVariables false
open Go.ChangeShapes Go.WideShapes Go.ChangeAt Go.RowKit

def fdrow (x : FD) : List Value := [.int .i64 x.num, .string (mkB x.name), .int .i64 x.kind, .bool x.rep, .int .i64 x.type]
def vdrow (x : VD) : List Value := [.string (mkB x.name), .int .i64 x.num]
def tdrow (x : TD) : List Value := [.int .i64 x.id, .string (mkB x.service), .string (mkB x.name), .int .i64 x.inp, .int .i64 x.out]
/-- named tables lie in memory: a name and a slice each -/
def HeldN {α β : Type} (nm : α → List UInt8) (kids : α → List β) (k : Nat) (row : β → List Value) (w : World) (S : Nat → Prop) (v : Value) (xs : List α) : Prop :=
  ∃ ad c, v = .slice ad xs.length c ∧ xs.length ≤ c ∧ (xs = [] ∨ ∃ g o, ad = some ⟨g, o, none⟩ ∧ S g ∧ ∀ (j : Nat) (x : α), xs[j]? = some x →
      ∃ ka kc, w.cell? ⟨g, o + j * 2, none⟩ = some (.string (mkB (nm x))) ∧ w.cell? ⟨g, o + j * 2 + 1, none⟩ = some (.slice ka (kids x).length kc) ∧ RowsIn w S k row (.slice ka (kids x).length kc) (kids x))
def HeldM := @HeldN MD FD MD.name MD.fields 5 fdrow
def HeldE := @HeldN ED VD ED.name ED.values 2 vdrow
def HeldT (w : World) (S : Nat → Prop) (v : Value) (ts : List TD) : Prop := RowsIn w S 5 tdrow v ts
/-- a schema lies in memory -/
def HeldSc (w : World) (S : Nat → Prop) (a b c : Value) (s : SC) : Prop := HeldM w S a s.ms ∧ HeldE w S b s.es ∧ HeldT w S c s.ts
section
variable {α β : Type} {nm : α → List UInt8} {kids : α → List β} {k : Nat} {row : β → List Value} {w w' W : World} {S S' : Nat → Prop} {v : Value} {xs : List α}
theorem HeldN.old (h : HeldN nm kids k row w S v xs) (hb : ∀ b, S b → w'.heap[b]? = w.heap[b]?) : HeldN nm kids k row w' S v xs := by
  obtain ⟨ad, c, hv, hc, h⟩ := h
  refine ⟨ad, c, hv, hc, h.imp id ?_⟩
  rintro ⟨g, o, ha, hg, h⟩
  refine ⟨g, o, ha, hg, fun j d hj => ?_⟩
  obtain ⟨ka, kc, h0, h1, h2⟩ := h j d hj
  exact ⟨ka, kc, by rw [World.cell?_of_block (hb g hg)]; exact h0, by rw [World.cell?_of_block (hb g hg)]; exact h1, h2.old hb⟩
theorem HeldN.more (h : HeldN nm kids k row w S v xs) (hb : ∀ b, S b → S' b) : HeldN nm kids k row w S' v xs := by
  obtain ⟨ad, c, hv, hc, h⟩ := h
  refine ⟨ad, c, hv, hc, h.imp id ?_⟩
  rintro ⟨g, o, ha, hg, h⟩
  refine ⟨g, o, ha, hb g hg, fun j d hj => ?_⟩
  obtain ⟨ka, kc, h0, h1, h2⟩ := h j d hj
  exact ⟨ka, kc, h0, h1, h2.more hb⟩
theorem HeldN.isSl (h : HeldN nm kids k row w S v xs) : ∃ ad c, v = .slice ad xs.length c := by
  obtain ⟨ad, c, hv, _⟩ := h
  exact ⟨ad, c, hv⟩
theorem HeldN.nil (ad : Option Addr) (c : Nat) : HeldN nm kids k row w S (.slice ad 0 c) ([] : List α) := ⟨ad, c, rfl, Nat.zero_le _, .inl rfl⟩
theorem HeldN.at (h : HeldN nm kids k row w S v xs) (hW : ∀ b, S b → W.heap[b]? = w.heap[b]?) {q : Nat} {x : α} (hx : xs[q]? = some x) :
    ∃ g o c ka kc, v = .slice (some ⟨g, o, none⟩) xs.length c ∧ S g ∧ W.cell? ⟨g, o + q * 2, none⟩ = some (.string (mkB (nm x))) ∧ W.cell? ⟨g, o + q * 2 + 1, none⟩ = some (.slice ka (kids x).length kc) ∧ RowsIn W S k row (.slice ka (kids x).length kc) (kids x) := by
  obtain ⟨ad, c, hsl, hcc, hrows⟩ := h
  rcases hrows with h0 | ⟨g, o, had, hg, hrow⟩
  · rw [h0] at hx; simp at hx
  subst had
  obtain ⟨ka, kc, h0, h1, h2⟩ := hrow q x hx
  have hb := hW g hg
  exact ⟨g, o, c, ka, kc, hsl, hg, by rw [World.cell?_of_block hb]; exact h0, by rw [World.cell?_of_block hb]; exact h1, h2.old hW⟩
end
theorem fd_at {w W : World} {S : Nat → Prop} {v : Value} {xs : List FD} (h : RowsIn w S 5 fdrow v xs) (hW : ∀ b, S b → W.heap[b]? = w.heap[b]?) {q : Nat} {x : FD} (hx : xs[q]? = some x) :
    ∃ g o c, v = .slice (some ⟨g, o, none⟩) xs.length c ∧ S g ∧ W.cell? ⟨g, o + q * 5, none⟩ = some (.int .i64 x.num) ∧ W.cell? ⟨g, o + q * 5 + 1, none⟩ = some (.string (mkB x.name)) ∧ W.cell? ⟨g, o + q * 5 + 2, none⟩ = some (.int .i64 x.kind) ∧
      W.cell? ⟨g, o + q * 5 + 3, none⟩ = some (.bool x.rep) ∧ W.cell? ⟨g, o + q * 5 + 4, none⟩ = some (.int .i64 x.type) := by
  obtain ⟨ad, c, hsl, hcc, hrows⟩ := h
  rcases hrows with h0 | ⟨g, o, had, hg, hrow⟩
  · rw [h0] at hx; simp at hx
  subst had
  have hb := hW g hg
  have hc : ∀ i u, (fdrow x)[i]? = some u → W.cell? ⟨g, o + (q * 5 + i), none⟩ = some u := fun i u hu => by
    rw [World.cell?_of_block hb]; exact hrow q x hx i u hu
  refine ⟨g, o, c, hsl, hg, ?_, ?_, ?_, ?_, ?_⟩
  · have := hc 0 _ rfl; simpa [Nat.add_assoc] using this
  · have := hc 1 _ rfl; simpa [Nat.add_assoc] using this
  · have := hc 2 _ rfl; simpa [Nat.add_assoc] using this
  · have := hc 3 _ rfl; simpa [Nat.add_assoc] using this
  · have := hc 4 _ rfl; simpa [Nat.add_assoc] using this
/-! a row grows by one element -/
section
variable {T t : TypeId} {k bytes base n : Nat} {z : Value} {wx : World} {v : Value} {xs : List Value}
theorem row_pushL (ht : Tryz.prog.underlying t = some (.slice T)) (hin : (Tryz.prog.info? T).map (fun i => (i.zero, i.size, i.bytes)) = some (some z, k, bytes)) (hzk : z.cells.size = k) (hk0 : 0 < k)
    (h : wx.ownsRow base T k v n xs) (hb0 : base ≤ wx.heap.size) (r : List Value) (hrl : r.length = k) (hr1 : ∀ u ∈ r, u.oneCell' = true) (B : Nat) (hB : wx.heap[B]? = some (.cells r.toArray T (0, 0)))
    {ops : Array Oper} {rest : List Oper} {o : Oper} {a : Act} {Q : Exit → Act → World → Prop} (hgd : o.guard = none) (s' x' : Operand)
    (ho : o.op = .call { callee := .builtin .append, args := #[s', x'], argTypes := #[t, t] }) (hs : a.eval s' = v) (hx : a.eval x' = .slice (some ⟨B, 0, none⟩) 1 1) (hm : n + 1 ≤ maxLen) (hbd : (n + 1) * bytes ≤ 140737488355328)
    (hk : ∀ g cap W, W.ownsRow base T k (.slice (some ⟨g, 0, none⟩) (n + 1) cap) (n + 1) (xs ++ r) → wx.grownBy W v.ownBlock → (v.ownBlock = some g ∨ g = wx.heap.size) → g < W.heap.size → wpList Tryz.prog ops Q rest (a.put o.dst (.slice (some ⟨g, 0, none⟩) (n + 1) cap)) W) :
    wpList Tryz.prog ops Q (o :: rest) a wx := by
  obtain ⟨i0, hi0, hz0, hz1, hz2⟩ := info_parts hin
  exact wpList_append_lies _ hgd s' x' t ho base T i0 z k bytes ht hi0 hz0 hz1 hz2 hzk hk0 v n xs hs h ⟨B, 0, none⟩ 1 1 r hx (by rw [hrl, Nat.one_mul]) (World.news_of_block (cs := r.toArray) (t := T) (fr := (0, 0)) hB) hr1 (by decide) hm hbd hb0 _ rfl hk
end
/-- a row of the call's own, cut by its last element -/
theorem own_cut {w : World} {base : Nat} {T : TypeId} {g n cap : Nat} {xs : List Value} {x : Value} (h : w.ownsRow base T 1 (.slice (some ⟨g, 0, none⟩) (n + 1) cap) (n + 1) (xs ++ [x])) : w.ownsRow base T 1 (.slice (some ⟨g, 0, none⟩) n cap) n xs := by
  obtain ⟨hl, ⟨hv, h0⟩ | ⟨g', cap', cur, hv, hg, hh, h3, h4, h5, h6⟩⟩ := h
  · cases hv
  · have hv' : g = g' ∧ cap = cap' := by
      injection hv with h1 h2 h3
      injection h1 with h1
      injection h1 with h1
      exact ⟨h1, h3⟩
    obtain ⟨rfl, rfl⟩ := hv'
    have hxl : xs.length = n := by simpa using hl
    refine ⟨by omega, .inr ⟨g, cap, cur, rfl, hg, hh, by omega, h4, h5, ?_⟩⟩
    have e1 : cur.toList.take n = (cur.toList.take ((n + 1) * 1)).take n := by rw [List.take_take, Nat.min_eq_left (by omega)]
    have e2 : (xs ++ [x]).take n = xs := by rw [List.take_append_of_le_length (by omega), List.take_of_length_le (l := xs) (by omega)]
    rw [Nat.mul_one, e1, h6, e2]
/-- the last element of such a row -/
theorem own_last {w : World} {base : Nat} {T : TypeId} {g n cap : Nat} {xs : List Value} {x : Value} (h : w.ownsRow base T 1 (.slice (some ⟨g, 0, none⟩) (n + 1) cap) (n + 1) (xs ++ [x])) : w.cell? ⟨g, n, none⟩ = some x ∧ n + 1 ≤ cap := by
  obtain ⟨hl, ⟨hv, h0⟩ | ⟨g', cap', cur, hv, hg, hh, h3, h4, h5, h6⟩⟩ := h
  · cases hv
  · have hv' : g = g' ∧ cap = cap' := by
      injection hv with h1 h2 h3
      injection h1 with h1
      injection h1 with h1
      exact ⟨h1, h3⟩
    obtain ⟨rfl, rfl⟩ := hv'
    have hxl : xs.length = n := by simpa using hl
    refine ⟨?_, h3⟩
    have e : (cur.toList.take ((n + 1) * 1))[n]? = some x := by rw [h6, List.getElem?_append_right (by omega), hxl]; simp
    rw [List.getElem?_take, if_pos (by omega)] at e
    simp only [World.cell?, hh]
    simpa using e
end Go.Proofs.YtkhnicppcbgdiaaGreatDoor
namespace Go.Proofs.YtkhnicppcbgdiaaGreatDoor
theorem cell_at {w : World} {B : Nat} {cs : Array Value} {T : TypeId} {fr : Nat × Nat} {v : Value} (h : w.heap[B]? = some (.cells cs T fr)) (i : Nat) (e : cs.toList[i]? = some v) : w.cell? ⟨B, i, none⟩ = some v := by
  simp only [World.cell?, h]
  simpa using e
theorem frozen_at {w : World} {B : Nat} {cs : Array Value} {T : TypeId} (h : w.heap[B]? = some (.cells cs T (0, 0))) (i : Nat) : w.frozen? ⟨B, i, none⟩ = false := by
  simp [World.frozen?, h]
end Go.Proofs.YtkhnicppcbgdiaaGreatDoor
namespace Go.Proofs.YtkhnicppcbgdiaaGreatDoor
set_option linter.unusedVariables false
open Go.ChangeShapes Go.WideShapes Go.ChangeAt Go.RowKit

theorem box_new (w : World) (cs : Array Value) (T : TypeId) : ∃ Y, w.alloc (.cells cs T) = Y ∧ Y.heap[w.heap.size]? = some (.cells cs T (0, 0)) ∧ Below w.heap.size w Y ∧ Y.heap.size = w.heap.size + 1 :=
  ⟨_, rfl, alloc_heap_new _ _, (Below.refl _ w).alloc (Nat.le_refl _) _, by simp⟩
theorem map_new (w : World) : ∃ Y, w.alloc (.map #[] 0) = Y ∧ Y.heap[w.heap.size]? = some (.map #[] 0) ∧ Below w.heap.size w Y ∧ Y.heap.size = w.heap.size + 1 :=
  ⟨_, rfl, alloc_heap_new _ _, (Below.refl _ w).alloc (Nat.le_refl _) _, by simp⟩
theorem slice_two {a a' : Option Addr} {n n' c c' : Nat} (h : Value.slice a n c = .slice a' n' c') : a = a' ∧ c = c' := by
  injection h with h1 _ h3
  exact ⟨h1, h3⟩
theorem vd_at {w W : World} {S : Nat → Prop} {v : Value} {xs : List VD} (h : RowsIn w S 2 vdrow v xs) (hW : ∀ b, S b → W.heap[b]? = w.heap[b]?) {q : Nat} {x : VD} (hx : xs[q]? = some x) :
    ∃ g o c, v = .slice (some ⟨g, o, none⟩) xs.length c ∧ S g ∧ W.cell? ⟨g, o + q * 2, none⟩ = some (.string (mkB x.name)) ∧ W.cell? ⟨g, o + q * 2 + 1, none⟩ = some (.int .i64 x.num) := by
  obtain ⟨ad, c, hsl, hcc, hrows⟩ := h
  rcases hrows with h0 | ⟨g, o, had, hg, hrow⟩
  · rw [h0] at hx; simp at hx
  subst had
  have hb := hW g hg
  have hc : ∀ i u, (vdrow x)[i]? = some u → W.cell? ⟨g, o + (q * 2 + i), none⟩ = some u := fun i u hu => by
    rw [World.cell?_of_block hb]; exact hrow q x hx i u hu
  refine ⟨g, o, c, hsl, hg, ?_, ?_⟩
  · have := hc 0 _ rfl; simpa [Nat.add_assoc] using this
  · have := hc 1 _ rfl; simpa [Nat.add_assoc] using this
theorem td_at {w W : World} {S : Nat → Prop} {v : Value} {xs : List TD} (h : RowsIn w S 5 tdrow v xs) (hW : ∀ b, S b → W.heap[b]? = w.heap[b]?) {q : Nat} {x : TD} (hx : xs[q]? = some x) :
    ∃ g o c, v = .slice (some ⟨g, o, none⟩) xs.length c ∧ S g ∧ W.cell? ⟨g, o + q * 5, none⟩ = some (.int .i64 x.id) ∧ W.cell? ⟨g, o + q * 5 + 1, none⟩ = some (.string (mkB x.service)) ∧ W.cell? ⟨g, o + q * 5 + 2, none⟩ = some (.string (mkB x.name)) ∧ W.cell? ⟨g, o + q * 5 + 3, none⟩ = some (.int .i64 x.inp) ∧ W.cell? ⟨g, o + q * 5 + 4, none⟩ = some (.int .i64 x.out) := by
  obtain ⟨ad, c, hsl, hcc, hrows⟩ := h
  rcases hrows with h0 | ⟨g, o, had, hg, hrow⟩
  · rw [h0] at hx; simp at hx
  subst had
  have hb := hW g hg
  have hc : ∀ i u, (tdrow x)[i]? = some u → W.cell? ⟨g, o + (q * 5 + i), none⟩ = some u := fun i u hu => by
    rw [World.cell?_of_block hb]; exact hrow q x hx i u hu
  refine ⟨g, o, c, hsl, hg, ?_, ?_, ?_, ?_, ?_⟩
  · have := hc 0 _ rfl; simpa [Nat.add_assoc] using this
  · have := hc 1 _ rfl; simpa [Nat.add_assoc] using this
  · have := hc 2 _ rfl; simpa [Nat.add_assoc] using this
  · have := hc 3 _ rfl; simpa [Nat.add_assoc] using this
  · have := hc 4 _ rfl; simpa [Nat.add_assoc] using this
end Go.Proofs.YtkhnicppcbgdiaaGreatDoor
