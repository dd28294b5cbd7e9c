/-
  One declaration more in a message that is being read: an element of zeros is appended first, and then set. Nothing is proved of the program here.
-/
import Derived.Test.YtngmimbpakmkiaaGreatDoorDpKz
namespace Go.Proofs.YtngmimbpakmkiaaGreatDoor
set_option linter.unusedVariables false
open Go.ChangeShapes Go.WideShapes Go.ChangeAt Go.RowKit

theorem own_setAt {w : World} {base : Nat} {E : TypeId} {k g n cap : Nat} {xs : List Value} (h : w.ownsRow base E k (.slice (some ⟨g, 0, none⟩) n cap) n xs) (j : Nat) (x : Value) : (w.setCell ⟨g, j, none⟩ x).ownsRow base E k (.slice (some ⟨g, 0, none⟩) n cap) n (xs.set j x) := by
  obtain ⟨h1, ⟨h2, _⟩ | ⟨g', cap', cur, hv, hg, hh, h3, h4, h5, h6⟩⟩ := h
  · cases h2
  · simp only [Value.slice.injEq, Option.some.injEq, Addr.mk.injEq, and_true, true_and] at hv
    obtain ⟨rfl, rfl⟩ := hv
    refine ⟨by rw [List.length_set]; exact h1, .inr ⟨g, cap, cur.setIfInBounds j x, rfl, hg, setCell_heap hh x, h3, h4, by rw [Array.size_setIfInBounds]; exact h5, ?_⟩⟩
    rw [Array.toList_setIfInBounds, List.take_set, h6]
/-- eight cells of a block, from one on -/
def S8 (W : World) (g m : Nat) (x0 x1 x2 x3 x4 x5 x6 x7 : Value) : World :=
  (((((((W.setCell ⟨g, m, none⟩ x0).setCell ⟨g, m + 1, none⟩ x1).setCell ⟨g, m + 2, none⟩ x2).setCell ⟨g, m + 3, none⟩ x3).setCell ⟨g, m + 4, none⟩ x4).setCell ⟨g, m + 5, none⟩ x5).setCell ⟨g, m + 6, none⟩ x6).setCell ⟨g, m + 7, none⟩ x7
theorem S8_far (W : World) (g m : Nat) (x0 x1 x2 x3 x4 x5 x6 x7 : Value) (b : Nat) (hb : b ≠ g) : (S8 W g m x0 x1 x2 x3 x4 x5 x6 x7).heap[b]? = W.heap[b]? := by
  unfold S8
  rw [Below.heap_setCell _ _ _ _ hb, Below.heap_setCell _ _ _ _ hb, Below.heap_setCell _ _ _ _ hb, Below.heap_setCell _ _ _ _ hb, Below.heap_setCell _ _ _ _ hb, Below.heap_setCell _ _ _ _ hb, Below.heap_setCell _ _ _ _ hb, Below.heap_setCell _ _ _ _ hb]
theorem S8_size (W : World) (g m : Nat) (x0 x1 x2 x3 x4 x5 x6 x7 : Value) : (S8 W g m x0 x1 x2 x3 x4 x5 x6 x7).heap.size = W.heap.size := by simp [S8, World.setCell]
theorem S8_grown (W : World) (g m : Nat) (x0 x1 x2 x3 x4 x5 x6 x7 : Value) : W.grownBy (S8 W g m x0 x1 x2 x3 x4 x5 x6 x7) (some g) :=
  (((((((grownBy_set _ _ _ _).trans (grownBy_set _ _ _ _)).trans (grownBy_set _ _ _ _)).trans (grownBy_set _ _ _ _)).trans (grownBy_set _ _ _ _)).trans (grownBy_set _ _ _ _)).trans (grownBy_set _ _ _ _)).trans (grownBy_set _ _ _ _)
theorem set_behind (xs l : List Value) (m i : Nat) (x : Value) (h : xs.length = m) : (xs ++ l).set (m + i) x = xs ++ l.set i x := by
  rw [List.set_append, if_neg (by omega), h, Nat.add_sub_cancel_left]
theorem own_S8 {w : World} {base : Nat} {E : TypeId} {g n cap m : Nat} {xs : List Value} {z0 z1 z2 z3 z4 z5 z6 z7 : Value} (h : w.ownsRow base E 8 (.slice (some ⟨g, 0, none⟩) n cap) n (xs ++ [z0, z1, z2, z3, z4, z5, z6, z7])) (hm : xs.length = m) (x0 x1 x2 x3 x4 x5 x6 x7 : Value) :
    (S8 w g m x0 x1 x2 x3 x4 x5 x6 x7).ownsRow base E 8 (.slice (some ⟨g, 0, none⟩) n cap) n (xs ++ [x0, x1, x2, x3, x4, x5, x6, x7]) := by
  have := own_setAt (own_setAt (own_setAt (own_setAt (own_setAt (own_setAt (own_setAt (own_setAt h (m + 0) x0) (m + 1) x1) (m + 2) x2) (m + 3) x3) (m + 4) x4) (m + 5) x5) (m + 6) x6) (m + 7) x7
  rw [set_behind _ _ m 0 _ hm, set_behind _ _ m 1 _ hm, set_behind _ _ m 2 _ hm, set_behind _ _ m 3 _ hm, set_behind _ _ m 4 _ hm, set_behind _ _ m 5 _ hm, set_behind _ _ m 6 _ hm, set_behind _ _ m 7 _ hm] at this
  exact this
theorem own_cell8 {w : World} {base : Nat} {E : TypeId} {g n cap m : Nat} {xs : List Value} {z0 z1 z2 z3 z4 z5 z6 z7 : Value} (h : w.ownsRow base E 8 (.slice (some ⟨g, 0, none⟩) n cap) n (xs ++ [z0, z1, z2, z3, z4, z5, z6, z7])) (hm : xs.length = m) :
    (w.cell? ⟨g, m, none⟩ = some z0 ∧ w.cell? ⟨g, m + 1, none⟩ = some z1 ∧ w.cell? ⟨g, m + 2, none⟩ = some z2 ∧ w.cell? ⟨g, m + 3, none⟩ = some z3 ∧ w.cell? ⟨g, m + 4, none⟩ = some z4 ∧ w.cell? ⟨g, m + 5, none⟩ = some z5 ∧ w.cell? ⟨g, m + 6, none⟩ = some z6 ∧ w.cell? ⟨g, m + 7, none⟩ = some z7) ∧ ∀ j, w.frozen? ⟨g, j, none⟩ = false := by
  obtain ⟨h1, ⟨h2, _⟩ | ⟨g', cap', cur, hv, hg, hh, h3, h4, h5, h6⟩⟩ := h
  · cases h2
  · simp only [Value.slice.injEq, Option.some.injEq, Addr.mk.injEq, and_true, true_and] at hv
    obtain ⟨rfl, rfl⟩ := hv
    have hc : ∀ i u, i < 8 → [z0, z1, z2, z3, z4, z5, z6, z7][i]? = some u → w.cell? ⟨g, m + i, none⟩ = some u := by
      intro i u hi hu
      have e : (xs ++ [z0, z1, z2, z3, z4, z5, z6, z7])[m + i]? = some u := by
        rw [List.getElem?_append_right (by omega), hm, Nat.add_sub_cancel_left]; exact hu
      have hlen : m + 8 = n * 8 := by rw [← h1, List.length_append, hm]; rfl
      rw [← h6, List.getElem?_take, if_pos (by omega)] at e
      simp only [World.cell?, hh]
      simpa using e
    refine ⟨⟨hc 0 _ (by decide) rfl, hc 1 _ (by decide) rfl, hc 2 _ (by decide) rfl, hc 3 _ (by decide) rfl, hc 4 _ (by decide) rfl, hc 5 _ (by decide) rfl, hc 6 _ (by decide) rfl, hc 7 _ (by decide) rfl⟩, fun j => by simp [World.frozen?, hh]⟩
theorem flat_len : ∀ (rs : List (List Value)), (∀ r ∈ rs, r.length = 8) → (rs.flatMap id).length = rs.length * 8
  | [], _ => rfl
  | a :: t, h => by
    have := flat_len t (fun r hr => h r (by simp [hr]))
    have ha := h a (by simp)
    rw [List.flatMap_cons, List.length_append, this, List.length_cons]
    show a.length + _ = _
    omega
section
variable {f : Nat} {w0 wx w' : World} {R : Nat} {en : Int × Int} {q q' : Rd} {nm : List UInt8} {pl pc : Int} {fs ins : Value} {fl : List Fd} {ds : List Dc} {rs : List (List Value)}
/-- one declaration more, at a step of a region that draws its order -/
theorem Dm.pushZ (h : Dm f w0 wx R en q nm pl pc fs ins fl ds rs) (x : Dc) (kf kv km ki : Value) (hkid : Kids f wx (AwayE w0 wx fs ins) kf kv km ki x) {ops : Array Oper} {o : Oper} {a : Act} {K : Act → World → Prop} {Q : Exit → Act → World → Prop} {E : Prop} (hgd : o.guard = none) (s' x' : Operand)
    (ho : o.op = .call { callee := .builtin .append, args := #[s', x'], argTypes := #[26, 26] })
    (hs : a.eval s' = ins) (hx : a.eval x' = .slice (some ⟨wx.heap.size, 0, none⟩) 1 1) (hbd : ds.length ≤ 100000)
    (hk : ∀ g cap W, (∀ cs, Do w0 wx R en q 46 z8 cs → Do w0 W R en q 46 z8 cs) →
      ((W.cell? ⟨g, ds.length * 8, none⟩ = some (.int .i64 0) ∧ W.cell? ⟨g, ds.length * 8 + 1, none⟩ = some (.string ⟨#[]⟩) ∧ W.cell? ⟨g, ds.length * 8 + 2, none⟩ = some (.int .i64 0) ∧ W.cell? ⟨g, ds.length * 8 + 3, none⟩ = some (.int .i64 0) ∧ W.cell? ⟨g, ds.length * 8 + 4, none⟩ = some (.slice none 0 0) ∧ W.cell? ⟨g, ds.length * 8 + 5, none⟩ = some (.slice none 0 0) ∧ W.cell? ⟨g, ds.length * 8 + 6, none⟩ = some (.slice none 0 0) ∧ W.cell? ⟨g, ds.length * 8 + 7, none⟩ = some (.slice none 0 0)) ∧ ∀ j, W.frozen? ⟨g, j, none⟩ = false) → w0.heap.size + 2 ≤ g →
      Dm f w0 ((S8 W g (ds.length * 8) (.int .i64 x.kind) (.string (mkB x.name)) (.int .i64 x.line) (.int .i64 x.col) kf kv km ki).setCell ⟨w0.heap.size + 1, 7, none⟩ (.slice (some ⟨g, 0, none⟩) (ds.length + 1) cap)) R en q nm pl pc fs (.slice (some ⟨g, 0, none⟩) (ds.length + 1) cap) fl (ds ++ [x]) (rs ++ [drow x kf kv km ki]) → K (a.put o.dst (.slice (some ⟨g, 0, none⟩) (ds.length + 1) cap)) W) :
    if Region.wanted o (yielded ops a.tmps) = true then Oper.wp Tryz.prog o a (wx.alloc (.cells z8 46)) K Q else E := by
  have hsz := h.lo.size
  have hl := h.lo.lt
  have ha := h.alloc (.cells z8 46)
  obtain ⟨i0, hi0, hz0, hz1, hz2⟩ := info_parts infoDcD
  refine step_append_lies _ hgd s' x' 26 ho (w0.heap.size + 2) 46 i0 _ 8 136 Tryz.underlying26 hi0 hz0 hz1 hz2 rfl (by decide) ins ds.length (rs.flatMap id) hs ha.decls.own ⟨wx.heap.size, 0, none⟩ 1 1 [.int .i64 0, .string ⟨#[]⟩, .int .i64 0, .int .i64 0, .slice none 0 0, .slice none 0 0, .slice none 0 0, .slice none 0 0] hx rfl ?_ (by intro u hu; simp only [List.mem_cons, List.not_mem_nil, or_false] at hu; rcases hu with rfl | rfl | rfl | rfl | rfl | rfl | rfl | rfl <;> rfl) (by decide) (by unfold maxLen; omega) (by omega) (by simp; omega) _ rfl ?_
  · exact World.news_of_block (cs := z8) (t := 46) (fr := (0, 0)) (by show (wx.heap.push _)[wx.heap.size]? = _; simp)
  · intro g cap W hown hg hat hlt
    have hsa : (wx.alloc (.cells z8 46)).heap.size = wx.heap.size + 1 := by simp
    have hsW := hg.size
    have hb : ∀ b, b < wx.heap.size + 1 → ins.ownBlock ≠ some b → W.heap[b]? = (wx.alloc (.cells z8 46)).heap[b]? := fun b hb hne => hg.block b (by rw [hsa]; exact hb) (fun e => hne e.symm)
    have hlow : ∀ b, b < w0.heap.size + 2 → W.heap[b]? = wx.heap[b]? := fun b hb' => by
      rw [hb b (by omega) (fun e => by have := (own_block h.decls.own b e).1; omega), alloc_heap_old _ _ _ (by omega)]
    have hLo : ∀ cs, Do w0 wx R en q 46 z8 cs → Do w0 W R en q 46 z8 cs := fun cs hc =>
      ⟨hc.rd.old fun b hb' => hlow b (by omega), grow_then (hc.gr.trans (World.grownBy_alloc _ _ _)) hg (fun b hb' => by left; have := (own_block h.decls.own b hb').1; omega), by rw [hlow _ (by omega)]; exact hc.ans, by rw [hlow _ (by omega)]; exact hc.loc, hl⟩
    have hgb : w0.heap.size + 2 ≤ g := by
      rcases hat with e | e
      · exact (own_block h.decls.own g e).1
      · rw [hsa] at e; omega
    have hgi : fs.ownBlock ≠ some g := by
      rcases hat with e | e
      · exact fun e2 => h.apart g e2 e
      · intro e2; have := (own_block h.ownF g e2).2; rw [hsa] at e; omega
    have hbg : ∀ b, b < wx.heap.size → ins.ownBlock ≠ some b → b ≠ g := fun b h1 h2 e => by
      subst e
      rcases hat with e | e
      · exact h2 e
      · rw [hsa] at e; omega
    have hlen8 : (rs.flatMap id).length = ds.length * 8 := by rw [flat_len rs h.decls.row8, h.decls.len]
    have hkW : ∀ b, w0.heap.size + 2 ≤ b → b < wx.heap.size → ins.ownBlock ≠ some b → ((S8 W g (ds.length * 8) (.int .i64 x.kind) (.string (mkB x.name)) (.int .i64 x.line) (.int .i64 x.col) kf kv km ki).setCell ⟨w0.heap.size + 1, 7, none⟩ (.slice (some ⟨g, 0, none⟩) (ds.length + 1) cap)).heap[b]? = wx.heap[b]? := fun b h1 h2 h3 => by
      rw [Below.heap_setCell _ _ _ _ (by show b ≠ w0.heap.size + 1; omega), S8_far _ _ _ _ _ _ _ _ _ _ _ b (hbg b h2 h3), hb b (by omega) h3, alloc_heap_old _ _ _ h2]
    have hAw : ∀ b, AwayE w0 wx fs ins b → AwayE w0 ((S8 W g (ds.length * 8) (.int .i64 x.kind) (.string (mkB x.name)) (.int .i64 x.line) (.int .i64 x.col) kf kv km ki).setCell ⟨w0.heap.size + 1, 7, none⟩ (.slice (some ⟨g, 0, none⟩) (ds.length + 1) cap)) fs (.slice (some ⟨g, 0, none⟩) (ds.length + 1) cap) b := fun b hb' => by
      refine ⟨hb'.1, ?_, hb'.2.2.1, ?_⟩
      · have e1 : ((S8 W g (ds.length * 8) (.int .i64 x.kind) (.string (mkB x.name)) (.int .i64 x.line) (.int .i64 x.col) kf kv km ki).setCell ⟨w0.heap.size + 1, 7, none⟩ (.slice (some ⟨g, 0, none⟩) (ds.length + 1) cap)).heap.size = W.heap.size := by rw [show ∀ (V : World) (p : Addr) (u : Value), (V.setCell p u).heap.size = V.heap.size from fun V p u => by simp [World.setCell], S8_size]
        have := hb'.2.1
        rw [hsa] at hsW
        omega
      · intro e
        have e' : g = b := by simpa [Value.ownBlock] using e
        subst e'
        rcases hat with e | e
        · exact hb'.2.2.2 e
        · have := hb'.2.1; rw [hsa] at e; omega
    have hLS : ∀ cs, Do w0 wx R en q 46 z8 cs → Do w0 (S8 W g (ds.length * 8) (.int .i64 x.kind) (.string (mkB x.name)) (.int .i64 x.line) (.int .i64 x.col) kf kv km ki) R en q 46 z8 cs := fun cs hc => by
      have hc' := hLo cs hc
      exact ⟨hc'.rd.old fun b hb' => S8_far _ _ _ _ _ _ _ _ _ _ _ b (by omega), grow_then hc'.gr (S8_grown _ _ _ _ _ _ _ _ _ _ _) (fun b hb' => by cases hb'; left; omega), by rw [S8_far _ _ _ _ _ _ _ _ _ _ _ _ (by omega)]; exact hc'.ans, by rw [S8_far _ _ _ _ _ _ _ _ _ _ _ _ (by omega)]; exact hc'.loc, hl⟩
    refine hk g cap W hLo (own_cell8 hown hlen8) hgb ⟨(hLS _ h.lo).set 7 _, ?_, ⟨?_, ?_, ?_⟩, ?_⟩
    · exact own_keep h.ownF fun b hb' => hkW b (own_block h.ownF b hb').1 (own_block h.ownF b hb').2 (fun e => h.apart b hb' e)
    · rw [List.length_append, List.flatMap_append]
      refine own_keep (w := (S8 W g (ds.length * 8) (.int .i64 x.kind) (.string (mkB x.name)) (.int .i64 x.line) (.int .i64 x.col) kf kv km ki)) (by simpa [drow] using own_S8 hown hlen8 (.int .i64 x.kind) (.string (mkB x.name)) (.int .i64 x.line) (.int .i64 x.col) kf kv km ki) fun b hb' => Below.heap_setCell _ _ _ _ ?_
      have e : g = b := by simpa [Value.ownBlock] using hb'
      show b ≠ w0.heap.size + 1
      omega
    · rw [List.length_append, List.length_append, h.decls.len]; rfl
    · intro j d hj
      by_cases hjl : j < ds.length
      · rw [List.getElem?_append_left hjl] at hj
        obtain ⟨f1, v1, m1, i1, hr1, hk1⟩ := h.decls.kids j d hj
        exact ⟨f1, v1, m1, i1, by rw [List.getElem?_append_left (by rw [h.decls.len]; exact hjl)]; exact hr1, (hk1.old fun b hb' => hkW b hb'.1 hb'.2.1 hb'.2.2.2).more hAw⟩
      · have hjn := (List.getElem?_eq_some_iff.1 hj).1
        rw [List.length_append] at hjn
        have hje : j = ds.length := by simp at hjn; omega
        subst hje
        rw [List.getElem?_append_right (Nat.le_refl _), Nat.sub_self] at hj
        have e : x = d := by simpa using hj
        subst e
        exact ⟨kf, kv, km, ki, by rw [← h.decls.len, List.getElem?_append_right (Nat.le_refl _), Nat.sub_self]; rfl, (hkid.old fun b hb' => hkW b hb'.1 hb'.2.1 hb'.2.2.2).more hAw⟩
    · intro b hb' e
      have e' : g = b := by simpa [Value.ownBlock] using e
      rw [← e'] at hb'
      exact hgi hb'
end
end Go.Proofs.YtngmimbpakmkiaaGreatDoor
