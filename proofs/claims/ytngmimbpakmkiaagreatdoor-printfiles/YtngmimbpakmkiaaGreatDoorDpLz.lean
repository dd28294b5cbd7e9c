/-
  The program's reader and one thing of the running call in memory; and what the reader's small functions do to both.
-/
import Derived.Test.YtngmimbpakmkiaaGreatDoorDpBz
namespace Go.Proofs.YtngmimbpakmkiaaGreatDoor
set_option linter.unusedVariables false
open Go.ChangeShapes Go.WideShapes Go.ChangeAt Go.RowKit

theorem DrAt.m {w : World} {R : Nat} {en : Int × Int} {r : Rd} (h : DrAt w R en r) : rdM w R = r.m := by
  obtain ⟨ad, c, _, _, _, c0, _, _, _, _, c5, _⟩ := h.get
  unfold rdM Rd.m
  rw [c0, c5]
theorem DrAt.nameT_len {w : World} {R : Nat} {en : Int × Int} {r : Rd} (h : DrAt w R en r) : r.nameT.length ≤ 20000 := by
  unfold Rd.nameT Rd.text
  split
  · cases hl : r.l with
    | nil => simp
    | cons y t => exact (h.good y (by rw [hl]; simp)).1.1
  · simp
/-- the reader stands at q; the thing lies in block D, which is new since w0 -/
structure Lv (w0 wx : World) (R : Nat) (en : Int × Int) (q : Rd) (D : Nat) (T : TypeId) (cs : Array Value) : Prop where
  rd : DrAt wx R en q
  gr : w0.grownBy wx (some R)
  loc : wx.heap[D]? = some (.cells cs T (0, 0))
  lt : R < w0.heap.size
  new : w0.heap.size ≤ D
section
variable {w0 wx w' : World} {R : Nat} {en : Int × Int} {q q' : Rd} {D : Nat} {T : TypeId} {cs : Array Value}
theorem Lv.size (h : Lv w0 wx R en q D T cs) : D < wx.heap.size := (Array.getElem?_eq_some_iff.1 h.loc).1
theorem Lv.step (h : Lv w0 wx R en q D T cs) (hr : DrAt w' R en q') (hg : wx.grownBy w' (some R)) : Lv w0 w' R en q' D T cs := by
  have hl := h.lt
  have hn := h.new
  exact ⟨hr, h.gr.trans hg, by rw [hg.block _ h.size (by intro e; cases e; omega)]; exact h.loc, hl, hn⟩
theorem Lv.below (h : Lv w0 wx R en q D T cs) (hb : Below wx.heap.size wx w') : Lv w0 w' R en q D T cs := h.step (h.rd.below hb) (grownBy_below hb _)
theorem Lv.alloc (h : Lv w0 wx R en q D T cs) (o : Obj) : Lv w0 (wx.alloc o) R en q D T cs := h.step (h.rd.alloc o) (World.grownBy_alloc _ _ _)
theorem Lv.drew (h : Lv w0 wx R en q D T cs) : Lv w0 wx.drew R en q D T cs := h.step h.rd.drew (grownBy_drew _ _)
theorem Lv.set (h : Lv w0 wx R en q D T cs) (j : Nat) (x : Value) : Lv w0 (wx.setCell ⟨D, j, none⟩ x) R en q D T (cs.setIfInBounds j x) := by
  have hl := h.lt
  have hn := h.new
  exact ⟨h.rd.far _ _ (by omega) _, grow_then h.gr (grownBy_set _ _ _ _) (fun k hk => by cases hk; left; omega), setCell_heap h.loc _, hl, hn⟩
theorem Lv.far (h : Lv w0 wx R en q D T cs) (g j : Nat) (hg : w0.heap.size ≤ g) (hne : D ≠ g) (x : Value) : Lv w0 (wx.setCell ⟨g, j, none⟩ x) R en q D T cs := by
  have hl := h.lt
  have hn := h.new
  exact ⟨h.rd.far _ _ (by omega) _, grow_then h.gr (grownBy_set _ _ _ _) (fun k hk => by cases hk; left; omega), by rw [Below.heap_setCell _ _ _ _ hne]; exact h.loc, hl, hn⟩
theorem Lv.cell (h : Lv w0 wx R en q D T cs) (j : Nat) : wx.cell? ⟨D, j, none⟩ = cs[j]? ∧ wx.frozen? ⟨D, j, none⟩ = false := by
  simp [World.cell?, World.frozen?, h.loc]
theorem Lv.ltD (h : Lv w0 wx R en q D T cs) : R < D := by have := h.lt; have := h.new; omega
theorem Lv.start (w0 wx : World) (h : DrAt wx R en q) (hg : w0.grownBy wx (some R)) (hl : R < w0.heap.size) (T : TypeId) (cs : Array Value) : Lv w0 (wx.alloc (.cells cs T)) R en q wx.heap.size T cs :=
  ⟨h.alloc _, hg.trans (World.grownBy_alloc _ _ _), alloc_heap_new _ _, hl, hg.size⟩
end
section
variable {w0 wx : World} {R : Nat} {en : Int × Int} {q : Rd} {D : Nat} {T : TypeId} {cs : Array Value}
theorem wantLv (h : Lv w0 wx R en q D T cs) (he : q.e = 0) (s : ByteArray) (hs : s.data.toList ≠ []) :
    Calls Tryz.prog 105 #[.pointer (some ⟨R, 0, none⟩), .string s] wx fun x w' => x = .returned (.bool (q.is s.data.toList)) ∧ Lv w0 w' R en (q.take en s.data.toList) D T cs := by
  refine (wantD_any R en q s wx he hs h.rd).mono ?_
  rintro e w' ⟨rfl, h1, h2⟩
  exact ⟨rfl, h.step h1 h2⟩
theorem skipLv (h : Lv w0 wx R en q D T cs) (he : q.e = 0) (s : ByteArray) (hs : s.data.toList ≠ []) :
    Calls Tryz.prog 102 #[.pointer (some ⟨R, 0, none⟩), .string s] wx fun x w' => x = .returned (.bool (q.is s.data.toList)) ∧ Lv w0 w' R en (q.skip s.data.toList) D T cs := by
  refine (skipD_any R en q s wx he hs h.rd).mono ?_
  rintro e w' ⟨rfl, h1, h2⟩
  exact ⟨rfl, h.step h1 h2⟩
/-- the cells behind a name that is read into them -/
def nameC (en : Int × Int) (q : Rd) (cs : Array Value) (o1 o2 : Nat) : Array Value := if q.isName = true then ((cs.setIfInBounds o1 (.string (mkB q.nameT))).setIfInBounds o2 (.int .i64 (q.nameP en).1)).setIfInBounds (o2 + 1) (.int .i64 (q.nameP en).2) else cs
theorem nameLv (h : Lv w0 wx R en q D T cs) (he : q.e = 0) (o1 o2 : Nat) (h1 : o1 < cs.size) (h2 : o2 + 1 < cs.size) (hap : o1 ≠ o2 ∧ o1 ≠ o2 + 1) :
    Calls Tryz.prog 104 #[.pointer (some ⟨R, 0, none⟩), .pointer (some ⟨D, o1, none⟩), .pointer (some ⟨D, o2, none⟩)] wx fun x w' => x = .returned (.bool q.isName) ∧ Lv w0 w' R en (q.name en) D T (nameC en q cs o1 o2) := by
  have hl := h.ltD
  have c1 := (h.cell o1).1
  have c2 := (h.cell o2).1
  have c3 := (h.cell (o2 + 1)).1
  rw [Array.getElem?_eq_getElem h1] at c1
  rw [Array.getElem?_eq_getElem (by omega)] at c2
  rw [Array.getElem?_eq_getElem h2] at c3
  refine (nameD_any R en q wx D o1 D o2 _ _ _ he h.rd hl hl c1 c2 c3 (h.cell o1).2 (h.cell o2).2 (h.cell (o2 + 1)).2 (.inr hap)).mono ?_
  rintro e w' ⟨rfl, hr, hg⟩
  refine ⟨rfl, ?_⟩
  unfold nameC
  by_cases hi : q.isName = true
  · rw [if_pos hi] at hg ⊢
    exact (((h.set o1 _).set o2 _).set (o2 + 1) _).step hr hg
  · rw [if_neg hi] at hg ⊢
    exact h.step hr hg
def numberC (q : Rd) (cs : Array Value) (o1 : Nat) : Array Value := if q.isNum = true then cs.setIfInBounds o1 (.int .i64 q.numberV) else cs
theorem numberLv (h : Lv w0 wx R en q D T cs) (he : q.e = 0) (o1 : Nat) (h1 : o1 < cs.size) :
    Calls Tryz.prog 106 #[.pointer (some ⟨R, 0, none⟩), .pointer (some ⟨D, o1, none⟩)] wx fun x w' => x = .returned (.bool q.isNum) ∧ Lv w0 w' R en (q.number en) D T (numberC q cs o1) := by
  have hl := h.ltD
  have c1 := (h.cell o1).1
  rw [Array.getElem?_eq_getElem h1] at c1
  refine (numberD_any R en q wx D o1 _ he h.rd hl c1 (h.cell o1).2).mono ?_
  rintro e w' ⟨rfl, hr, hg⟩
  refine ⟨rfl, ?_⟩
  unfold numberC
  by_cases hi : q.isNum = true
  · rw [if_pos hi] at hg ⊢
    exact (h.set o1 _).step hr hg
  · rw [if_neg hi] at hg ⊢
    exact h.step hr hg
end
end Go.Proofs.YtngmimbpakmkiaaGreatDoor
