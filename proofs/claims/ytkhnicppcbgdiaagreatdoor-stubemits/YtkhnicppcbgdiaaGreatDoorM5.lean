/-
  Cells of tables, new blocks. Nothing is proved of the program here.
  The walk over the program's own rowIn: the names that stand in a method's line.
  Slices of rows that a call makes; the walk over the program's own found.
  The walks over strings.Builder's functions, as this translation has them, at a builder that lies in the program's own writer: it holds the bytes that it held, and what was written.
  The walks over the program's own writer: line and word; what writing leaves.
-/
import Derived.Test.YtkhnicppcbgdiaaGreatDoorM4
import Derived.Test.YtkhnicppcbgdiaaGreatDoorM1
import Derived.Test.YtkhnicppcbgdiaaGreatDoorM2
import Derived.WalkSpells
import Derived.Test.YtkhnicppcbgdiaaGreatDoorProg
import Derived.WalkKit
import Derived.Laws.Externs
import Derived.Lib.BufferKept
import Derived.Lib.FrozenHead2
import Derived.Lib.AppendIntMem
import Derived.Shelf.RegionOpenPlain
import Derived.Test.YtkhnicppcbgdiaaGreatDoorM3
import Derived.Test.YtkhnicppcbgdiaaGreatDoorM0
import Derived.Deep.RegionHeldLaw
import Derived.Lib.ItoaMem
import Derived.Lib.ItoaLen
namespace Go.Proofs.YtkhnicppcbgdiaaGreatDoor
set_option linter.unusedVariables false
open Go.ChangeShapes Go.WideShapes Go.ChangeAt Go.RowKit

theorem box_new (w : World) (cs : Array Value) (T : TypeId) : ∃ Y, w.alloc (.cells cs T) = Y ∧ Y.heap[w.heap.size]? = some (.cells cs T (0, 0)) ∧ Below w.heap.size w Y ∧ Y.heap.size = w.heap.size + 1 :=
  ⟨_, rfl, alloc_heap_new _ _, (Below.refl _ w).alloc (Nat.le_refl _) _, by simp⟩
theorem map_new (w : World) : ∃ Y, w.alloc (.map #[] 0) = Y ∧ Y.heap[w.heap.size]? = some (.map #[] 0) ∧ Below w.heap.size w Y ∧ Y.heap.size = w.heap.size + 1 :=
  ⟨_, rfl, alloc_heap_new _ _, (Below.refl _ w).alloc (Nat.le_refl _) _, by simp⟩
theorem slice_two {a a' : Option Addr} {n n' c c' : Nat} (h : Value.slice a n c = .slice a' n' c') : a = a' ∧ c = c' := by
  injection h with h1 _ h3
  exact ⟨h1, h3⟩
theorem vd_at {w W : World} {S : Nat → Prop} {v : Value} {xs : List VD} (h : RowsIn w S 2 vdrow v xs) (hW : ∀ b, S b → W.heap[b]? = w.heap[b]?) {q : Nat} {x : VD} (hx : xs[q]? = some x) :
    ∃ g o c, v = .slice (some ⟨g, o, none⟩) xs.length c ∧ S g ∧ W.cell? ⟨g, o + q * 2, none⟩ = some (.string (mkB x.name)) ∧ W.cell? ⟨g, o + q * 2 + 1, none⟩ = some (.int .i64 x.num) := by
  obtain ⟨ad, c, hsl, hcc, hrows⟩ := h
  rcases hrows with h0 | ⟨g, o, had, hg, hrow⟩
  · rw [h0] at hx; simp at hx
  subst had
  have hb := hW g hg
  have hc : ∀ i u, (vdrow x)[i]? = some u → W.cell? ⟨g, o + (q * 2 + i), none⟩ = some u := fun i u hu => by
    rw [World.cell?_of_block hb]; exact hrow q x hx i u hu
  refine ⟨g, o, c, hsl, hg, ?_, ?_⟩
  · have := hc 0 _ rfl; simpa [Nat.add_assoc] using this
  · have := hc 1 _ rfl; simpa [Nat.add_assoc] using this
theorem td_at {w W : World} {S : Nat → Prop} {v : Value} {xs : List TD} (h : RowsIn w S 5 tdrow v xs) (hW : ∀ b, S b → W.heap[b]? = w.heap[b]?) {q : Nat} {x : TD} (hx : xs[q]? = some x) :
    ∃ g o c, v = .slice (some ⟨g, o, none⟩) xs.length c ∧ S g ∧ W.cell? ⟨g, o + q * 5, none⟩ = some (.int .i64 x.id) ∧ W.cell? ⟨g, o + q * 5 + 1, none⟩ = some (.string (mkB x.service)) ∧ W.cell? ⟨g, o + q * 5 + 2, none⟩ = some (.string (mkB x.name)) ∧ W.cell? ⟨g, o + q * 5 + 3, none⟩ = some (.int .i64 x.inp) ∧ W.cell? ⟨g, o + q * 5 + 4, none⟩ = some (.int .i64 x.out) := by
  obtain ⟨ad, c, hsl, hcc, hrows⟩ := h
  rcases hrows with h0 | ⟨g, o, had, hg, hrow⟩
  · rw [h0] at hx; simp at hx
  subst had
  have hb := hW g hg
  have hc : ∀ i u, (tdrow x)[i]? = some u → W.cell? ⟨g, o + (q * 5 + i), none⟩ = some u := fun i u hu => by
    rw [World.cell?_of_block hb]; exact hrow q x hx i u hu
  refine ⟨g, o, c, hsl, hg, ?_, ?_, ?_, ?_, ?_⟩
  · have := hc 0 _ rfl; simpa [Nat.add_assoc] using this
  · have := hc 1 _ rfl; simpa [Nat.add_assoc] using this
  · have := hc 2 _ rfl; simpa [Nat.add_assoc] using this
  · have := hc 3 _ rfl; simpa [Nat.add_assoc] using this
  · have := hc 4 _ rfl; simpa [Nat.add_assoc] using this
end Go.Proofs.YtkhnicppcbgdiaaGreatDoor
namespace Go.Proofs.YtkhnicppcbgdiaaGreatDoor
set_option linter.unusedVariables false
open Go.ChangeShapes Go.WideShapes Go.ChangeAt Go.RowKit

/-- the library's variable that its searching reads holds a number -/
def Mx (w : World) : Prop := ∃ m : Int, w.cell? ⟨laysM145_ren.g 1, 0, none⟩ = some (.int .i64 m)
theorem mx_of {w : World} (h : w.ShapedOpen Tryz.prog) : Mx w := laysM145.s1_3 w h
theorem Mx.below {w w' : World} (h : Mx w) (hb : Below w.heap.size w w') : Mx w' := by
  obtain ⟨m, hm⟩ := h
  exact ⟨m, cell_later hb hm⟩
def rrow (r : Rw) : List Value := [.int .i64 r.id, .string (mkB r.sv), .string (mkB r.mt), .string (mkB r.inn), .string (mkB r.out)]
end Go.Proofs.YtkhnicppcbgdiaaGreatDoor
namespace Go.Proofs.YtkhnicppcbgdiaaGreatDoor
set_option linter.unusedVariables false
open Go.ChangeShapes Go.WideShapes Go.ChangeAt Go.RowKit

/-- rows that the call itself has made -/
def OwnRw (w : World) (base T : Nat) (v : Value) (xs : List Rw) : Prop := w.ownsRow base T 5 v xs.length (xs.flatMap rrow)
def zRw : Value := .agg #[.int .i64 0, .string ⟨#[]⟩, .string ⟨#[]⟩, .string ⟨#[]⟩, .string ⟨#[]⟩]
theorem infoRwP : (Tryz.prog.info? 50).map (fun i => (i.zero, i.size, i.bytes)) = some (some zRw, 5, 72) := by kernel_rfl
theorem infoRwR : (Tryz.prog.info? 62).map (fun i => (i.zero, i.size, i.bytes)) = some (some zRw, 5, 72) := by kernel_rfl
theorem rw_one (r : Rw) : ∀ u ∈ rrow r, u.oneCell' = true := by
  intro u hu
  simp only [rrow, List.mem_cons, List.not_mem_nil, or_false] at hu
  rcases hu with rfl | rfl | rfl | rfl | rfl <;> rfl
theorem ownRw_old {w w' : World} {base T : Nat} {v : Value} {xs : List Rw} (h : OwnRw w base T v xs) (hb : Below w.heap.size w w') : OwnRw w' base T v xs :=
  own_keep h fun b hv => hb.block b (own_block h b hv).2
theorem ownRw_nil (w : World) (base T : Nat) : OwnRw w base T (.slice none 0 0) [] := World.ownsRow_nil _ _ _ _
theorem rw_push {T t : TypeId} {base : Nat} {wx : World} {v : Value} {xs : List Rw} (ht : Tryz.prog.underlying t = some (.slice T)) (hin : (Tryz.prog.info? T).map (fun i => (i.zero, i.size, i.bytes)) = some (some zRw, 5, 72))
    (h : OwnRw wx base T v xs) (hb0 : base ≤ wx.heap.size) (r : Rw) (B : Nat) (hB : wx.heap[B]? = some (.cells (rrow r).toArray T (0, 0)))
    {ops : Array Oper} {rest : List Oper} {o : Oper} {a : Act} {Q : Exit → Act → World → Prop} (hgd : o.guard = none) (s' x' : Operand)
    (ho : o.op = .call { callee := .builtin .append, args := #[s', x'], argTypes := #[t, t] }) (hs : a.eval s' = v) (hx : a.eval x' = .slice (some ⟨B, 0, none⟩) 1 1) (hbd : xs.length ≤ 1000000)
    (hk : ∀ v' W, OwnRw W base T v' (xs ++ [r]) → (∃ g c, v' = .slice (some ⟨g, 0, none⟩) (xs.length + 1) c) → Below base wx W → wx.heap.size ≤ W.heap.size → wpList Tryz.prog ops Q rest (a.put o.dst v') W) :
    wpList Tryz.prog ops Q (o :: rest) a wx := by
  refine row_pushL ht hin rfl (by decide) h hb0 (rrow r) rfl (rw_one r) B hB hgd s' x' ho hs hx (by unfold maxLen; omega) (by omega) ?_
  intro g cap W hown hg _ _
  refine hk _ W ?_ ⟨g, cap, rfl⟩ ((Below.refl _ _).grown hg hb0 fun b hv => (own_block h b hv).1) hg.size
  unfold OwnRw
  rw [List.length_append, List.flatMap_append]
  simpa using hown
end Go.Proofs.YtkhnicppcbgdiaaGreatDoor
namespace Go.Proofs.YtkhnicppcbgdiaaGreatDoor
set_option linter.unusedVariables false
open Go.Shelf Go.RowKit

/-- what a writing call leaves: the builder holds l, nothing below B has changed, nothing else but rows of bytes -/
structure Wr (B b : Nat) (l : List UInt8) (w w' : World) : Prop where
  isb : Lib.IsBuilderF 78 5 B b (Lib.byteCells l) w'
  bel : Below B w w'
  oth : Lib.OthersKept 5 (some b) w w'
theorem mixedW : Tryz.prog.follows Departure.mixedOrders = true := by kernel_rfl
theorem neW : (78 : Nat) ≠ 5 := by decide
theorem infoB : (Tryz.prog.info? 5).map (fun i => (i.zero, i.size, i.bytes)) = some (some (.int .u8 0), 1, 1) := by kernel_rfl
theorem sizeBl : (Tryz.prog.info? 78).map (fun i => i.size) = some 2 := by kernel_rfl
theorem liesW : liesAt Tryz.prog Tryz.prog.depth 78 (2 / Tryz.prog.cellsOf 78) 0 78 1 = true := by kernel_rfl

set_option maxHeartbeats 1000000 in
set_option maxRecDepth 100000 in
theorem copyCheckW (B b : Nat) (bs : List Value) (w : World) (h : Lib.IsBuilderF 78 5 B b bs w) :
    Calls Tryz.prog 63 #[.pointer (some ⟨b, 0, none⟩)] w fun e w' => e = .returned (.tuple #[]) ∧ Lib.BuilderAtF 78 5 B b (.pointer (some ⟨b, 0, none⟩)) bs w' ∧ Below B w w' ∧ Lib.OthersKept 5 (some b) w w' := by
  obtain ⟨j, hj, hjs⟩ := Option.map_eq_some_iff.1 sizeBl
  have hL := liesW
  rcases h with h | h
  · have h0 := h.cell0; have hsh := h.shape; have hfz := h.frozen0
    go_enter Tryz.func63, Tryz.ntmps63
    go_wp2
    rw [Lib.run_to_unsafe w ⟨b, 0, none⟩ Tryz.underlying76 Tryz.underlying126 hj (by rw [hjs]; decide) hsh (Nat.zero_lt_succ 1)]
    simp only [Result.andThen]
    rw [Oper.upon_value]
    go_wp2
    rw [run_callFunc_extern Tryz.func86 (by kernel_rfl) (by kernel_rfl) (by kernel_rfl) (e := Extern.AbiNoEscape.same) (by kernel_rfl)]
    rw [Lib.run_noEscape]
    simp only [Result.andThen]
    rw [Oper.upon_value]
    go_wp2
    rw [Lib.run_from_unsafe w ⟨b, 0, none⟩ Tryz.underlying126 Tryz.underlying76 hj hsh hL]
    simp only [Result.andThen]
    rw [Oper.upon_value]
    go_wp2
    go_end0
    exact ⟨rfl, h.used _, (Below.refl B w).setCell (p := ⟨b, 0, none⟩) h.1 _, (Lib.OthersKept.refl _ _ w).setCell ⟨b, 0, none⟩ rfl _⟩
  · have h0 := h.cell0
    go_enter Tryz.func63, Tryz.ntmps63
    go_wp2
    rw [Lib.run_neq_ptr_same w _ Tryz.underlying76 hj]
    go_wp2
    go_end0
    exact ⟨rfl, h, Below.refl B _, Lib.OthersKept.refl _ _ _⟩

set_option maxHeartbeats 2000000 in
set_option maxRecDepth 100000 in
theorem writeStringW (B b : Nat) (l : List UInt8) (s : ByteArray) (w : World) (h : Lib.IsBuilderF 78 5 B b (Lib.byteCells l) w) (hlen : l.length + s.size ≤ 140737488355328) (hBw : B ≤ w.heap.size) :
    Calls Tryz.prog 34 #[.pointer (some ⟨b, 0, none⟩), .string s] w fun e w' => e = .returned (.tuple #[.int .i64 s.size, .nilIface]) ∧ Wr B b (l ++ s.data.toList) w w' := by
  obtain ⟨i0, hi, hz0, hz1, hz2⟩ := info_parts infoB
  have hC := copyCheckW B b (Lib.byteCells l) w h
  have hcat : Lib.byteCells (l ++ s.data.toList) = Lib.byteCells l ++ Lib.strCells s := by unfold Lib.byteCells Lib.strCells; rw [List.map_append]
  go_enter Tryz.func34, Tryz.ntmps34
  go_wp2_with fail
  refine hC.mono ?_
  rintro e w1 ⟨rfl, h1, hb1, hk1⟩
  obtain ⟨hB, v, hbk, hown, hne⟩ := h1
  rw [Lib.byteCells_length] at hown
  have c0 : w1.cell? ⟨b, 0, none⟩ = some (.pointer (some ⟨b, 0, none⟩)) := by rw [Lib.cell_of_heap hbk]; rfl
  have c1 : w1.cell? ⟨b, 1, none⟩ = some v := by rw [Lib.cell_of_heap hbk]; rfl
  clear hC
  go_wp2_with (at_builtin; refine Lib.wpList_append_own_stringF _ rfl _ _ 41 9 rfl B 5 i0 Tryz.underlying41 Tryz.underlying9 hi hz0 hz1 hz2 _ _ _ rfl hown s rfl ?c3 ?c4 ?c5 ?_)
  case c3 => unfold maxLen; omega
  case c4 => omega
  case c5 => have := hb1.size; omega
  intro v' w2 hown' hgrow _
  have hlt : b < w1.heap.size := by
    rcases Nat.lt_or_ge b w1.heap.size with h' | h'
    · exact h'
    · simp [Array.getElem?_eq_none h'] at hbk
  have hb2 : w2.heap[b]? = some (.cells #[.pointer (some ⟨b, 0, none⟩), v] 78 (0, 0)) := by
    rw [hgrow.block b hlt (fun e => hne e.symm)]
    exact hbk
  have d0 : w2.cell? ⟨b, 0, none⟩ = some (.pointer (some ⟨b, 0, none⟩)) := by rw [Lib.cell_of_heap hb2]; rfl
  have d1 : w2.cell? ⟨b, 1, none⟩ = some v := by rw [Lib.cell_of_heap hb2]; rfl
  have f1 : w2.frozen? ⟨b, 1, none⟩ = false := Lib.frozen_of_heap hb2 1
  obtain ⟨ao, n', cap, rfl⟩ : ∃ ao n' cap, v' = .slice ao n' cap := by
    rcases hown'.2 with ⟨hv, _⟩ | ⟨g, cap, cur, fz, hv, _⟩
    · exact ⟨_, _, _, hv⟩
    · exact ⟨_, _, _, hv⟩
  have hP : Hid (Lib.IsBuilderF 78 5 B b (Lib.byteCells (l ++ s.data.toList)) (w2.setCell ⟨b, 1, none⟩ (.slice ao n' cap))) :=
    .inr (Lib.BuilderAtF.put (T := 78) (e := 5) hB hb2 (bs' := Lib.byteCells (l ++ s.data.toList)) (by rw [hcat, List.length_append, Lib.strCells_length, Lib.byteCells_length]; exact hown') neW)
  have hQ : Hid (Below B w (w2.setCell ⟨b, 1, none⟩ (.slice ao n' cap))) := (hb1.grown hgrow (by have := hb1.size; omega) (fun k hk => (hown.lt k hk).1)).setCell (p := ⟨b, 1, none⟩) hB _
  have hR : Hid (Lib.OthersKept 5 (some b) w (w2.setCell ⟨b, 1, none⟩ (.slice ao n' cap))) := (hk1.grown hgrow (Lib.ownsRowF_kind hown)).setCell ⟨b, 1, none⟩ rfl _
  clear hcat hown' hgrow hown hk1 hb1
  go_wp2
  go_ret2
  exact ⟨rfl, hP.out, hQ.out, hR.out⟩

set_option maxHeartbeats 1000000 in
set_option maxRecDepth 100000 in
theorem stringW (B b : Nat) (l : List UInt8) (w : World) (h : Lib.IsBuilderF 78 5 B b (Lib.byteCells l) w) (h0 : l ≠ []) :
    Calls Tryz.prog 37 #[.pointer (some ⟨b, 0, none⟩)] w fun e w' => e = .returned (.string ⟨l.toArray⟩) ∧ Below B w w' := by
  obtain ⟨p, hB, v, hbk, hown, hne⟩ : ∃ p, Lib.BuilderAtF 78 5 B b p (Lib.byteCells l) w := by
    rcases h with h | h
    · exact ⟨_, h⟩
    · exact ⟨_, h⟩
  have hl0 : l.length ≠ 0 := by simpa using h0
  rw [Lib.byteCells_length] at hown
  obtain ⟨g, cap, cur, fz, rfl, hbg, hg, hfz, hnc, hcm, hcs, htake⟩ : ∃ g cap cur fz, v = .slice (some ⟨g, 0, none⟩) l.length cap ∧ B ≤ g ∧ w.heap[g]? = some (.cells cur 5 fz) ∧ fz.2 ≤ l.length * 1 ∧ l.length ≤ cap ∧ cap ≤ maxLen ∧ cur.size = cap * 1 ∧ cur.toList.take (l.length * 1) = Lib.byteCells l := by
    rcases hown.2 with ⟨_, hz⟩ | ⟨g, cap, cur, fz, hv, r⟩
    · exact absurd hz hl0
    · exact ⟨g, cap, cur, fz, hv, r⟩
  have c1 : w.drew.cell? ⟨b, 1, none⟩ = some (.slice (some ⟨g, 0, none⟩) l.length cap) := by
    have : w.drew.heap[b]? = some (.cells #[p, .slice (some ⟨g, 0, none⟩) l.length cap] 78 (0, 0)) := hbk
    rw [Lib.cell_of_heap this]; rfl
  have hSD : (Builtin.unsafeSliceData_ #[41] 113 #[.slice (some ⟨g, 0, none⟩) l.length cap]).run Tryz.prog w.drew = .ok (.pointer (some ⟨g, 0, none⟩)) w.drew :=
    Lib.run_unsafeSliceData_row _ _ _ _ _ _ (by omega)
  have hUS : (Builtin.unsafeString_ #[113, 3] 9 #[.pointer (some ⟨g, 0, none⟩), .int .i64 l.length]).run Tryz.prog w.drew = .ok (.string ⟨l.toArray⟩) (w.drew.freeze ⟨g, 0, none⟩ l.length) := by
    refine Lib.run_unsafeString_row w.drew 113 3 9 5 Tryz.underlying113 (by kernel_rfl) g cur.size (by have hg' : w.drew.heap[g]? = some (.cells cur 5 fz) := hg; simp [World.shape?, hg']) l h0 (by omega) (by unfold maxLen at hcm; omega) ?_
    intro j x hx
    have := hown.cells (g := g) rfl j (.int .u8 x.toNat) (by simp [Lib.byteCells, hx])
    exact this
  have hbel : Hid (Below B w (w.drew.freeze ⟨g, 0, none⟩ l.length)) := Lib.below_freeze (Below.drew (Below.refl B w)) (p := ⟨g, 0, none⟩) hbg _
  clear hown htake hg hbk hfz hcs
  have mixed := mixedW
  go_enter Tryz.func37, Tryz.ntmps37
  go_wp2
  go_region_o
  all_goals (go_wp2; go_ret; exact ⟨rfl, hbel.out⟩)

end Go.Proofs.YtkhnicppcbgdiaaGreatDoor
namespace Go.Proofs.YtkhnicppcbgdiaaGreatDoor
set_option linter.unusedVariables false
open Go.ChangeShapes Go.WideShapes Go.ChangeAt Go.RowKit

theorem isb_below {B b : Nat} {bs : List Value} {w w' : World} (h : Lib.IsBuilderF 78 5 B b bs w) (hb : Below w.heap.size w w') : Lib.IsBuilderF 78 5 B b bs w' := by
  have one : ∀ p, Lib.BuilderAtF 78 5 B b p bs w → Lib.BuilderAtF 78 5 B b p bs w' := by
    intro p h
    have hlt := h.lt
    obtain ⟨hB, v, hh, hown, hne⟩ := h
    refine ⟨hB, v, (hb.block b hlt).trans hh, ?_, hne⟩
    exact hown.kept (grownBy_below hb none) (by cases hv : v.ownBlock <;> simp)
  exact h.imp (one _) (one _)
section
variable {B b : Nat} {l l' : List UInt8} {w w1 w2 : World}
theorem Wr.trans (h : Wr B b l w w1) (k : Wr B b l' w1 w2) : Wr B b l' w w2 := ⟨k.isb, h.bel.trans k.bel, h.oth.trans k.oth⟩
theorem Wr.below (h : Wr B b l w w1) (hB : B ≤ w1.heap.size) (hb : Below w1.heap.size w1 w2) : Wr B b l w w2 := ⟨isb_below h.isb hb, h.bel.trans (hb.mono hB), h.oth.below hb⟩
theorem Wr.refl (h : Lib.IsBuilderF 78 5 B b (Lib.byteCells l) w) : Wr B b l w w := ⟨h, Below.refl _ _, Lib.OthersKept.refl _ _ _⟩
theorem Wr.block (h : Wr B b l w w1) {g : Nat} {cs : Array Value} {T : TypeId} {fz : Nat × Nat} (hg : w.heap[g]? = some (.cells cs T fz)) (hT : T ≠ 5) (hgb : g ≠ b) : w1.heap[g]? = some (.cells cs T fz) :=
  h.oth g _ hg (by intro e; exact hgb (Option.some.inj e)) (by intro c f e; cases e; exact hT rfl)
end
/-! formed texts are short -/
theorem width_le (s : ByteArray) (pos : Nat) : (Utf8.decode s pos).2 ≤ 4 := by
  simp only [Utf8.decode]
  repeat' split
  all_goals simp
theorem size_runes (s : ByteArray) : ∀ (b pos : Nat), s.size ≤ pos + b → s.size ≤ pos + 4 * (rns s b pos).length
  | 0, pos, h => by omega
  | b + 1, pos, h => by
    by_cases hp : pos < s.size
    · have hw := width_le s pos
      have hw1 := width_pos s pos hp
      have ih := size_runes s b (pos + (Utf8.decode s pos).2) (by omega)
      rw [rns_step s b pos hp, List.length_cons]
      omega
    · omega
theorem name_size (s : ByteArray) (h : nameOf (runes s) = true) : s.size ≤ 160 := by
  have h1 := size_runes s s.size 0 (by omega)
  unfold nameOf at h
  simp only [Bool.and_eq_true, decide_eq_true_iff] at h
  have h2 : (rns s s.size 0).length ≤ 40 := h.1.1.2
  omega
theorem jn_size : ∀ (L : List (List UInt8)), (∀ x ∈ L, x.length ≤ 160) → (jn L).length ≤ 161 * L.length
  | [], _ => by simp [jn]
  | x :: t, h => by
    have hx := h x List.mem_cons_self
    have ih := jn_size t (fun y hy => h y (List.mem_cons_of_mem _ hy))
    by_cases ht : t = []
    · subst ht; simp [jn]; omega
    · rw [jn_cons x t ht]; simp; omega
end Go.Proofs.YtkhnicppcbgdiaaGreatDoor
