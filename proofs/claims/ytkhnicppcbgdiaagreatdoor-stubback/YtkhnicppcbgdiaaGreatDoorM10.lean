/-
  The walks over strings.Builder's functions, as this translation has them, at a builder that lies in the program's own writer: it holds the bytes that it held, and what was written.
  The walks over the program's own writer: line and word; what writing leaves.
-/
import Derived.Test.YtkhnicppcbgdiaaGreatDoorProg
import Derived.WalkKit
import Derived.Laws.Externs
import Derived.Lib.BufferKept
import Derived.Lib.FrozenHead2
import Derived.Lib.AppendIntMem
import Derived.Shelf.RegionOpenPlain
import Derived.Test.YtkhnicppcbgdiaaGreatDoorM5
import Derived.Test.YtkhnicppcbgdiaaGreatDoorM4
import Derived.Test.YtkhnicppcbgdiaaGreatDoorM0
import Derived.Deep.RegionHeldLaw
import Derived.Lib.ItoaMem
import Derived.Lib.ItoaLen
namespace Go.Proofs.YtkhnicppcbgdiaaGreatDoor
set_option linter.unusedVariables false
open Go.Shelf Go.RowKit

/-- what a writing call leaves: the builder holds l, nothing below B has changed, nothing else but rows of bytes -/
structure Wr (B b : Nat) (l : List UInt8) (w w' : World) : Prop where
  isb : Lib.IsBuilderF 78 5 B b (Lib.byteCells l) w'
  bel : Below B w w'
  oth : Lib.OthersKept 5 (some b) w w'
theorem mixedW : Tryz.prog.follows Departure.mixedOrders = true := by kernel_rfl
theorem neW : (78 : Nat) ≠ 5 := by decide
theorem infoB : (Tryz.prog.info? 5).map (fun i => (i.zero, i.size, i.bytes)) = some (some (.int .u8 0), 1, 1) := by kernel_rfl
theorem sizeBl : (Tryz.prog.info? 78).map (fun i => i.size) = some 2 := by kernel_rfl
theorem liesW : liesAt Tryz.prog Tryz.prog.depth 78 (2 / Tryz.prog.cellsOf 78) 0 78 1 = true := by kernel_rfl

set_option maxHeartbeats 1000000 in
set_option maxRecDepth 100000 in
theorem copyCheckW (B b : Nat) (bs : List Value) (w : World) (h : Lib.IsBuilderF 78 5 B b bs w) :
    Calls Tryz.prog 63 #[.pointer (some ⟨b, 0, none⟩)] w fun e w' => e = .returned (.tuple #[]) ∧ Lib.BuilderAtF 78 5 B b (.pointer (some ⟨b, 0, none⟩)) bs w' ∧ Below B w w' ∧ Lib.OthersKept 5 (some b) w w' := by
  obtain ⟨j, hj, hjs⟩ := Option.map_eq_some_iff.1 sizeBl
  have hL := liesW
  rcases h with h | h
  · have h0 := h.cell0; have hsh := h.shape; have hfz := h.frozen0
    go_enter Tryz.func63, Tryz.ntmps63
    go_wp2
    rw [Lib.run_to_unsafe w ⟨b, 0, none⟩ Tryz.underlying76 Tryz.underlying126 hj (by rw [hjs]; decide) hsh (Nat.zero_lt_succ 1)]
    simp only [Result.andThen]
    rw [Oper.upon_value]
    go_wp2
    rw [run_callFunc_extern Tryz.func86 (by kernel_rfl) (by kernel_rfl) (by kernel_rfl) (e := Extern.AbiNoEscape.same) (by kernel_rfl)]
    rw [Lib.run_noEscape]
    simp only [Result.andThen]
    rw [Oper.upon_value]
    go_wp2
    rw [Lib.run_from_unsafe w ⟨b, 0, none⟩ Tryz.underlying126 Tryz.underlying76 hj hsh hL]
    simp only [Result.andThen]
    rw [Oper.upon_value]
    go_wp2
    go_end0
    exact ⟨rfl, h.used _, (Below.refl B w).setCell (p := ⟨b, 0, none⟩) h.1 _, (Lib.OthersKept.refl _ _ w).setCell ⟨b, 0, none⟩ rfl _⟩
  · have h0 := h.cell0
    go_enter Tryz.func63, Tryz.ntmps63
    go_wp2
    rw [Lib.run_neq_ptr_same w _ Tryz.underlying76 hj]
    go_wp2
    go_end0
    exact ⟨rfl, h, Below.refl B _, Lib.OthersKept.refl _ _ _⟩

set_option maxHeartbeats 2000000 in
set_option maxRecDepth 100000 in
theorem writeStringW (B b : Nat) (l : List UInt8) (s : ByteArray) (w : World) (h : Lib.IsBuilderF 78 5 B b (Lib.byteCells l) w) (hlen : l.length + s.size ≤ 140737488355328) (hBw : B ≤ w.heap.size) :
    Calls Tryz.prog 34 #[.pointer (some ⟨b, 0, none⟩), .string s] w fun e w' => e = .returned (.tuple #[.int .i64 s.size, .nilIface]) ∧ Wr B b (l ++ s.data.toList) w w' := by
  obtain ⟨i0, hi, hz0, hz1, hz2⟩ := info_parts infoB
  have hC := copyCheckW B b (Lib.byteCells l) w h
  have hcat : Lib.byteCells (l ++ s.data.toList) = Lib.byteCells l ++ Lib.strCells s := by unfold Lib.byteCells Lib.strCells; rw [List.map_append]
  go_enter Tryz.func34, Tryz.ntmps34
  go_wp2_with fail
  refine hC.mono ?_
  rintro e w1 ⟨rfl, h1, hb1, hk1⟩
  obtain ⟨hB, v, hbk, hown, hne⟩ := h1
  rw [Lib.byteCells_length] at hown
  have c0 : w1.cell? ⟨b, 0, none⟩ = some (.pointer (some ⟨b, 0, none⟩)) := by rw [Lib.cell_of_heap hbk]; rfl
  have c1 : w1.cell? ⟨b, 1, none⟩ = some v := by rw [Lib.cell_of_heap hbk]; rfl
  clear hC
  go_wp2_with (at_builtin; refine Lib.wpList_append_own_stringF _ rfl _ _ 41 9 rfl B 5 i0 Tryz.underlying41 Tryz.underlying9 hi hz0 hz1 hz2 _ _ _ rfl hown s rfl ?c3 ?c4 ?c5 ?_)
  case c3 => unfold maxLen; omega
  case c4 => omega
  case c5 => have := hb1.size; omega
  intro v' w2 hown' hgrow _
  have hlt : b < w1.heap.size := by
    rcases Nat.lt_or_ge b w1.heap.size with h' | h'
    · exact h'
    · simp [Array.getElem?_eq_none h'] at hbk
  have hb2 : w2.heap[b]? = some (.cells #[.pointer (some ⟨b, 0, none⟩), v] 78 (0, 0)) := by
    rw [hgrow.block b hlt (fun e => hne e.symm)]
    exact hbk
  have d0 : w2.cell? ⟨b, 0, none⟩ = some (.pointer (some ⟨b, 0, none⟩)) := by rw [Lib.cell_of_heap hb2]; rfl
  have d1 : w2.cell? ⟨b, 1, none⟩ = some v := by rw [Lib.cell_of_heap hb2]; rfl
  have f1 : w2.frozen? ⟨b, 1, none⟩ = false := Lib.frozen_of_heap hb2 1
  obtain ⟨ao, n', cap, rfl⟩ : ∃ ao n' cap, v' = .slice ao n' cap := by
    rcases hown'.2 with ⟨hv, _⟩ | ⟨g, cap, cur, fz, hv, _⟩
    · exact ⟨_, _, _, hv⟩
    · exact ⟨_, _, _, hv⟩
  have hP : Hid (Lib.IsBuilderF 78 5 B b (Lib.byteCells (l ++ s.data.toList)) (w2.setCell ⟨b, 1, none⟩ (.slice ao n' cap))) :=
    .inr (Lib.BuilderAtF.put (T := 78) (e := 5) hB hb2 (bs' := Lib.byteCells (l ++ s.data.toList)) (by rw [hcat, List.length_append, Lib.strCells_length, Lib.byteCells_length]; exact hown') neW)
  have hQ : Hid (Below B w (w2.setCell ⟨b, 1, none⟩ (.slice ao n' cap))) := (hb1.grown hgrow (by have := hb1.size; omega) (fun k hk => (hown.lt k hk).1)).setCell (p := ⟨b, 1, none⟩) hB _
  have hR : Hid (Lib.OthersKept 5 (some b) w (w2.setCell ⟨b, 1, none⟩ (.slice ao n' cap))) := (hk1.grown hgrow (Lib.ownsRowF_kind hown)).setCell ⟨b, 1, none⟩ rfl _
  clear hcat hown' hgrow hown hk1 hb1
  go_wp2
  go_ret2
  exact ⟨rfl, hP.out, hQ.out, hR.out⟩

set_option maxHeartbeats 1000000 in
set_option maxRecDepth 100000 in
theorem stringW (B b : Nat) (l : List UInt8) (w : World) (h : Lib.IsBuilderF 78 5 B b (Lib.byteCells l) w) (h0 : l ≠ []) :
    Calls Tryz.prog 37 #[.pointer (some ⟨b, 0, none⟩)] w fun e w' => e = .returned (.string ⟨l.toArray⟩) ∧ Below B w w' := by
  obtain ⟨p, hB, v, hbk, hown, hne⟩ : ∃ p, Lib.BuilderAtF 78 5 B b p (Lib.byteCells l) w := by
    rcases h with h | h
    · exact ⟨_, h⟩
    · exact ⟨_, h⟩
  have hl0 : l.length ≠ 0 := by simpa using h0
  rw [Lib.byteCells_length] at hown
  obtain ⟨g, cap, cur, fz, rfl, hbg, hg, hfz, hnc, hcm, hcs, htake⟩ : ∃ g cap cur fz, v = .slice (some ⟨g, 0, none⟩) l.length cap ∧ B ≤ g ∧ w.heap[g]? = some (.cells cur 5 fz) ∧ fz.2 ≤ l.length * 1 ∧ l.length ≤ cap ∧ cap ≤ maxLen ∧ cur.size = cap * 1 ∧ cur.toList.take (l.length * 1) = Lib.byteCells l := by
    rcases hown.2 with ⟨_, hz⟩ | ⟨g, cap, cur, fz, hv, r⟩
    · exact absurd hz hl0
    · exact ⟨g, cap, cur, fz, hv, r⟩
  have c1 : w.drew.cell? ⟨b, 1, none⟩ = some (.slice (some ⟨g, 0, none⟩) l.length cap) := by
    have : w.drew.heap[b]? = some (.cells #[p, .slice (some ⟨g, 0, none⟩) l.length cap] 78 (0, 0)) := hbk
    rw [Lib.cell_of_heap this]; rfl
  have hSD : (Builtin.unsafeSliceData_ #[41] 113 #[.slice (some ⟨g, 0, none⟩) l.length cap]).run Tryz.prog w.drew = .ok (.pointer (some ⟨g, 0, none⟩)) w.drew :=
    Lib.run_unsafeSliceData_row _ _ _ _ _ _ (by omega)
  have hUS : (Builtin.unsafeString_ #[113, 3] 9 #[.pointer (some ⟨g, 0, none⟩), .int .i64 l.length]).run Tryz.prog w.drew = .ok (.string ⟨l.toArray⟩) (w.drew.freeze ⟨g, 0, none⟩ l.length) := by
    refine Lib.run_unsafeString_row w.drew 113 3 9 5 Tryz.underlying113 (by kernel_rfl) g cur.size (by have hg' : w.drew.heap[g]? = some (.cells cur 5 fz) := hg; simp [World.shape?, hg']) l h0 (by omega) (by unfold maxLen at hcm; omega) ?_
    intro j x hx
    have := hown.cells (g := g) rfl j (.int .u8 x.toNat) (by simp [Lib.byteCells, hx])
    exact this
  have hbel : Hid (Below B w (w.drew.freeze ⟨g, 0, none⟩ l.length)) := Lib.below_freeze (Below.drew (Below.refl B w)) (p := ⟨g, 0, none⟩) hbg _
  clear hown htake hg hbk hfz hcs
  have mixed := mixedW
  go_enter Tryz.func37, Tryz.ntmps37
  go_wp2
  go_region_o
  all_goals (go_wp2; go_ret; exact ⟨rfl, hbel.out⟩)

end Go.Proofs.YtkhnicppcbgdiaaGreatDoor
namespace Go.Proofs.YtkhnicppcbgdiaaGreatDoor
set_option linter.unusedVariables false
open Go.ChangeShapes Go.WideShapes Go.ChangeAt Go.RowKit

theorem isb_below {B b : Nat} {bs : List Value} {w w' : World} (h : Lib.IsBuilderF 78 5 B b bs w) (hb : Below w.heap.size w w') : Lib.IsBuilderF 78 5 B b bs w' := by
  have one : ∀ p, Lib.BuilderAtF 78 5 B b p bs w → Lib.BuilderAtF 78 5 B b p bs w' := by
    intro p h
    have hlt := h.lt
    obtain ⟨hB, v, hh, hown, hne⟩ := h
    refine ⟨hB, v, (hb.block b hlt).trans hh, ?_, hne⟩
    exact hown.kept (grownBy_below hb none) (by cases hv : v.ownBlock <;> simp)
  exact h.imp (one _) (one _)
section
variable {B b : Nat} {l l' : List UInt8} {w w1 w2 : World}
theorem Wr.trans (h : Wr B b l w w1) (k : Wr B b l' w1 w2) : Wr B b l' w w2 := ⟨k.isb, h.bel.trans k.bel, h.oth.trans k.oth⟩
theorem Wr.below (h : Wr B b l w w1) (hB : B ≤ w1.heap.size) (hb : Below w1.heap.size w1 w2) : Wr B b l w w2 := ⟨isb_below h.isb hb, h.bel.trans (hb.mono hB), h.oth.below hb⟩
theorem Wr.refl (h : Lib.IsBuilderF 78 5 B b (Lib.byteCells l) w) : Wr B b l w w := ⟨h, Below.refl _ _, Lib.OthersKept.refl _ _ _⟩
theorem Wr.block (h : Wr B b l w w1) {g : Nat} {cs : Array Value} {T : TypeId} {fz : Nat × Nat} (hg : w.heap[g]? = some (.cells cs T fz)) (hT : T ≠ 5) (hgb : g ≠ b) : w1.heap[g]? = some (.cells cs T fz) :=
  h.oth g _ hg (by intro e; exact hgb (Option.some.inj e)) (by intro c f e; cases e; exact hT rfl)
end
/-! formed texts are short -/
theorem width_le (s : ByteArray) (pos : Nat) : (Utf8.decode s pos).2 ≤ 4 := by
  simp only [Utf8.decode]
  repeat' split
  all_goals simp
theorem size_runes (s : ByteArray) : ∀ (b pos : Nat), s.size ≤ pos + b → s.size ≤ pos + 4 * (rns s b pos).length
  | 0, pos, h => by omega
  | b + 1, pos, h => by
    by_cases hp : pos < s.size
    · have hw := width_le s pos
      have hw1 := width_pos s pos hp
      have ih := size_runes s b (pos + (Utf8.decode s pos).2) (by omega)
      rw [rns_step s b pos hp, List.length_cons]
      omega
    · omega
theorem name_size (s : ByteArray) (h : nameOf (runes s) = true) : s.size ≤ 160 := by
  have h1 := size_runes s s.size 0 (by omega)
  unfold nameOf at h
  simp only [Bool.and_eq_true, decide_eq_true_iff] at h
  have h2 : (rns s s.size 0).length ≤ 40 := h.1.1.2
  omega
theorem jn_size : ∀ (L : List (List UInt8)), (∀ x ∈ L, x.length ≤ 160) → (jn L).length ≤ 161 * L.length
  | [], _ => by simp [jn]
  | x :: t, h => by
    have hx := h x List.mem_cons_self
    have ih := jn_size t (fun y hy => h y (List.mem_cons_of_mem _ hy))
    by_cases ht : t = []
    · subst ht; simp [jn]; omega
    · rw [jn_cons x t ht]; simp; omega
end Go.Proofs.YtkhnicppcbgdiaaGreatDoor
