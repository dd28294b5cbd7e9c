/-
  What the library functions that this program calls answer, as theorems over this translation: each is one application of a theorem of the given library. Nothing is proved of the program itself here.
  The walks over strings.Builder's copyCheck, WriteByte and WriteRune, as this translation has them (the loader has cut the panic of copyCheck, which no road here comes to): a builder that this program has made holds the bytes that it held, and what was written.
-/
import Derived.Shelf.Strings.BuilderK
import Derived.Shelf.Utf8.AppendRune
import Derived.Shelf.LaysM
import Derived.Ground.NamesProg
import Derived.Shelf.Strings.BuilderRune
import Derived.Test.YtkhnicppcbgdiaaGreatDoorProg
import Derived.Test.YtkhnicppcbgdiaaGreatDoorM5
import Derived.WalkKit
import Derived.Laws.Externs
namespace Go.Proofs.YtkhnicppcbgdiaaGreatDoor
open Go.Shelf
def lays169_ren : Go.Shelf.Ren := ⟨fun | 169 => 37 | n => n, fun | 70 => 76 | 9 => 9 | 0 => 0 | 72 => 78 | 37 => 41 | 127 => 113 | 3 => 3 | 5 => 5 | n => n, fun | n => n⟩
theorem lays169 : Go.Proofs.Lays.n169 Tryz.prog lays169_ren := {
  mixed := by kernel_rfl
  f169 := Tryz.func37.trans (congrArg some (by kernel_rfl))
  t0 := Tryz.underlying0
  a0 := Tryz.isAgg0
  z0 := Tryz.sizeOf0
  v0 := Tryz.zeroValue0
  t3 := Tryz.underlying3
  a3 := Tryz.isAgg3
  z3 := Tryz.sizeOf3
  v3 := Tryz.zeroValue3
  t9 := Tryz.underlying9
  a9 := Tryz.isAgg9
  z9 := Tryz.sizeOf9
  v9 := Tryz.zeroValue9
  t37 := Tryz.underlying41
  a37 := Tryz.isAgg41
  z37 := Tryz.sizeOf41
  v37 := Tryz.zeroValue41
  t70 := Tryz.underlying76
  a70 := Tryz.isAgg76
  z70 := Tryz.sizeOf76
  v70 := Tryz.zeroValue76
  t72 := Tryz.underlying78
  a72 := Tryz.isAgg78
  z72 := Tryz.sizeOf78
  v72 := Tryz.zeroValue78
  t127 := Tryz.underlying113
  a127 := Tryz.isAgg113
  z127 := Tryz.sizeOf113
  v127 := Tryz.zeroValue113 }
theorem Builder_Extra_169 : Builder.Extra Tryz.prog lays169_ren := {
  sizeBuilder := by kernel_rfl
  liesBuilder := by kernel_rfl
  t5 := Tryz.underlying5
  a5 := Tryz.isAgg5
  z5 := Tryz.sizeOf5
  v5 := Tryz.zeroValue5
  infoByte := by kernel_rfl
  cellsByte := by kernel_rfl
  sizeByte := by kernel_rfl
  neB5 := by decide }
open Go.RowKit in
theorem Builder_String_any_k (B b : Nat) (l : List UInt8) (w : World) (h : Lib.IsBuilderF 78 5 B b (Lib.byteCells l) w) (hBw : B ≤ w.heap.size) :
    Calls Tryz.prog 37 #[.pointer (some ⟨b, 0, none⟩)] w fun e w' => e = .returned (.string ⟨l.toArray⟩) ∧ (Lib.IsBuilderF 78 5 B b (Lib.byteCells l) w' ∧ Below B w w' ∧ Lib.OthersKept 5 (some b) w w') := Any.Builder_String_any_k lays169 Builder_Extra_169 B b l w h hBw
def lays242_ren : Go.Shelf.Ren := ⟨fun | 242 => 83 | 278 => 96 | n => n, fun | 72 => 78 | 70 => 76 | 37 => 41 | 21 => 21 | 51 => 133 | 4 => 4 | 5 => 5 | 46 => 40 | n => n, fun | n => n⟩
theorem lays242 : Go.Proofs.Lays.n242 Tryz.prog lays242_ren := {
  mixed := by kernel_rfl
  f242 := Tryz.func83.trans (congrArg some (by kernel_rfl))
  f278 := Tryz.func96.trans (congrArg some (by kernel_rfl))
  t4 := Tryz.underlying4
  a4 := Tryz.isAgg4
  z4 := Tryz.sizeOf4
  v4 := Tryz.zeroValue4
  t5 := Tryz.underlying5
  a5 := Tryz.isAgg5
  z5 := Tryz.sizeOf5
  v5 := Tryz.zeroValue5
  t21 := Tryz.underlying21
  a21 := Tryz.isAgg21
  z21 := Tryz.sizeOf21
  v21 := Tryz.zeroValue21
  t37 := Tryz.underlying41
  a37 := Tryz.isAgg41
  z37 := Tryz.sizeOf41
  v37 := Tryz.zeroValue41
  t46 := Tryz.underlying40
  a46 := Tryz.isAgg40
  z46 := Tryz.sizeOf40
  v46 := Tryz.zeroValue40
  t51 := Tryz.underlying133
  a51 := Tryz.isAgg133
  z51 := Tryz.sizeOf133
  v51 := Tryz.zeroValue133 }
open Go.RowKit in
theorem utf8_AppendRune_row (B : Nat) (v : Value) (n : Nat) (xs : List Value) (r : Int) (hr0 : -2147483648 ≤ r) (hr1 : r ≤ 2147483647) (w : World) (hown : w.ownsRowF B 5 1 v n xs) (hlen : n + 4 ≤ 140737488355328) (hBw : B ≤ w.heap.size) :
    Calls Tryz.prog 83 #[v, .int .i32 r] w fun e w' => ∃ v', e = .returned v' ∧ w'.ownsRowF B 5 1 v' (n + (Lib.runeCells r).length) (xs ++ Lib.runeCells r) ∧ ∃ o, (w.alloc o).grownBy w' v.ownBlock := Any.utf8_AppendRune_row lays242 (by kernel_rfl) B v n xs r hr0 hr1 w hown hlen hBw
theorem Builder_Extra_242 : Builder.Extra Tryz.prog lays242_ren := {
  sizeBuilder := by kernel_rfl
  liesBuilder := by kernel_rfl
  t5 := Tryz.underlying5
  a5 := Tryz.isAgg5
  z5 := Tryz.sizeOf5
  v5 := Tryz.zeroValue5
  infoByte := by kernel_rfl
  cellsByte := by kernel_rfl
  sizeByte := by kernel_rfl
  neB5 := by decide }
end Go.Proofs.YtkhnicppcbgdiaaGreatDoor
namespace Go.Proofs.YtkhnicppcbgdiaaGreatDoor
set_option linter.unusedVariables false
open Go.Shelf Go.RowKit

/-- what a writing call leaves: the builder holds bs, nothing below B has changed, nothing else but rows of bytes -/
def Wrote (B b : Nat) (bs : List Value) (w w' : World) : Prop :=
  Lib.BuilderAtF 78 5 B b (.pointer (some ⟨b, 0, none⟩)) bs w' ∧ Below B w w' ∧ Lib.OthersKept 5 (some b) w w'

set_option maxHeartbeats 1000000 in
set_option maxRecDepth 100000 in
theorem copyCheck_any (B b : Nat) (bs : List Value) (w : World) (h : Lib.IsBuilderF 78 5 B b bs w) :
    Calls Tryz.prog 63 #[.pointer (some ⟨b, 0, none⟩)] w fun e w' => e = .returned (.tuple #[]) ∧ Wrote B b bs w w' := by
  obtain ⟨j, hj, hjs⟩ := Option.map_eq_some_iff.1 Builder_Extra_169.sizeBuilder
  have hL := Builder_Extra_169.liesBuilder
  rcases h with h | h
  · have h0 := h.cell0; have hsh := h.shape; have hfz := h.frozen0
    go_enter Tryz.func63, Tryz.ntmps63
    go_wp2
    rw [Lib.run_to_unsafe w ⟨b, 0, none⟩ Tryz.underlying76 Tryz.underlying126 hj (by rw [hjs]; decide) hsh (Nat.zero_lt_succ 1)]
    simp only [Result.andThen]
    rw [Oper.upon_value]
    go_wp2
    rw [run_callFunc_extern Tryz.func86 (by kernel_rfl) (by kernel_rfl) (by kernel_rfl) (e := Extern.AbiNoEscape.same) (by kernel_rfl)]
    rw [Lib.run_noEscape]
    simp only [Result.andThen]
    rw [Oper.upon_value]
    go_wp2
    rw [Lib.run_from_unsafe w ⟨b, 0, none⟩ Tryz.underlying126 Tryz.underlying76 hj hsh hL]
    simp only [Result.andThen]
    rw [Oper.upon_value]
    go_wp2
    go_end0
    exact ⟨rfl, h.used _, (Below.refl B w).setCell (p := ⟨b, 0, none⟩) h.1 _, (Lib.OthersKept.refl _ _ w).setCell ⟨b, 0, none⟩ rfl _⟩
  · have h0 := h.cell0
    go_enter Tryz.func63, Tryz.ntmps63
    go_wp2
    rw [Lib.run_neq_ptr_same w _ Tryz.underlying76 hj]
    go_wp2
    go_end0
    exact ⟨rfl, h, Below.refl B _, Lib.OthersKept.refl _ _ _⟩

/-- a builder that has been written to, opened: its two cells, and the row that it owns -/
structure Opened (B b : Nat) (bs : List Value) (w : World) (ao : Option Addr) (cap : Nat) : Prop where
  base : B ≤ b
  blk : w.heap[b]? = some (.cells #[.pointer (some ⟨b, 0, none⟩), .slice ao bs.length cap] 78 (0, 0))
  own : w.ownsRowF B 5 1 (.slice ao bs.length cap) bs.length bs
  apart : (Value.slice ao bs.length cap).ownBlock ≠ some b
theorem opened {B b : Nat} {bs : List Value} {w : World} (h : Lib.BuilderAtF 78 5 B b (.pointer (some ⟨b, 0, none⟩)) bs w) : ∃ ao cap, Opened B b bs w ao cap := by
  obtain ⟨h1, v, h2, h3, h4⟩ := h
  have hv : ∃ ao cap, v = .slice ao bs.length cap := by
    rcases h3.2 with ⟨hv, h0⟩ | ⟨g, cap, _, _, hv, _⟩
    · exact ⟨none, 0, by rw [hv, h0]⟩
    · exact ⟨_, cap, hv⟩
  obtain ⟨ao, cap, rfl⟩ := hv
  exact ⟨ao, cap, h1, h2, h3, h4⟩
theorem Opened.cells {B b : Nat} {bs : List Value} {w : World} {ao : Option Addr} {cap : Nat} (h : Opened B b bs w ao cap) :
    w.cell? ⟨b, 0, none⟩ = some (.pointer (some ⟨b, 0, none⟩)) ∧ w.cell? ⟨b, 1, none⟩ = some (.slice ao bs.length cap) := by
  constructor <;> simp [World.cell?, h.blk]
/-- the row has grown beside a new block: the builder's own cells stand -/
theorem Opened.kept {B b : Nat} {bs : List Value} {w w2 : World} {ao : Option Addr} {cap : Nat} (h : Opened B b bs w ao cap) {o : Obj} (hg : (w.alloc o).grownBy w2 (Value.slice ao bs.length cap).ownBlock) :
    w2.heap[b]? = some (.cells #[.pointer (some ⟨b, 0, none⟩), .slice ao bs.length cap] 78 (0, 0)) := by
  have hlt := blk_lt h.blk
  rw [hg.block b (by simp; omega) (Ne.symm h.apart), Lib.alloc_old w o b hlt]
  exact h.blk
/-- and with the grown row stored it holds what was written, too -/
theorem Opened.wrote {B b : Nat} {bs new : List Value} {w0 w w2 : World} {ao : Option Addr} {cap : Nat} {v' : Value} {o : Obj} (h : Opened B b bs w ao cap) (hb : Below B w0 w) (hk : Lib.OthersKept 5 (some b) w0 w) (hB : B ≤ w.heap.size)
    (hg : (w.alloc o).grownBy w2 (Value.slice ao bs.length cap).ownBlock) (hown : w2.ownsRowF B 5 1 v' (bs ++ new).length (bs ++ new)) : Wrote B b (bs ++ new) w0 (w2.setCell ⟨b, 1, none⟩ v') := by
  have hB2 : B ≤ (w.alloc o).heap.size := by simp; omega
  refine ⟨Lib.BuilderAtF.put h.base (h.kept hg) hown Builder_Extra_169.neB5, ?_, ?_⟩
  · exact ((hb.alloc hB o).grown hg hB2 fun k hk => (h.own.lt k hk).1).setCell (p := ⟨b, 1, none⟩) h.base _
  · exact ((hk.alloc o).grown hg (Lib.ownsRowF_kind (h.own.alloc o))).setCell ⟨b, 1, none⟩ rfl _
theorem grown_slice {B n : Nat} {w : World} {v : Value} {xs : List Value} (h : w.ownsRowF B 5 1 v n xs) (h1 : 1 ≤ n) : ∃ g cap, v = .slice (some ⟨g, 0, none⟩) n cap := by
  rcases h.2 with ⟨_, h0⟩ | ⟨g, cap, _, _, hv, _⟩
  · omega
  · exact ⟨g, cap, hv⟩

set_option maxHeartbeats 4000000 in
set_option maxRecDepth 100000 in
theorem writeRune_any (B b : Nat) (bs : List Value) (r : Int) (hr0 : -2147483648 ≤ r) (hr1 : r ≤ 2147483647) (w : World) (h : Lib.IsBuilderF 78 5 B b bs w) (hlen : bs.length + 4 ≤ 140737488355328) (hBw : B ≤ w.heap.size) :
    Calls Tryz.prog 60 #[.pointer (some ⟨b, 0, none⟩), .int .i32 r] w fun e w' => (∃ n : Int, e = .returned (.tuple #[.int .i64 n, .nilIface])) ∧ Wrote B b (bs ++ Lib.runeCells r) w w' := by
  have hC := copyCheck_any B b bs w h
  go_enter Tryz.func60, Tryz.ntmps60
  go_wp2_with fail
  refine hC.mono ?_
  rintro e w1 ⟨rfl, hW, hb1, hk1⟩
  obtain ⟨ao, cap, hO⟩ := opened hW
  obtain ⟨c0, c1⟩ := hO.cells
  have hs1 : B ≤ w1.heap.size := Nat.le_trans hBw hb1.size
  have hAR := Any.utf8_AppendRune_own lays242 Builder_Extra_242 B (.slice ao bs.length cap) bs.length bs r hr0 hr1 w1 hO.own hlen hs1
  clear hC hW
  go_wp2_with fail
  refine hAR.mono ?_
  rintro e w2 ⟨v', rfl, hown0, o, hg⟩
  have hown : w2.ownsRowF B 5 1 v' (bs.length + (Lib.runeCells r).length) (bs ++ Lib.runeCells r) := hown0
  have hk := hO.kept hg
  have d0 : w2.cell? ⟨b, 0, none⟩ = some (.pointer (some ⟨b, 0, none⟩)) := by simp [World.cell?, hk]
  have d1 : w2.cell? ⟨b, 1, none⟩ = some (.slice ao bs.length cap) := by simp [World.cell?, hk]
  have f1 : w2.frozen? ⟨b, 1, none⟩ = false := Lib.frozen_of_heap hk 1
  obtain ⟨g, cap', rfl⟩ := grown_slice hown (by have := (Lib.runeCells_le r).1; omega)
  have hfin := hO.wrote (new := Lib.runeCells r) hb1 hk1 hs1 hg (by simpa using hown)
  clear hO hg hown hown0 hk hAR
  go_wp2
  go_ret2
  exact ⟨⟨_, rfl⟩, hfin⟩
end Go.Proofs.YtkhnicppcbgdiaaGreatDoor
