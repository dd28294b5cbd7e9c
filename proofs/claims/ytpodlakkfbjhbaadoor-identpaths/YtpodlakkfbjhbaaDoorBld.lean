/-
  The walks over strings.Builder's copyCheck, WriteByte and WriteRune, as this translation has them (the loader has cut the panic of copyCheck, which no road here comes to): a builder that this program has made holds the bytes that it held, and what was written.
-/
import Derived.Test.YtpodlakkfbjhbaaDoorShelf
import Derived.Test.YtpodlakkfbjhbaaDoorProg
import Derived.WalkKit
import Derived.Laws.Externs
namespace Go.Proofs.YtpodlakkfbjhbaaDoor
set_option linter.unusedVariables false
open Go.Shelf Go.RowKit

/-- what a writing call leaves: the builder holds bs, nothing below B has changed, nothing else but rows of bytes -/
def Wrote (B b : Nat) (bs : List Value) (w w' : World) : Prop :=
  Lib.BuilderAtF 43 5 B b (.pointer (some ⟨b, 0, none⟩)) bs w' ∧ Below B w w' ∧ Lib.OthersKept 5 (some b) w w'

set_option maxHeartbeats 1000000 in
set_option maxRecDepth 100000 in
theorem copyCheck_any (B b : Nat) (bs : List Value) (w : World) (h : Lib.IsBuilderF 43 5 B b bs w) :
    Calls Tryd.prog 40 #[.pointer (some ⟨b, 0, none⟩)] w fun e w' => e = .returned (.tuple #[]) ∧ Wrote B b bs w w' := by
  obtain ⟨j, hj, hjs⟩ := Option.map_eq_some_iff.1 Builder_Extra_169.sizeBuilder
  have hL := Builder_Extra_169.liesBuilder
  rcases h with h | h
  · have h0 := h.cell0; have hsh := h.shape; have hfz := h.frozen0
    go_enter Tryd.func40, Tryd.ntmps40
    go_wp2
    rw [Lib.run_to_unsafe w ⟨b, 0, none⟩ Tryd.underlying40 Tryd.underlying62 hj (by rw [hjs]; decide) hsh (Nat.zero_lt_succ 1)]
    simp only [Result.andThen]
    rw [Oper.upon_value]
    go_wp2
    rw [run_callFunc_extern Tryd.func45 (by kernel_rfl) (by kernel_rfl) (by kernel_rfl) (e := Extern.AbiNoEscape.same) (by kernel_rfl)]
    rw [Lib.run_noEscape]
    simp only [Result.andThen]
    rw [Oper.upon_value]
    go_wp2
    rw [Lib.run_from_unsafe w ⟨b, 0, none⟩ Tryd.underlying62 Tryd.underlying40 hj hsh hL]
    simp only [Result.andThen]
    rw [Oper.upon_value]
    go_wp2
    go_end0
    exact ⟨rfl, h.used _, (Below.refl B w).setCell (p := ⟨b, 0, none⟩) h.1 _, (Lib.OthersKept.refl _ _ w).setCell ⟨b, 0, none⟩ rfl _⟩
  · have h0 := h.cell0
    go_enter Tryd.func40, Tryd.ntmps40
    go_wp2
    rw [Lib.run_neq_ptr_same w _ Tryd.underlying40 hj]
    go_wp2
    go_end0
    exact ⟨rfl, h, Below.refl B _, Lib.OthersKept.refl _ _ _⟩

theorem blk_lt {w : World} {b : Nat} {o : Obj} (h : w.heap[b]? = some o) : b < w.heap.size := (Array.getElem?_eq_some_iff.1 h).1

/-- a builder that has been written to, opened: its two cells, and the row that it owns -/
structure Opened (B b : Nat) (bs : List Value) (w : World) (ao : Option Addr) (cap : Nat) : Prop where
  base : B ≤ b
  blk : w.heap[b]? = some (.cells #[.pointer (some ⟨b, 0, none⟩), .slice ao bs.length cap] 43 (0, 0))
  own : w.ownsRowF B 5 1 (.slice ao bs.length cap) bs.length bs
  apart : (Value.slice ao bs.length cap).ownBlock ≠ some b
theorem opened {B b : Nat} {bs : List Value} {w : World} (h : Lib.BuilderAtF 43 5 B b (.pointer (some ⟨b, 0, none⟩)) bs w) : ∃ ao cap, Opened B b bs w ao cap := by
  obtain ⟨h1, v, h2, h3, h4⟩ := h
  have hv : ∃ ao cap, v = .slice ao bs.length cap := by
    rcases h3.2 with ⟨hv, h0⟩ | ⟨g, cap, _, _, hv, _⟩
    · exact ⟨none, 0, by rw [hv, h0]⟩
    · exact ⟨_, cap, hv⟩
  obtain ⟨ao, cap, rfl⟩ := hv
  exact ⟨ao, cap, h1, h2, h3, h4⟩
theorem Opened.cells {B b : Nat} {bs : List Value} {w : World} {ao : Option Addr} {cap : Nat} (h : Opened B b bs w ao cap) :
    w.cell? ⟨b, 0, none⟩ = some (.pointer (some ⟨b, 0, none⟩)) ∧ w.cell? ⟨b, 1, none⟩ = some (.slice ao bs.length cap) := by
  constructor <;> simp [World.cell?, h.blk]
/-- the row has grown beside a new block: the builder's own cells stand -/
theorem Opened.kept {B b : Nat} {bs : List Value} {w w2 : World} {ao : Option Addr} {cap : Nat} (h : Opened B b bs w ao cap) {o : Obj} (hg : (w.alloc o).grownBy w2 (Value.slice ao bs.length cap).ownBlock) :
    w2.heap[b]? = some (.cells #[.pointer (some ⟨b, 0, none⟩), .slice ao bs.length cap] 43 (0, 0)) := by
  have hlt := blk_lt h.blk
  rw [hg.block b (by simp; omega) (Ne.symm h.apart), Lib.alloc_old w o b hlt]
  exact h.blk
/-- and with the grown row stored it holds what was written, too -/
theorem Opened.wrote {B b : Nat} {bs new : List Value} {w0 w w2 : World} {ao : Option Addr} {cap : Nat} {v' : Value} {o : Obj} (h : Opened B b bs w ao cap) (hb : Below B w0 w) (hk : Lib.OthersKept 5 (some b) w0 w) (hB : B ≤ w.heap.size)
    (hg : (w.alloc o).grownBy w2 (Value.slice ao bs.length cap).ownBlock) (hown : w2.ownsRowF B 5 1 v' (bs ++ new).length (bs ++ new)) : Wrote B b (bs ++ new) w0 (w2.setCell ⟨b, 1, none⟩ v') := by
  have hB2 : B ≤ (w.alloc o).heap.size := by simp; omega
  refine ⟨Lib.BuilderAtF.put h.base (h.kept hg) hown Builder_Extra_169.neB5, ?_, ?_⟩
  · exact ((hb.alloc hB o).grown hg hB2 fun k hk => (h.own.lt k hk).1).setCell (p := ⟨b, 1, none⟩) h.base _
  · exact ((hk.alloc o).grown hg (Lib.ownsRowF_kind (h.own.alloc o))).setCell ⟨b, 1, none⟩ rfl _
theorem grown_slice {B n : Nat} {w : World} {v : Value} {xs : List Value} (h : w.ownsRowF B 5 1 v n xs) (h1 : 1 ≤ n) : ∃ g cap, v = .slice (some ⟨g, 0, none⟩) n cap := by
  rcases h.2 with ⟨_, h0⟩ | ⟨g, cap, _, _, hv, _⟩
  · omega
  · exact ⟨g, cap, hv⟩

set_option maxHeartbeats 2000000 in
set_option maxRecDepth 100000 in
theorem writeByte_any (B b : Nat) (bs : List Value) (c : Int) (w : World) (h : Lib.IsBuilderF 43 5 B b bs w) (hlen : bs.length + 1 ≤ 140737488355328) (hBw : B ≤ w.heap.size) :
    Calls Tryd.prog 35 #[.pointer (some ⟨b, 0, none⟩), .int .u8 c] w fun e w' => e = .returned .nilIface ∧ Wrote B b (bs ++ [.int .u8 c]) w w' := by
  obtain ⟨i0, hi, hz0, hz1, hz2⟩ := info_parts Builder_Extra_169.infoByte
  have hC := copyCheck_any B b bs w h
  go_enter Tryd.func35, Tryd.ntmps35
  go_wp2_with fail
  refine hC.mono ?_
  rintro e w1 ⟨rfl, hW, hb1, hk1⟩
  obtain ⟨ao, cap, hO⟩ := opened hW
  obtain ⟨c0, c1⟩ := hO.cells
  have hs1 : B ≤ w1.heap.size := Nat.le_trans hBw hb1.size
  clear hC hW
  go_wp2_with (at_builtin; refine wpList_append_ownF _ rfl _ _ 41 rfl B 5 i0 (.int .u8 0) 1 1 Tryd.underlying41 hi hz0 hz1 hz2 rfl (by decide) _ _ _ rfl (hO.own.alloc _) ⟨w1.heap.size, 0, none⟩ 1 1 [.int .u8 c] rfl rfl ?new ?one (by unfold maxLen; omega) (by omega) (by simp; omega) ?_)
  case new =>
    intro j u hj
    cases j with
    | zero => simp at hj; subst hj; simp [Addr.add]
    | succ j => simp at hj
  case one => intro u hu; simp at hu; subst hu; rfl
  intro v' w2 hown hg _
  have hk := hO.kept hg
  have d0 : w2.cell? ⟨b, 0, none⟩ = some (.pointer (some ⟨b, 0, none⟩)) := by simp [World.cell?, hk]
  have d1 : w2.cell? ⟨b, 1, none⟩ = some (.slice ao bs.length cap) := by simp [World.cell?, hk]
  have f1 : w2.frozen? ⟨b, 1, none⟩ = false := Lib.frozen_of_heap hk 1
  obtain ⟨g, cap', rfl⟩ := grown_slice hown (by omega)
  have hfin := hO.wrote (new := [.int .u8 c]) hb1 hk1 hs1 hg (by simpa using hown)
  clear hO hg hown hk
  go_wp2
  go_ret
  exact ⟨rfl, hfin⟩

set_option maxHeartbeats 4000000 in
set_option maxRecDepth 100000 in
theorem writeRune_any (B b : Nat) (bs : List Value) (r : Int) (hr0 : -2147483648 ≤ r) (hr1 : r ≤ 2147483647) (w : World) (h : Lib.IsBuilderF 43 5 B b bs w) (hlen : bs.length + 4 ≤ 140737488355328) (hBw : B ≤ w.heap.size) :
    Calls Tryd.prog 32 #[.pointer (some ⟨b, 0, none⟩), .int .i32 r] w fun e w' => (∃ n : Int, e = .returned (.tuple #[.int .i64 n, .nilIface])) ∧ Wrote B b (bs ++ Lib.runeCells r) w w' := by
  have hC := copyCheck_any B b bs w h
  go_enter Tryd.func32, Tryd.ntmps32
  go_wp2_with fail
  refine hC.mono ?_
  rintro e w1 ⟨rfl, hW, hb1, hk1⟩
  obtain ⟨ao, cap, hO⟩ := opened hW
  obtain ⟨c0, c1⟩ := hO.cells
  have hs1 : B ≤ w1.heap.size := Nat.le_trans hBw hb1.size
  have hAR := Any.utf8_AppendRune_own lays242 Builder_Extra_242 B (.slice ao bs.length cap) bs.length bs r hr0 hr1 w1 hO.own hlen hs1
  clear hC hW
  go_wp2_with fail
  refine hAR.mono ?_
  rintro e w2 ⟨v', rfl, hown0, o, hg⟩
  have hown : w2.ownsRowF B 5 1 v' (bs.length + (Lib.runeCells r).length) (bs ++ Lib.runeCells r) := hown0
  have hk := hO.kept hg
  have d0 : w2.cell? ⟨b, 0, none⟩ = some (.pointer (some ⟨b, 0, none⟩)) := by simp [World.cell?, hk]
  have d1 : w2.cell? ⟨b, 1, none⟩ = some (.slice ao bs.length cap) := by simp [World.cell?, hk]
  have f1 : w2.frozen? ⟨b, 1, none⟩ = false := Lib.frozen_of_heap hk 1
  obtain ⟨g, cap', rfl⟩ := grown_slice hown (by have := (Lib.runeCells_le r).1; omega)
  have hfin := hO.wrote (new := Lib.runeCells r) hb1 hk1 hs1 hg (by simpa using hown)
  clear hO hg hown hown0 hk hAR
  go_wp2
  go_ret2
  exact ⟨⟨_, rfl⟩, hfin⟩
end Go.Proofs.YtpodlakkfbjhbaaDoor
