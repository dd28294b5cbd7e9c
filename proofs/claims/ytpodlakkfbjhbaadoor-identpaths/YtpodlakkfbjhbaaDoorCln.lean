/-
  The walk over the library's strings.Clone: the same text.
-/
import Derived.Test.YtpodlakkfbjhbaaDoorShelf
import Derived.Test.YtpodlakkfbjhbaaDoorProg
import Derived.WalkKit
import Derived.Lib.BufferWrite
import Derived.Deep.OwnRows
namespace Go.Proofs.YtpodlakkfbjhbaaDoor
set_option linter.unusedVariables false
open Go.Shelf Go.RowKit

theorem alloc_row (w : World) (t : TypeId) (c d : Array Value) : (w.alloc (.cells c t)).setRow w.heap.size d = w.alloc (.cells d t) := by
  cases w with
  | mk heap tape drawn os output =>
    show World.mk ((heap.push _).modify heap.size _) tape drawn os output = World.mk (heap.push _) tape drawn os output
    congr 1
    apply Array.ext
    · simp
    · intro k h1 h2
      simp only [Array.getElem_modify, Array.getElem_push]
      by_cases hk : heap.size = k
      · subst hk; simp
      · have hlt : k < heap.size := by simp at h2; omega
        simp [hk, hlt]
theorem alloc_heap (w : World) (o : Obj) : (w.alloc o).heap[w.heap.size]? = some o := by
  show (w.heap.push o)[w.heap.size]? = _
  simp
theorem info5 : (Tryd.prog.info? 5).map (fun i => (i.zero, i.size, i.bytes)) = some (some (.int .u8 0), 1, 1) := by kernel_rfl
set_option maxHeartbeats 2000000 in
set_option maxRecDepth 100000 in
theorem cloneL_any (s : ByteArray) (w : World) (hs : s.size ≤ 1048576) :
    Calls Tryd.prog 39 #[.string s] w fun e w' => e = .returned (.string s) ∧ Below w.heap.size w w' := by
  by_cases h0 : s.size = 0
  · have hsz : (s.size : Int) = 0 := by omega
    have he : s = ⟨#[]⟩ := by
      cases s with
      | mk d => 
        have : d.size = 0 := h0
        rw [Array.eq_empty_of_size_eq_zero this]
    subst he
    go_enter Tryd.func39, Tryd.ntmps39
    go_wp2
    go_ret
    exact ⟨rfl, Below.refl _ _⟩
  · have hne : ((s.size : Int) == 0) = false := beq_eq_false_iff_ne.2 (by omega)
    have hmk := run_make_row' (P := Tryd.prog) 41 5 (.int .u8 0) 1 Tryd.underlying41 info5 rfl .i64 .i64 s.size (by omega) (by omega)
    have hle : s.data.toList.length = s.size := by first | exact Lib.size_eq s | exact (Lib.size_eq s).symm
    have hcp : (Builtin.copy_ #[41, 9] 3 #[.slice (some ⟨w.heap.size, 0, none⟩) s.size s.size, .string s]).run Tryd.prog (w.alloc (.cells (madeCells #[.int .u8 0] s.size) 5)) =
        .ok (.int .i64 s.size) (w.alloc (.cells (Lib.byteCells s.data.toList).toArray 5)) := by
      have hmc : (madeCells #[Value.int .u8 0] s.size).size = s.size := by simp [madeCells]
      have := Lib.run_copy_row_string (P := Tryd.prog) (w.alloc (.cells (madeCells #[.int .u8 0] s.size) 5)) 41 9 3 5 w.heap.size 0 s.size s.size s (madeCells #[.int .u8 0] s.size) 5 Tryd.underlying41 (by kernel_rfl) (alloc_heap _ _) (Nat.le_refl _) (by rw [hmc]; omega)
      rw [this, alloc_row]
      have e : ((madeCells #[Value.int .u8 0] s.size).toList.take 0 ++ Lib.byteCells s.data.toList ++ (madeCells #[Value.int .u8 0] s.size).toList.drop (0 + s.size)) = Lib.byteCells s.data.toList := by
        rw [List.take_zero, List.nil_append, List.drop_eq_nil_of_le (by rw [Array.length_toList, hmc]; omega), List.append_nil]
      rw [e]; rfl
    have hus : (Builtin.unsafeString_ #[58, 3] 9 #[.pointer (some ⟨w.heap.size, 0, none⟩), .int .i64 s.size]).run Tryd.prog (w.alloc (.cells (Lib.byteCells s.data.toList).toArray 5)) =
        .ok (.string s) ((w.alloc (.cells (Lib.byteCells s.data.toList).toArray 5)).freeze ⟨w.heap.size, 0, none⟩ s.size) := by
      have := Lib.run_unsafeString_row (P := Tryd.prog) (w.alloc (.cells (Lib.byteCells s.data.toList).toArray 5)) 58 3 9 5 Tryd.underlying58 (by kernel_rfl) w.heap.size s.size (by
          simp only [World.shape?, alloc_heap]
          simp [Lib.byteCells_length, hle]) s.data.toList (by intro e; rw [e] at hle; simp at hle; omega) (by omega) (by omega) (by
          intro j x hj
          have ea : (⟨w.heap.size, 0, none⟩ : Addr).add j = ⟨w.heap.size, j, none⟩ := by unfold Addr.add; split <;> simp_all
          rw [ea]
          simp only [World.cell?, alloc_heap]
          simp [Lib.byteCells, hj])
      rw [hle] at this
      rw [this]
    have hz0 : (0 : Int) < (s.size : Int) := by omega
    clear hle
    go_enter Tryd.func39, Tryd.ntmps39
    go_wp2
    go_ret
    exact ⟨rfl, Lib.below_freeze ((Below.refl _ w).alloc (Nat.le_refl _) _) (Nat.le_refl _) _⟩
set_option maxHeartbeats 1000000 in
theorem clone_any (s : ByteArray) (w : World) (hs : s.size ≤ 1048576) :
    Calls Tryd.prog 28 #[.string s] w fun e w' => e = .returned (.string s) ∧ Below w.heap.size w w' := by
  have h := cloneL_any s w hs
  go_enter Tryd.func28, Tryd.ntmps28
  go_wp2_with fail
  refine h.mono ?_
  rintro e w1 ⟨rfl, hb⟩
  go_wp2_with fail
  go_ret
  exact ⟨rfl, hb⟩
end Go.Proofs.YtpodlakkfbjhbaaDoor
