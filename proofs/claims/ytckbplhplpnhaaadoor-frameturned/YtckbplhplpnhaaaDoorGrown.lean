/-
  The walk over the program's inner function that copies a slice into new memory with some more room: one new block comes, the bytes and so many zeroes; nothing else changes.
-/
import Derived.Test.YtckbplhplpnhaaaDoorRows
import Derived.Test.YtckbplhplpnhaaaDoorMem
namespace Go.Proofs.YtckbplhplpnhaaaDoor
set_option linter.unusedVariables false
open Go.ChangeShapes Go.WideShapes Go.ChangeAt Go.RowKit
theorem info5B : (Tryd.prog.info? 5).map (fun i => (i.zero, i.size, i.bytes)) = some (some (.int .u8 0), 1, 1) := by kernel_rfl

theorem made_u8 (n : Nat) : madeCells (Value.int .u8 0).cells n = ((List.replicate n (0 : Int)).map (Value.int .u8)).toArray := by
  apply Array.ext
  · simp [madeCells]
  · intro i h1 h2
    simp [madeCells, Value.cells, Nat.mod_one]
theorem grown_arith (l : List Int) (n : Nat) : ((List.replicate (l.length + n) (0 : Int)).map (Value.int .u8)).toArray.toList.take 0 ++ l.map (Value.int .u8) ++ ((List.replicate (l.length + n) (0 : Int)).map (Value.int .u8)).toArray.toList.drop (0 + (l.map (Value.int .u8)).length) = (l ++ List.replicate n 0).map (Value.int .u8) := by
  simp [List.drop_replicate]

theorem run_make_u8 (w : World) (l n : Nat) (hl : l ≤ n) (h : n ≤ 281474976710656) :
    (Instr.makeSlice 23 (.int .i64 (l : Int)) (.int .i64 (n : Int))).run Tryd.prog w = .ok (.slice (some ⟨w.heap.size, 0, none⟩) l n) (blk w 5 (List.replicate n 0)) := by
  obtain ⟨i0, hi, hz0, hz1, hz2⟩ := info_parts info5B
  have := run_make (P := Tryd.prog) w 23 5 i0 (.int .u8 0) Tryd.underlying23 hi hz0 .i64 .i64 l n (by omega) (by omega) (by rw [hz2]; omega) (by omega)
  rw [this]
  simp only [Int.toNat_natCast, hz1, Nat.mul_one]
  rw [made_u8]; rfl

theorem run_copy_u8 (w : World) (a : Option Addr) (len cap : Nat) (zs : List Int) (n dl dc : Nat) (ty : TypeId) (hB : IsB w a len zs) (hd : len ≤ dl) :
    (Builtin.copy_ #[23, 23] ty #[.slice (some ⟨w.heap.size, 0, none⟩) dl dc, .slice a len cap]).run Tryd.prog (blk w 5 (List.replicate (len + n) 0)) =
      .ok (goInt len) (blk w 5 (zs ++ List.replicate n 0)) := by
  have hs : (Tryd.prog.info? 5).map (·.size) = some 1 := by
    obtain ⟨i0, hi, hz0, hz1, hz2⟩ := info_parts info5B
    rw [hi]; simp [hz1]
  obtain ⟨h1, h2, h3⟩ := isB_old hB (blk_below w 5 (List.replicate (len + n) 0))
  by_cases h0 : len = 0
  · subst h0
    have hz : zs = [] := by simpa using h1
    subst hz
    have := run_copy_none (P := Tryd.prog) (blk w 5 (List.replicate (0 + n) 0)) 23 23 ty 5 (some ⟨w.heap.size, 0, none⟩) a dl dc 0 cap Tryd.underlying23 hs (by simp)
    rw [this]
    simp
  · rcases h3 with h3 | ⟨b, off, rfl, hh⟩
    · subst h3; simp at h1; omega
    · subst h1
      have := run_copy_row Tryd.prog (blk w 5 (List.replicate (zs.length + n) 0)) 23 23 ty 5 w.heap.size 0 dl dc ⟨b, off, none⟩ zs.length cap
        ((List.replicate (zs.length + n) (0 : Int)).map (Value.int .u8)).toArray 5 (zs.map (Value.int .u8)) Tryd.underlying23 hs (blk_heap w 5 _)
        (by rw [List.length_map]; exact (Nat.min_eq_left hd).symm) (by
          intro j v hj
          rw [List.getElem?_map] at hj
          cases hq : zs[j]? with
          | none => rw [hq] at hj; simp at hj
          | some z =>
            rw [hq] at hj
            simp at hj
            subst hj
            rw [add_off]; exact hh.1 j z hq) (by simp) (by intro v hv; simp at hv; obtain ⟨z, _, rfl⟩ := hv; rfl)
      rw [this, grown_arith, blk_row]
      simp [blk]
set_option maxHeartbeats 1000000 in
theorem grown_any (a : Option Addr) (len cap : Nat) (zs : List Int) (n : Nat) (w : World) (hB : IsB w a len zs) (hn : len + n ≤ 281474976710656) :
    Calls Tryd.prog 28 #[.slice a len cap, .int .i64 n] w fun e w' =>
      e = .returned (.slice (some ⟨w.heap.size, 0, none⟩) (len + n) (len + n)) ∧ w' = blk w 5 (zs ++ List.replicate n 0) := by
  have hm := run_make_u8 w (len + n) (len + n) (Nat.le_refl _) hn
  have hc := fun ty => run_copy_u8 w a len cap zs n (len + n) (len + n) ty hB (by omega)
  have hmax : len ≤ 281474976710656 := hB.2.1
  clear hB
  rw [Int.natCast_add] at hm
  go_enter Tryd.func28, Tryd.ntmps28
  go_wp2
  go_ret
  exact ⟨rfl, rfl⟩
end Go.Proofs.YtckbplhplpnhaaaDoor
