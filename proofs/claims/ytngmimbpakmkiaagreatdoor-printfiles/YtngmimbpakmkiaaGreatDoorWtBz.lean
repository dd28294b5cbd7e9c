/-
  The walks over the program's own writer: a field and a declaration are written as the document says, or more than is looked at.
-/
import Derived.Test.YtngmimbpakmkiaaGreatDoorWtAz
import Derived.Test.YtngmimbpakmkiaaGreatDoorFmBz
namespace Go.Proofs.YtngmimbpakmkiaaGreatDoor
set_option linter.unusedVariables false
open Go.ChangeShapes Go.WideShapes Go.ChangeAt Go.RowKit

theorem wr_lt {B b : Nat} {l : List UInt8} {w : World} (h : Lib.IsBuilderF 73 5 B b (Lib.byteCells l) w) : b < w.heap.size := by
  rcases h with h | h
  · exact h.lt
  · exact h.lt
theorem num_i64 {n : Int} (h : numOK n = true) : -9223372036854775808 ≤ n ∧ n ≤ 9223372036854775807 := by
  unfold numOK at h
  rw [decide_eq_true_iff] at h
  omega
theorem itoaW (n : Int) (hn : numOK n = true) (w : World) (htab : Lib.TabIs Tryz.prog w "internal/strconv.uint64pow10" .u64 Lib.pow10Tab) :
    Calls Tryz.prog 49 #[.int .i64 n] w fun e w' => e = .returned (.string (mkB (Lib.itoa n))) ∧ Below w.heap.size w w' :=
  (strconv_Itoa n (num_i64 hn).1 (num_i64 hn).2 w htab).mono fun e w' ⟨h1, kk, os, h2⟩ => ⟨h1, by rw [h2]; exact Lib.below_grow _ w (Nat.le_refl _) kk os⟩
theorem fOK_parts {x : Fd} (h : fOK x = true) : x.type.length ≤ 2000 ∧ x.name.length ≤ 160 ∧ numOK x.num = true := by
  unfold fOK at h
  simp only [Bool.and_eq_true] at h
  exact ⟨type_len h.1.1, plain_len h.1.2, h.2⟩
theorem vOK_parts {x : Vl} (h : vOK x = true) : x.name.length ≤ 160 ∧ numOK x.num = true := by
  unfold vOK at h
  simp only [Bool.and_eq_true] at h
  exact ⟨plain_len h.1, h.2⟩
theorem mOK_parts {x : Mt} (h : mOK x = true) : x.name.length ≤ 160 ∧ x.inp.length ≤ 2000 ∧ x.out.length ≤ 2000 := by
  unfold mOK at h
  simp only [Bool.and_eq_true] at h
  exact ⟨plain_len h.1.1, path_len h.1.2, path_len h.2⟩
set_option maxHeartbeats 16000000 in
set_option maxRecDepth 20000 in
theorem fieldW (B b k : Nat) (l : List UInt8) (x : Fd) (w : World) (hw : Lib.IsBuilderF 73 5 B b (Lib.byteCells l) w) (hk : k ≤ 50) (hBw : B ≤ w.heap.size) (hx : fOK x = true) (hl : l.length ≤ 40000) (hP : Lib.TabBelow Tryz.prog B w "internal/strconv.uint64pow10" .u64 Lib.pow10Tab) :
    Calls Tryz.prog 48 #[.pointer (some ⟨b, 0, none⟩), .agg #[.bool x.rep, .string (mkB x.type), .string (mkB x.name), .int .i64 x.num, .int .i64 x.line, .int .i64 x.col], .int .i64 (k : Int)] w fun e w' => e = .returned (.tuple #[]) ∧ ∃ l', Tr l (fT k x) l' ∧ l'.length ≤ 40000 ∧ Wr B b l' w w' := by
  obtain ⟨p1, p2, p3⟩ := fOK_parts hx
  have p4 := num_len p3
  have hbV : Below w.heap.size w (w.alloc (.cells #[.bool x.rep, .string (mkB x.type), .string (mkB x.name), .int .i64 x.num, .int .i64 x.line, .int .i64 x.col] 48)) := (Below.refl w.heap.size w).alloc (Nat.le_refl _) _
  have hV : (w.alloc (.cells #[.bool x.rep, .string (mkB x.type), .string (mkB x.name), .int .i64 x.num, .int .i64 x.line, .int .i64 x.col] 48)).heap[w.heap.size]? = some (.cells #[.bool x.rep, .string (mkB x.type), .string (mkB x.name), .int .i64 x.num, .int .i64 x.line, .int .i64 x.col] 48 (0, 0)) := alloc_heap_new _ _
  have hWV : Wr B b l w (w.alloc (.cells #[.bool x.rep, .string (mkB x.type), .string (mkB x.name), .int .i64 x.num, .int .i64 x.line, .int .i64 x.col] 48)) := (Wr.refl hw).below hBw hbV
  clear hx
  obtain ⟨R, hR⟩ : ∃ R : List UInt8, (if x.rep = true then tRepeated ++ [32] else []) = R := ⟨_, rfl⟩
  have hRl : R.length ≤ 9 := by rw [← hR]; split <;> simp
  have HFT : Hid (fT k x = tb k ++ (([R, x.type, [32], x.name, [32, 61, 32], Lib.itoa x.num, [59]] : List (List UInt8)).flatMap id ++ [10])) := by
    refine (?_ : _ = _)
    unfold fT
    rw [hR]
    simp
  have HR := Lib.hid hR
  clear hR
  go_enter Tryz.func48, Tryz.ntmps48
  go_upto_region 2 with fail
  generalize (w.alloc (.cells #[.bool x.rep, .string (mkB x.type), .string (mkB x.name), .int .i64 x.num, .int .i64 x.line, .int .i64 x.col] 48)) = V at *
  have HWV := Lib.hid hWV
  have HV := Lib.hid hV
  have hsV := hbV.size
  have hlt := blk_lt hV
  have hbl := wr_lt hw
  have c0 : V.cell? ⟨w.heap.size, 0, none⟩ = some (.bool x.rep) := by simp [World.cell?, hV]
  have hI := itoaW x.num p3 V.drew (hP _ (hbV.mono hBw).drew)
  have hc1 : ∀ W : World, W.heap[w.heap.size]? = some (.cells #[.bool x.rep, .string (mkB x.type), .string (mkB x.name), .int .i64 x.num, .int .i64 x.line, .int .i64 x.col] 48 (0, 0)) → W.cell? ⟨w.heap.size, 1, none⟩ = some (.string (mkB x.type)) := fun W h => by simp [World.cell?, h]
  have hc2 : ∀ W : World, W.heap[w.heap.size]? = some (.cells #[.bool x.rep, .string (mkB x.type), .string (mkB x.name), .int .i64 x.num, .int .i64 x.line, .int .i64 x.col] 48 (0, 0)) → W.cell? ⟨w.heap.size, 2, none⟩ = some (.string (mkB x.name)) := fun W h => by simp [World.cell?, h]
  have hc3 : ∀ W : World, W.heap[w.heap.size]? = some (.cells #[.bool x.rep, .string (mkB x.type), .string (mkB x.name), .int .i64 x.num, .int .i64 x.line, .int .i64 x.col] 48 (0, 0)) → W.cell? ⟨w.heap.size, 3, none⟩ = some (.int .i64 x.num) := fun W h => by simp [World.cell?, h]
  have HL : Hid (∀ (cs : Array Value), cs = (([R, x.type, [32], x.name, [32, 61, 32], Lib.itoa x.num, [59]] : List (List UInt8)).map fun y => Value.string (mkB y)).toArray → ∀ W, Below V.heap.size V W → Calls Tryz.prog 29 #[.pointer (some ⟨b, 0, none⟩), .int .i64 (k : Int), .slice (some ⟨W.heap.size, 0, none⟩) 7 7] (W.alloc (.cells cs 9)) fun e w' => e = .returned (.tuple #[]) ∧ ∃ l', Tr l (fT k x) l' ∧ l'.length ≤ 40000 ∧ Wr B b l' V w') := fun cs hcs W hb => by
    rw [HFT.out]
    exact lineN B b k l _ V W ((Wr.refl HWV.out.isb).below (by omega) hb) (by omega) (by have := hb.size; omega) 7 rfl (by omega) (by omega) cs hcs (by simp; omega) hl
  clear hV hbV hWV hP HFT p3
  cases hr : x.rep
  · have hR : R = [] := by rw [← HR.out, hr]; rfl
    rw [hr] at c0
    subst hR
    go_upto_region 4 with fail
    rw [hr] at HV hc1 hc2 hc3
    have hbn : w.heap.size ≠ b := by omega
    have hV := HV.out
    go_region_held_law (fun W' => W'.heap[w.heap.size]? = some (.cells #[.bool false, .string (mkB x.type), .string (mkB x.name), .int .i64 x.num, .int .i64 x.line, .int .i64 x.col] 48 (0, 0))) (first | exact hV | exact hV5 | exact hV5a _ | exact hV6 | assumption) (first
      | (go_at_call 49; refine hI.mono ?_; rintro e W5 ⟨rfl, hw5⟩; have hb5 : Below V.heap.size V W5 := (Below.refl _ V).drew.trans hw5; clear hw5; have hV5 := (hb5.block _ hlt).trans hV; have hV5a : ∀ o, (W5.alloc o).heap[w.heap.size]? = some (.cells #[.bool false, .string (mkB x.type), .string (mkB x.name), .int .i64 x.num, .int .i64 x.line, .int .i64 x.col] 48 (0, 0)) := fun o => (alloc_heap_old _ _ _ (blk_lt hV5)).trans hV5)
      | (go_at_call 29; refine (HL.out _ rfl _ hb5).mono ?_; rintro e W6 ⟨rfl, l', hT6, hl6, hW6⟩; have hV6 := hW6.block hV (by decide) hbn))
    all_goals
      have HW6 := Lib.hid (HWV.out.trans hW6)
      have HT6 := Lib.hid hT6
      clear hT6 hW6 hI hc1 hc2 hc3 HL hV hV6 hV5 hV5a hb5
      go_wp2_with fail
      go_end0
      exact ⟨rfl, l', HT6.out, hl6, HW6.out⟩
  · have hR : R = tRepeated ++ [32] := by rw [← HR.out, hr]; rfl
    rw [hr] at c0
    subst hR
    go_upto_region 4 with fail
    rw [hr] at HV hc1 hc2 hc3
    have hbn : w.heap.size ≠ b := by omega
    have hV := HV.out
    go_region_held_law (fun W' => W'.heap[w.heap.size]? = some (.cells #[.bool true, .string (mkB x.type), .string (mkB x.name), .int .i64 x.num, .int .i64 x.line, .int .i64 x.col] 48 (0, 0))) (first | exact hV | exact hV5 | exact hV5a _ | exact hV6 | assumption) (first
      | (go_at_call 49; refine hI.mono ?_; rintro e W5 ⟨rfl, hw5⟩; have hb5 : Below V.heap.size V W5 := (Below.refl _ V).drew.trans hw5; clear hw5; have hV5 := (hb5.block _ hlt).trans hV; have hV5a : ∀ o, (W5.alloc o).heap[w.heap.size]? = some (.cells #[.bool true, .string (mkB x.type), .string (mkB x.name), .int .i64 x.num, .int .i64 x.line, .int .i64 x.col] 48 (0, 0)) := fun o => (alloc_heap_old _ _ _ (blk_lt hV5)).trans hV5)
      | (go_at_call 29; refine (HL.out _ rfl _ hb5).mono ?_; rintro e W6 ⟨rfl, l', hT6, hl6, hW6⟩; have hV6 := hW6.block hV (by decide) hbn))
    all_goals
      have HW6 := Lib.hid (HWV.out.trans hW6)
      have HT6 := Lib.hid hT6
      clear hT6 hW6 hI hc1 hc2 hc3 HL hV hV6 hV5 hV5a hb5
      go_wp2_with fail
      go_end0
      exact ⟨rfl, l', HT6.out, hl6, HW6.out⟩
end Go.Proofs.YtngmimbpakmkiaaGreatDoor
