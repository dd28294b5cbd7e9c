/-
  The walk over the program's Take of a field, whole: of any bytes it answers what 'tf' says (the same as the document's), and makes new memory alone.
  The walk over the program's Split: of any bytes (at most 2^21) it answers what 'split' says, and makes new memory alone.
-/
import Derived.Test.YteajlfgbmefncaaGreatDoorM17
import Derived.Lib.SliceRun
import Derived.Test.YteajlfgbmefncaaGreatDoorM5
namespace Go.Proofs.YteajlfgbmefncaaGreatDoor
set_option linter.unusedVariables false
open Go.ChangeShapes Go.WideShapes Go.ChangeAt Go.RowKit

set_option maxHeartbeats 1000000 in
theorem takeW_err (a : Option Addr) (len cap : Nat) (w : World) (E : Int) (hE : E ≠ 0)
    (HT : ∀ W, Below w.heap.size w W → Calls Tryz.prog 102 #[.slice a len cap] W fun e w' => e = .returned (.tuple #[.int .i64 0, .int .i64 0, .int .i64 0, .int .i64 E]) ∧ Below W.heap.size W w') :
    Calls Tryz.prog 78 #[.slice a len cap] w fun e w' => TfAns w w' e (tfErr E) := by
  have HTT : Hid _ := HT
  have hE2 : (E == 0) = false := by simpa using hE
  clear HT
  go_enter Tryz.func78, Tryz.ntmps78
  go_wp2_with fail
  refine (HTT.out _ ((Below.refl _ _).alloc (Nat.le_refl _) _)).mono ?_
  rintro e w1 ⟨rfl, hb1⟩
  have f0 : w1.cell? ⟨w.heap.size, 0, none⟩ = some (.int .i64 0) := (hb1.cell (by simp)).trans (by simp)
  have f1 : w1.cell? ⟨w.heap.size, 1, none⟩ = some (.int .i64 0) := (hb1.cell (by simp)).trans (by simp)
  have f2 : w1.cell? ⟨w.heap.size, 2, none⟩ = some (.int .u64 0) := (hb1.cell (by simp)).trans (by simp)
  have f3 : w1.cell? ⟨w.heap.size, 3, none⟩ = some (.slice none 0 0) := (hb1.cell (by simp)).trans (by simp)
  have g0 : ∀ o, w1.frozen? ⟨w.heap.size, o, none⟩ = false := fun o => (hb1.frozen (p := ⟨w.heap.size, o, none⟩) (by simp)).trans (by simp)
  have HB1 : Hid (Below w.heap.size w w1) := ((Below.refl _ _).alloc (Nat.le_refl _) _).trans (hb1.mono (by simp))
  clear hb1 HTT
  go_wp2_with fail
  refine bodyPost_ret (v := .tuple #[.agg #[.int .i64 0, .int .i64 0, .int .u64 0, .slice none 0 0], .int .i64 0, .int .i64 E]) ?_ rfl (tfErr_ans _ _ _ ?_)
  · simp [results, Tryz.results78, go_sem, f0, f1, f2, f3]
  · exact (((HB1.out.setCell (by simp) _).setCell (by simp) _).setCell (by simp) _).setCell (by simp) _

set_option maxHeartbeats 2000000 in
theorem takeW_body (b off len cap : Nat) (w : World) (num ty : Int) (k : Nat) (hk : k ≤ len) (hlc : len ≤ cap) (hcm : cap ≤ 9223372036854775807) (hk10 : k ≤ 10) (hck : ¬ cap = k)
    (HT : ∀ W, Below w.heap.size w W → Calls Tryz.prog 102 #[.slice (some ⟨b, off, none⟩) len cap] W fun e w' => e = .returned (.tuple #[.int .i64 num, .int .i64 ty, .int .i64 k, .int .i64 0]) ∧ Below W.heap.size W w')
    (rn : Int) (rd : List Int) (rk re : Int) (hr0 : 0 ≤ rk) (hr1 : rk ≤ 1125899906842624)
    (HC : ∀ W, Below w.heap.size w W → Calls Tryz.prog 103 #[.slice (some ⟨b, off + k, none⟩) (len - k) (cap - k), .int .i64 ty] W fun e w' => TcAns W w' e ⟨rn, rd, rk, re⟩) :
    Calls Tryz.prog 78 #[.slice (some ⟨b, off, none⟩) len cap] w fun e w' => TfAns w w' e (if re ≠ 0 then tfErr re else ⟨num, ty, rn, rd, k + rk, 0⟩) := by
  have HTT : Hid _ := HT
  have HCC : Hid (∀ W, Below w.heap.size w W → Calls Tryz.prog 103 #[.slice (some ⟨b, off + k, none⟩) (len - k) (cap - k), .int .i64 ty] W fun e w' => ∃ a2 len2 cap2, e = .returned (.tuple #[.agg #[.int .i64 0, .int .i64 0, .int .u64 rn, .slice a2 len2 cap2], .int .i64 rk, .int .i64 re]) ∧ NewB w' W.heap.size a2 len2 rd ∧ NoA a2 len2 cap2 ∧ Below W.heap.size W w') := HC
  clear HT HC
  by_cases hre : re = 0
  · subst hre
    rw [if_neg (by simp)]
    go_enter Tryz.func78, Tryz.ntmps78
    go_wp2_with fail
    refine (HTT.out _ ((Below.refl _ _).alloc (Nat.le_refl _) _)).mono ?_
    rintro e w1 ⟨rfl, hb1⟩
    have HB1 : Hid (Below w.heap.size w w1) := ((Below.refl _ _).alloc (Nat.le_refl _) _).trans (hb1.mono (by simp))
    have hz1 : w.heap.size + 1 ≤ w1.heap.size := by have := hb1.size; simpa using this
    have HBA : Hid (Below (w.heap.size + 1) (w.alloc (.cells #[.int .i64 0, .int .i64 0, .int .u64 0, .slice none 0 0] 123)) w1) := hb1.mono (by simp)
    clear hb1 HTT
    go_wp2_with fail
    refine (HCC.out _ HB1.out).mono ?_
    rintro e w2 ⟨a2, len2, cap2, rfl, hst2, hno2, hb2⟩
    have hba2 : Below (w.heap.size + 1) (w.alloc (.cells #[.int .i64 0, .int .i64 0, .int .u64 0, .slice none 0 0] 123)) w2 := HBA.out.trans (hb2.mono hz1)
    have f0 : w2.cell? ⟨w.heap.size, 0, none⟩ = some (.int .i64 0) := (hba2.cell (by simp)).trans (by simp)
    have f1 : w2.cell? ⟨w.heap.size, 1, none⟩ = some (.int .i64 0) := (hba2.cell (by simp)).trans (by simp)
    have f2 : w2.cell? ⟨w.heap.size, 2, none⟩ = some (.int .u64 0) := (hba2.cell (by simp)).trans (by simp)
    have f3 : w2.cell? ⟨w.heap.size, 3, none⟩ = some (.slice none 0 0) := (hba2.cell (by simp)).trans (by simp)
    have g0 : ∀ o, w2.frozen? ⟨w.heap.size, o, none⟩ = false := fun o => (hba2.frozen (p := ⟨w.heap.size, o, none⟩) (by simp)).trans (by simp)
    have HB2 : Hid (Below w.heap.size w w2) := HB1.out.trans (hb2.mono (by omega))
    have hz2 : w.heap.size + 1 ≤ w2.heap.size := by have := hb2.size; omega
    have hne : ¬ w.heap.size = w2.heap.size := by omega
    have hne2 : ¬ w2.heap.size = w.heap.size := by omega
    have hlt2 : w.heap.size < w2.heap.size := by omega
    have HST : Hid (NewB w2 w1.heap.size a2 len2 rd) := hst2
    have HN2 : Hid (NoA a2 len2 cap2) := hno2
    clear hba2 hb2 hst2 hno2 HBA HB1 HCC
    go_wp2_with fail
    refine bodyPost_ret (v := .tuple #[.agg #[.int .i64 num, .int .i64 ty, .int .u64 rn, .slice a2 len2 cap2], .int .i64 (k + rk), .int .i64 0]) ?_ rfl ⟨a2, len2, cap2, rfl, ?_, HN2.out, ?_⟩
    · simp [results, Tryz.results78, go_sem, f0, f1, f2, f3, hlt2]
    · refine (HST.out.cells (fun b o v hb hlt hc => ?_)).mono (by omega)
      refine Lib.cell?_alloc_some _ ?_
      rw [World.cell?_setCell_other _ _ _ _ (by simp <;> omega), World.cell?_setCell_other _ _ _ _ (by simp <;> omega), World.cell?_setCell_other _ _ _ _ (by simp <;> omega), World.cell?_setCell_other _ _ _ _ (by simp <;> omega)]
      exact hc
    · exact ((((HB2.out.setCell (by simp) _).setCell (by simp) _).setCell (by simp) _).setCell (by simp) _).alloc (by simp; omega) _
  · have hE2 : (re == 0) = false := by simpa using hre
    rw [if_pos hre]
    go_enter Tryz.func78, Tryz.ntmps78
    go_wp2_with fail
    refine (HTT.out _ ((Below.refl _ _).alloc (Nat.le_refl _) _)).mono ?_
    rintro e w1 ⟨rfl, hb1⟩
    have HB1 : Hid (Below w.heap.size w w1) := ((Below.refl _ _).alloc (Nat.le_refl _) _).trans (hb1.mono (by simp))
    have hz1 : w.heap.size + 1 ≤ w1.heap.size := by have := hb1.size; simpa using this
    have HBA : Hid (Below (w.heap.size + 1) (w.alloc (.cells #[.int .i64 0, .int .i64 0, .int .u64 0, .slice none 0 0] 123)) w1) := hb1.mono (by simp)
    clear hb1 HTT
    go_wp2_with fail
    refine (HCC.out _ HB1.out).mono ?_
    rintro e w2 ⟨a2, len2, cap2, rfl, hst2, hno2, hb2⟩
    have hba2 : Below (w.heap.size + 1) (w.alloc (.cells #[.int .i64 0, .int .i64 0, .int .u64 0, .slice none 0 0] 123)) w2 := HBA.out.trans (hb2.mono hz1)
    have f0 : w2.cell? ⟨w.heap.size, 0, none⟩ = some (.int .i64 0) := (hba2.cell (by simp)).trans (by simp)
    have f1 : w2.cell? ⟨w.heap.size, 1, none⟩ = some (.int .i64 0) := (hba2.cell (by simp)).trans (by simp)
    have f2 : w2.cell? ⟨w.heap.size, 2, none⟩ = some (.int .u64 0) := (hba2.cell (by simp)).trans (by simp)
    have f3 : w2.cell? ⟨w.heap.size, 3, none⟩ = some (.slice none 0 0) := (hba2.cell (by simp)).trans (by simp)
    have g0 : ∀ o, w2.frozen? ⟨w.heap.size, o, none⟩ = false := fun o => (hba2.frozen (p := ⟨w.heap.size, o, none⟩) (by simp)).trans (by simp)
    have HB2 : Hid (Below w.heap.size w w2) := HB1.out.trans (hb2.mono (by omega))
    have hz2 : w.heap.size + 1 ≤ w2.heap.size := by have := hb2.size; omega
    have hne : ¬ w.heap.size = w2.heap.size := by omega
    have hne2 : ¬ w2.heap.size = w.heap.size := by omega
    have hlt2 : w.heap.size < w2.heap.size := by omega
    have HST : Hid (NewB w2 w1.heap.size a2 len2 rd) := hst2
    have HN2 : Hid (NoA a2 len2 cap2) := hno2
    clear hba2 hb2 hst2 hno2 HBA HB1 HCC
    go_wp2_with fail
    refine bodyPost_ret (v := .tuple #[.agg #[.int .i64 0, .int .i64 0, .int .u64 0, .slice none 0 0], .int .i64 0, .int .i64 re]) ?_ rfl (tfErr_ans _ _ _ ?_)
    · simp [results, Tryz.results78, go_sem, f0, f1, f2, f3, hlt2]
    · exact ((((HB2.out.setCell (by simp) _).setCell (by simp) _).setCell (by simp) _).setCell (by simp) _).alloc (by simp; omega) _
set_option maxHeartbeats 2000000 in
theorem takeW_end (b off : Nat) (w : World) (num ty : Int) (k : Nat) (hk10 : k ≤ 10)
    (HT : ∀ W, Below w.heap.size w W → Calls Tryz.prog 102 #[.slice (some ⟨b, off, none⟩) k k] W fun e w' => e = .returned (.tuple #[.int .i64 num, .int .i64 ty, .int .i64 k, .int .i64 0]) ∧ Below W.heap.size W w')
    (rn : Int) (rd : List Int) (rk re : Int) (hr0 : 0 ≤ rk) (hr1 : rk ≤ 1125899906842624)
    (HC : ∀ W, Below w.heap.size w W → Calls Tryz.prog 103 #[.slice (some ⟨b, off, none⟩) 0 0, .int .i64 ty] W fun e w' => TcAns W w' e ⟨rn, rd, rk, re⟩) :
    Calls Tryz.prog 78 #[.slice (some ⟨b, off, none⟩) k k] w fun e w' => TfAns w w' e (if re ≠ 0 then tfErr re else ⟨num, ty, rn, rd, k + rk, 0⟩) := by
  have HTT : Hid _ := HT
  have HCC : Hid (∀ W, Below w.heap.size w W → Calls Tryz.prog 103 #[.slice (some ⟨b, off, none⟩) 0 0, .int .i64 ty] W fun e w' => ∃ a2 len2 cap2, e = .returned (.tuple #[.agg #[.int .i64 0, .int .i64 0, .int .u64 rn, .slice a2 len2 cap2], .int .i64 rk, .int .i64 re]) ∧ NewB w' W.heap.size a2 len2 rd ∧ NoA a2 len2 cap2 ∧ Below W.heap.size W w') := HC
  clear HT HC
  by_cases hre : re = 0
  · subst hre
    rw [if_neg (by simp)]
    go_enter Tryz.func78, Tryz.ntmps78
    go_wp2_with fail
    refine (HTT.out _ ((Below.refl _ _).alloc (Nat.le_refl _) _)).mono ?_
    rintro e w1 ⟨rfl, hb1⟩
    have HB1 : Hid (Below w.heap.size w w1) := ((Below.refl _ _).alloc (Nat.le_refl _) _).trans (hb1.mono (by simp))
    have hz1 : w.heap.size + 1 ≤ w1.heap.size := by have := hb1.size; simpa using this
    have HBA : Hid (Below (w.heap.size + 1) (w.alloc (.cells #[.int .i64 0, .int .i64 0, .int .u64 0, .slice none 0 0] 123)) w1) := hb1.mono (by simp)
    clear hb1 HTT
    go_wp2_with fail
    refine (HCC.out _ HB1.out).mono ?_
    rintro e w2 ⟨a2, len2, cap2, rfl, hst2, hno2, hb2⟩
    have hba2 : Below (w.heap.size + 1) (w.alloc (.cells #[.int .i64 0, .int .i64 0, .int .u64 0, .slice none 0 0] 123)) w2 := HBA.out.trans (hb2.mono hz1)
    have f0 : w2.cell? ⟨w.heap.size, 0, none⟩ = some (.int .i64 0) := (hba2.cell (by simp)).trans (by simp)
    have f1 : w2.cell? ⟨w.heap.size, 1, none⟩ = some (.int .i64 0) := (hba2.cell (by simp)).trans (by simp)
    have f2 : w2.cell? ⟨w.heap.size, 2, none⟩ = some (.int .u64 0) := (hba2.cell (by simp)).trans (by simp)
    have f3 : w2.cell? ⟨w.heap.size, 3, none⟩ = some (.slice none 0 0) := (hba2.cell (by simp)).trans (by simp)
    have g0 : ∀ o, w2.frozen? ⟨w.heap.size, o, none⟩ = false := fun o => (hba2.frozen (p := ⟨w.heap.size, o, none⟩) (by simp)).trans (by simp)
    have HB2 : Hid (Below w.heap.size w w2) := HB1.out.trans (hb2.mono (by omega))
    have hz2 : w.heap.size + 1 ≤ w2.heap.size := by have := hb2.size; omega
    have hne : ¬ w.heap.size = w2.heap.size := by omega
    have hne2 : ¬ w2.heap.size = w.heap.size := by omega
    have hlt2 : w.heap.size < w2.heap.size := by omega
    have HST : Hid (NewB w2 w1.heap.size a2 len2 rd) := hst2
    have HN2 : Hid (NoA a2 len2 cap2) := hno2
    clear hba2 hb2 hst2 hno2 HBA HB1 HCC
    go_wp2_with fail
    refine bodyPost_ret (v := .tuple #[.agg #[.int .i64 num, .int .i64 ty, .int .u64 rn, .slice a2 len2 cap2], .int .i64 (k + rk), .int .i64 0]) ?_ rfl ⟨a2, len2, cap2, rfl, ?_, HN2.out, ?_⟩
    · simp [results, Tryz.results78, go_sem, f0, f1, f2, f3, hlt2]
    · refine (HST.out.cells (fun b o v hb hlt hc => ?_)).mono (by omega)
      refine Lib.cell?_alloc_some _ ?_
      rw [World.cell?_setCell_other _ _ _ _ (by simp <;> omega), World.cell?_setCell_other _ _ _ _ (by simp <;> omega), World.cell?_setCell_other _ _ _ _ (by simp <;> omega), World.cell?_setCell_other _ _ _ _ (by simp <;> omega)]
      exact hc
    · exact ((((HB2.out.setCell (by simp) _).setCell (by simp) _).setCell (by simp) _).setCell (by simp) _).alloc (by simp; omega) _
  · have hE2 : (re == 0) = false := by simpa using hre
    rw [if_pos hre]
    go_enter Tryz.func78, Tryz.ntmps78
    go_wp2_with fail
    refine (HTT.out _ ((Below.refl _ _).alloc (Nat.le_refl _) _)).mono ?_
    rintro e w1 ⟨rfl, hb1⟩
    have HB1 : Hid (Below w.heap.size w w1) := ((Below.refl _ _).alloc (Nat.le_refl _) _).trans (hb1.mono (by simp))
    have hz1 : w.heap.size + 1 ≤ w1.heap.size := by have := hb1.size; simpa using this
    have HBA : Hid (Below (w.heap.size + 1) (w.alloc (.cells #[.int .i64 0, .int .i64 0, .int .u64 0, .slice none 0 0] 123)) w1) := hb1.mono (by simp)
    clear hb1 HTT
    go_wp2_with fail
    refine (HCC.out _ HB1.out).mono ?_
    rintro e w2 ⟨a2, len2, cap2, rfl, hst2, hno2, hb2⟩
    have hba2 : Below (w.heap.size + 1) (w.alloc (.cells #[.int .i64 0, .int .i64 0, .int .u64 0, .slice none 0 0] 123)) w2 := HBA.out.trans (hb2.mono hz1)
    have f0 : w2.cell? ⟨w.heap.size, 0, none⟩ = some (.int .i64 0) := (hba2.cell (by simp)).trans (by simp)
    have f1 : w2.cell? ⟨w.heap.size, 1, none⟩ = some (.int .i64 0) := (hba2.cell (by simp)).trans (by simp)
    have f2 : w2.cell? ⟨w.heap.size, 2, none⟩ = some (.int .u64 0) := (hba2.cell (by simp)).trans (by simp)
    have f3 : w2.cell? ⟨w.heap.size, 3, none⟩ = some (.slice none 0 0) := (hba2.cell (by simp)).trans (by simp)
    have g0 : ∀ o, w2.frozen? ⟨w.heap.size, o, none⟩ = false := fun o => (hba2.frozen (p := ⟨w.heap.size, o, none⟩) (by simp)).trans (by simp)
    have HB2 : Hid (Below w.heap.size w w2) := HB1.out.trans (hb2.mono (by omega))
    have hz2 : w.heap.size + 1 ≤ w2.heap.size := by have := hb2.size; omega
    have hne : ¬ w.heap.size = w2.heap.size := by omega
    have hne2 : ¬ w2.heap.size = w.heap.size := by omega
    have hlt2 : w.heap.size < w2.heap.size := by omega
    have HST : Hid (NewB w2 w1.heap.size a2 len2 rd) := hst2
    have HN2 : Hid (NoA a2 len2 cap2) := hno2
    clear hba2 hb2 hst2 hno2 HBA HB1 HCC
    go_wp2_with fail
    refine bodyPost_ret (v := .tuple #[.agg #[.int .i64 0, .int .i64 0, .int .u64 0, .slice none 0 0], .int .i64 0, .int .i64 re]) ?_ rfl (tfErr_ans _ _ _ ?_)
    · simp [results, Tryz.results78, go_sem, f0, f1, f2, f3, hlt2]
    · exact ((((HB2.out.setCell (by simp) _).setCell (by simp) _).setCell (by simp) _).setCell (by simp) _).alloc (by simp; omega) _

theorem tfBody_tc (N k0 : Int) (rest : List Int) (h : ¬ badKey N) :
    tfBody N k0 rest = if (tc (N % 8) rest).e ≠ 0 then tfErr (tc (N % 8) rest).e else ⟨N / 8, N % 8, (tc (N % 8) rest).n, (tc (N % 8) rest).data, k0 + (tc (N % 8) rest).k, 0⟩ := by
  have hty : N % 8 = 0 ∨ N % 8 = 1 ∨ N % 8 = 2 ∨ N % 8 = 5 := by unfold badKey at h; omega
  unfold tfBody tc
  unfold badKey at h
  rw [if_neg h]
  generalize N / 8 = M
  rcases hty with hy | hy | hy | hy
  · rw [hy]; simp
  · rw [hy]
    simp only [show ¬ (1 : Int) = 0 by omega, show ¬ (1 : Int) = 2 by omega, show ¬ (1 : Int) = 5 by omega, if_false]
    by_cases h8 : rest.length < 8
    · simp [h8]
    · simp [h8]
  · rw [hy]
    simp only [show ¬ (2 : Int) = 0 by omega, if_false, if_true]
    by_cases hF : (dec 0 0 rest).2.2 = 0
    · by_cases hs : (rest.length : Int) - (dec 0 0 rest).2.1 < (dec 0 0 rest).1
      · simp [hF, hs]
      · simp [hF, hs, Int.add_assoc]
    · simp [hF]
  · rw [hy]
    simp only [show ¬ (5 : Int) = 0 by omega, show ¬ (5 : Int) = 2 by omega, if_false, if_true]
    by_cases h4 : rest.length < 4
    · simp [h4]
    · simp [h4]
theorem tc_k (ty : Int) (zs : List Int) (hb : ∀ z ∈ zs, 0 ≤ z ∧ z ≤ 255) (hl : zs.length ≤ 281474976710656) : 0 ≤ (tc ty zs).k ∧ (tc ty zs).k ≤ 1125899906842624 := by
  have hQ := dec_q zs 0 0 (by omega)
  obtain ⟨X, Q, F, hq⟩ := dec_triple zs
  unfold tc
  rw [hq] at hQ ⊢
  simp only [] at hQ ⊢
  split
  · simp only []; omega
  · split
    · split
      · simp
      · rename_i hF
        split
        · simp
        · have hF0 : F = 0 := by simpa using hF
          subst hF0
          obtain ⟨hX0, hX1, _⟩ := dec_ok zs 0 0 X Q hb (by simp) (by omega) (by simpa using hq)
          simp only []
          omega
    · split
      · split <;> simp
      · split <;> simp

theorem takeW_any (a : Option Addr) (len cap : Nat) (zs : List Int) (w : World) (hB : IsB w a len zs) (hlc : len ≤ cap) (hlm : len ≤ 140737488355328) (hcm : cap ≤ 9223372036854775807) :
    Calls Tryz.prog 78 #[.slice a len cap] w fun e w' => TfAns w w' e (tf zs) := by
  obtain ⟨N, K, E, hd⟩ := dec_triple zs
  unfold tf
  rw [hd]
  simp only []
  by_cases hE : E = 0
  · subst hE
    rw [if_neg (by simp)]
    obtain ⟨hN0, hN1, hK0, hKl, hK10⟩ := dec_ok zs 0 0 N K (isB_bytes hB) (by simp) (by omega) (by simpa using hd)
    obtain ⟨k, rfl⟩ := Int.eq_ofNat_of_zero_le (show 0 ≤ K by omega)
    have hzl := hB.1
    obtain ⟨b, off, _, rfl, _⟩ := isB_at hB (show 0 < len by omega)
    rw [Int.toNat_natCast]
    by_cases hbad : badKey N
    · have : tfBody N k (zs.drop k) = tfErr 2 := by unfold tfBody; exact if_pos hbad
      rw [this]
      exact takeW_err _ len cap w 2 (by omega) (fun W hW => takeKey_form _ len cap zs W (isB_old hB hW) N k hd hN0 hN1 hbad)
    · rw [tfBody_tc N k _ hbad]
      have hty : N % 8 = 0 ∨ N % 8 = 1 ∨ N % 8 = 2 ∨ N % 8 = 5 := by unfold badKey at hbad; omega
      have hrk := tc_k (N % 8) (zs.drop k) (fun z hz => isB_bytes hB z (List.mem_of_mem_drop hz)) (by rw [List.length_drop]; omega)
      have HK : ∀ W, Below w.heap.size w W → Calls Tryz.prog 102 #[.slice (some ⟨b, off, none⟩) len cap] W fun e w' => e = .returned (.tuple #[.int .i64 (N / 8), .int .i64 (N % 8), .int .i64 k, .int .i64 0]) ∧ Below W.heap.size W w' :=
        fun W hW => takeKey_ok _ len cap zs W (isB_old hB hW) N k hd hN0 hN1 hbad
      by_cases hck : cap = k
      · subst hck
        obtain rfl : len = cap := by omega
        refine takeW_end b off w (N / 8) (N % 8) len (by omega) HK _ _ _ _ hrk.1 hrk.2 (fun W hW => ?_)
        exact takeContent_any b off 0 0 (zs.drop len) W (N % 8) hty (isB_end (isB_old hB hW) _) (by omega) (by omega) (by omega)
      · refine takeW_body b off len cap w (N / 8) (N % 8) k (by omega) hlc hcm (by omega) hck HK _ _ _ _ hrk.1 hrk.2 (fun W hW => ?_)
        have := isB_cut (isB_old hB hW) hlc k (by omega)
        rw [cutAt_in hck] at this
        exact takeContent_any b (off + k) (len - k) (cap - k) (zs.drop k) W (N % 8) hty this (by omega) (by omega) (by omega)
  · rw [if_pos (by simpa using hE)]
    refine takeW_err _ len cap w E hE (fun W hW => (takeKey_err _ len cap zs W (isB_old hB hW) N K E hd hE).mono ?_)
    rintro e w' ⟨rfl, rfl⟩
    exact ⟨rfl, Below.refl _ _⟩
end Go.Proofs.YteajlfgbmefncaaGreatDoor
namespace Go.Proofs.YteajlfgbmefncaaGreatDoor
set_option linter.unusedVariables false
open Go.ChangeShapes Go.WideShapes Go.ChangeAt Go.RowKit

theorem fieldWB : FieldType 83 123 := ⟨Tryz.underlying83, by kernel_rfl⟩
theorem spAns_none {e : TypeId} {w w' : World} (hb : Below w.heap.size w w') : SpAns e w w' (.returned (.tuple #[.slice none 0 0, .slice none 0 0, .int .i64 2])) none := ⟨rfl, hb⟩
theorem newB_own {w : World} {base : Nat} {v : Value} {xs : List Int} (h : OwnB w base v xs) (hb : ∀ z ∈ xs, 0 ≤ z ∧ z ≤ 255) (hm : xs.length ≤ 281474976710656) :
    ∃ a c, v = .slice a xs.length c ∧ NewB w base a xs.length xs ∧ NoA a xs.length c := by
  obtain ⟨a, c, hv, hno, hst⟩ := ownE_isB (.inl h) hb hm
  exact ⟨a, c, hv, stable_newB hst, hno⟩

set_option maxHeartbeats 4000000 in
theorem splitW_any (a : Option Addr) (len cap : Nat) (zs : List Int) (w : World) (hB : IsB w a len zs) (hlc : len ≤ cap) (hcm : cap ≤ 9223372036854775807) (hlm : len ≤ 2097152) :
    Calls Tryz.prog 52 #[.slice a len cap] w fun e w' => SpAns 123 w w' e (split zs) := by
  have HB : Hid (IsB w a len zs) := hB
  clear hB
  go_enter Tryz.func52, Tryz.ntmps52
  go_wp2_with fail
  go_loopw [5, 6, 7] (fun v5 v6 i wr => ∃ (k : Nat) (fs : List FR) (rs : List Row3) (D : List (TF × List Int)), k ≤ len ∧ i = .int .i64 k ∧ SplSt wr w.heap.size 123 v5 v6 fs rs ∧ FitsF fs D ∧ FitsR rs D ∧ D.length ≤ k ∧ split zs = (split (zs.drop k)).map (D ++ ·) ∧ Below w.heap.size w wr) (fun _ _ i _ => len - (intOf i).toNat)
  case atStart => exact ⟨0, [], [], [], by omega, rfl, SplSt.nil _ _ _, FitsF.nil, FitsR.nil, by simp, by simp, Below.refl _ _⟩
  case round =>
    obtain ⟨k, fs, rs, D, hk, rfl, hst, hFF, hFR, hDk, hsp, hbel⟩ := hrel
    have HST : Hid (SplSt wr w.heap.size 123 u5 u6 fs rs) := hst
    have HFF : Hid (FitsF fs D) := hFF
    have HFR : Hid (FitsR rs D) := hFR
    have HSP : Hid (split zs = (split (zs.drop k)).map (D ++ ·)) := hsp
    have HBL : Hid (Below w.heap.size w wr) := hbel
    have hszr := hbel.size
    have hfl : fs.length ≤ k := by have := hFF.len; omega
    have hrl : rs.length ≤ k := by have := hFR.len; omega
    clear hst hFF hFR hsp hbel
    by_cases hlt : k < len
    · have hzl := HB.out.1
      obtain ⟨b, off, _, rfl, _⟩ := isB_at HB.out hlt
      have hck : ¬ cap = k := by omega
      have HIk : Hid (IsB wr (some ⟨b, off + k, none⟩) (len - k) (zs.drop k)) := by
        refine (?_ : IsB wr (some ⟨b, off + k, none⟩) (len - k) (zs.drop k))
        have := isB_cut (isB_old HB.out HBL.out) hlc k (by omega)
        rw [cutAt_in hck] at this
        exact this
      have hT := takeW_any (some ⟨b, off + k, none⟩) (len - k) (cap - k) (zs.drop k) wr HIk.out (by omega) (by omega) (by omega)
      have hne : zs.drop k ≠ [] := by
        intro h
        have := congrArg List.length h
        rw [List.length_drop] at this
        simp at this; omega
      have hE := tf_e (zs.drop k)
      have HKE : Hid ((tf (zs.drop k)).e = 0 → 1 ≤ (tf (zs.drop k)).k ∧ (tf (zs.drop k)).k ≤ ((len - k : Nat) : Int)) := by
        intro h
        have := tf_k (zs.drop k) (fun z hz => isB_bytes HB.out z (List.mem_of_mem_drop hz)) h
        rw [List.length_drop, hzl] at this
        exact this
      have HON : Hid ((tf (zs.drop k)).e = 0 → split zs = (split ((zs.drop k).drop (tf (zs.drop k)).k.toNat)).map ((D ++ [(tf (zs.drop k), (zs.drop k).take (tf (zs.drop k)).k.toNat)]) ++ ·)) := by
        intro h
        rw [HSP.out, split_on _ (fun z hz => isB_bytes HB.out z (List.mem_of_mem_drop hz)) hne h]
        simp [Option.map_map, Function.comp_def]
      have HER : Hid ((tf (zs.drop k)).e ≠ 0 → split zs = none) := by
        intro h
        rw [HSP.out, split_err _ hne h]; rfl
      clear hzl hne HSP
      generalize tf (zs.drop k) = r at *
      obtain ⟨rnum, rty, rn, rd, rk, re⟩ := r
      have HT2 : Hid (Calls Tryz.prog 78 #[.slice (some ⟨b, off + k, none⟩) (len - k) (cap - k)] wr fun e w' => ∃ a len cap, e = .returned (.tuple #[.agg #[.int .i64 rnum, .int .i64 rty, .int .u64 rn, .slice a len cap], .int .i64 rk, .int .i64 re]) ∧ NewB w' wr.heap.size a len rd ∧ NoA a len cap ∧ Below wr.heap.size wr w') := hT
      clear hT
      simp only [] at hE
      have hE0 : re = 0 ∨ re = 2 ∨ re = 5 := hE
      clear hE
      rcases hE0 with rfl | rfl | rfl
      · obtain ⟨hk1, hk2⟩ := HKE.out rfl
        have hON := HON.out rfl
        simp only [] at hk1 hk2 hON
        obtain ⟨q, rfl⟩ := Int.eq_ofNat_of_zero_le (show 0 ≤ rk by omega)
        rw [Int.toNat_natCast, List.drop_drop] at hON
        have HON2 : Hid (split zs = (split (zs.drop (k + q))).map ((D ++ [((⟨rnum, rty, rn, rd, (q : Int), 0⟩ : TF), (zs.drop k).take q)]) ++ ·)) := hON
        have HIq : Hid (∀ W, Below w.heap.size w W → IsB W (some ⟨b, off + k, none⟩) q ((zs.drop k).take q)) := by
          intro W hW
          have := isB_mid (isB_old HB.out hW) hlc k q (by omega)
          rw [cutAt_in hck] at this
          exact this
        have HQB : Hid (∀ z ∈ (zs.drop k).take q, 0 ≤ z ∧ z ≤ 255) := fun z hz => isB_bytes HB.out z (List.mem_of_mem_drop (List.mem_of_mem_take hz))
        clear HON HER HKE hON
        have hq1 : 1 ≤ q := by omega
        have hq2 : k + q ≤ len := by omega
        clear hk1 hk2
        go_wp2_with fail
        refine HT2.out.mono ?_
        rintro e W1 ⟨a1, len1, cap1, rfl, hn1, hno1, hb1⟩
        have hoF := owns_lt HST.out.ownF
        have hoR := owns_lt HST.out.ownR
        have hfar : FarB W1 u5.ownBlock u6.ownBlock a1 len1 rd := FarB.of_new hn1 (fun k hk => (hoF k hk).1) (fun k hk => (hoR k hk).1)
        have hst1 := HST.out.old hb1
        have hbW1 : Below w.heap.size w W1 := HBL.out.trans (hb1.mono hszr)
        have hzW1 := hbW1.size
        have hab : Below W1.heap.size W1 ((W1.alloc (.cells #[.int .i64 rnum, .int .i64 rty, .int .u64 rn, .slice a1 len1 cap1] 123)).alloc (.cells #[.int .i64 rnum, .int .i64 rty, .int .u64 rn, .slice a1 len1 cap1] 123)) := ((Below.refl _ _).alloc (Nat.le_refl _) _).alloc (by simp) _
        have HS2 : Hid (SplSt ((W1.alloc (.cells #[.int .i64 rnum, .int .i64 rty, .int .u64 rn, .slice a1 len1 cap1] 123)).alloc (.cells #[.int .i64 rnum, .int .i64 rty, .int .u64 rn, .slice a1 len1 cap1] 123)) w.heap.size 123 u5 u6 fs rs) := hst1.old hab
        have HF2 : Hid (FarB ((W1.alloc (.cells #[.int .i64 rnum, .int .i64 rty, .int .u64 rn, .slice a1 len1 cap1] 123)).alloc (.cells #[.int .i64 rnum, .int .i64 rty, .int .u64 rn, .slice a1 len1 cap1] 123)) u5.ownBlock u6.ownBlock a1 len1 rd) := hfar.old hab
        have HB2 : Hid (Below w.heap.size w ((W1.alloc (.cells #[.int .i64 rnum, .int .i64 rty, .int .u64 rn, .slice a1 len1 cap1] 123)).alloc (.cells #[.int .i64 rnum, .int .i64 rty, .int .u64 rn, .slice a1 len1 cap1] 123))) := hbW1.trans (hab.mono hzW1)
        have HC2 : Hid (∀ j u, (FR.cells ⟨rnum, rty, rn, a1, len1, cap1, rd⟩)[j]? = some u → ((W1.alloc (.cells #[.int .i64 rnum, .int .i64 rty, .int .u64 rn, .slice a1 len1 cap1] 123)).alloc (.cells #[.int .i64 rnum, .int .i64 rty, .int .u64 rn, .slice a1 len1 cap1] 123)).cell? ((⟨W1.heap.size + 1, 0, none⟩ : Addr).add j) = some u) := by
          intro j u hj
          rw [add_off]
          rcases j with _ | _ | _ | _ | j
          · simp [FR.cells] at hj; subst hj; simp
          · simp [FR.cells] at hj; subst hj; simp
          · simp [FR.cells] at hj; subst hj; simp
          · simp [FR.cells] at hj; subst hj; simp
          · simp [FR.cells] at hj
        have HNO1 : Hid (NoA a1 len1 cap1) := hno1
        clear hn1 hno1 hb1 hoF hoR hfar hst1 hbW1 hab HT2 HST HBL
        go_wp2_with (at_builtin; refine wpS_F rfl (.tmp 28) (.tmp 30) 83 123 rfl fieldWB w.heap.size u5 u6 fs rs rfl HS2.out ⟨rnum, rty, rn, a1, len1, cap1, rd⟩ HF2.out ⟨W1.heap.size + 1, 0, none⟩ 1 rfl HC2.out (by simp; omega) (by omega) ?_; intro v3 W3 hst3 hb3)
        have hbw3 : Below w.heap.size w W3 := HB2.out.trans hb3
        have HST3 : Hid (SplSt W3 w.heap.size 123 v3 u6 (fs ++ [⟨rnum, rty, rn, a1, len1, cap1, rd⟩]) rs) := hst3
        have HBW3 : Hid (Below w.heap.size w W3) := hbw3
        have hz3 := hbw3.size
        clear hst3 hb3 hbw3 HS2 HF2 HB2 HC2
        refine (cloneW_any _ _ _ _ _ (HIq.out _ HBW3.out) (by omega)).mono ?_
        rintro e W4 ⟨v4, rfl, ho4, hb4⟩
        obtain ⟨a4, c4, rfl, hn4, hno4⟩ := newB_own ho4 HQB.out (by rw [List.length_take, List.length_drop]; omega)
        have hql : ((zs.drop k).take q).length = q := by rw [List.length_take, List.length_drop]; have := HB.out.1; omega
        rw [hql] at hn4 hno4 ⊢
        have HNO4 : Hid (NoA a4 q c4) := hno4
        clear hno4
        have hoF := owns_lt HST3.out.ownF
        have hoR := owns_lt HST3.out.ownR
        have hfar : FarB W4 v3.ownBlock u6.ownBlock a4 q ((zs.drop k).take q) := FarB.of_new hn4 (fun k hk => (hoF k hk).1) (fun k hk => (hoR k hk).1)
        have hab : Below W4.heap.size W4 (W4.alloc (.cells #[.slice a4 q c4] 27)) := (Below.refl _ _).alloc (Nat.le_refl _) _
        have HS4 : Hid (SplSt (W4.alloc (.cells #[.slice a4 q c4] 27)) w.heap.size 123 v3 u6 (fs ++ [⟨rnum, rty, rn, a1, len1, cap1, rd⟩]) rs) := (HST3.out.old hb4).old hab
        have HF4 : Hid (FarB (W4.alloc (.cells #[.slice a4 q c4] 27)) v3.ownBlock u6.ownBlock a4 q ((zs.drop k).take q)) := hfar.old hab
        have hbw4 : Below w.heap.size w W4 := HBW3.out.trans (hb4.mono hz3)
        have hz4 := hbw4.size
        have HBW4 : Hid (Below w.heap.size w (W4.alloc (.cells #[.slice a4 q c4] 27))) := hbw4.alloc hz4 _
        have HC4 : Hid ((W4.alloc (.cells #[.slice a4 q c4] 27)).cell? ((⟨W4.heap.size, 0, none⟩ : Addr).add 0) = some (Row3.val ⟨a4, q, c4, (zs.drop k).take q⟩)) := by
          refine (?_ : (W4.alloc (.cells #[.slice a4 q c4] 27)).cell? ((⟨W4.heap.size, 0, none⟩ : Addr).add 0) = some (Row3.val ⟨a4, q, c4, (zs.drop k).take q⟩))
          rw [add_off]; simp [Row3.val]
        clear ho4 hb4 hn4 hoF hoR hfar hab hbw4 HST3 hql
        go_wp2_with (at_builtin; refine wpS_R rfl (.tmp 32) (.tmp 40) 123 rfl w.heap.size v3 u6 _ rs rfl HS4.out ⟨a4, q, c4, (zs.drop k).take q⟩ HF4.out ⟨W4.heap.size, 0, none⟩ 1 rfl HC4.out (by simp; omega) (by omega) ?_; intro v5 W5 hst5 hb5)
        go_roundw
        case rel =>
          obtain ⟨hf1, hf2⟩ := fits_snoc HFF.out HFR.out ⟨rnum, rty, rn, a1, len1, cap1, rd⟩ ⟨a4, q, c4, (zs.drop k).take q⟩ ((⟨rnum, rty, rn, rd, (q : Int), 0⟩ : TF), (zs.drop k).take q) rfl rfl HNO1.out HNO4.out
          exact ⟨k + q, _, _, _, by omega, by go_num, hst5, hf1, hf2, by simp; omega, HON2.out, HBW4.out.trans hb5⟩
        case measure => simp [intOf]; omega
      · have hER := HER.out (by simp)
        have HERR : Hid (split zs = none) := hER
        clear HER HON HKE hER
        go_wp2_with fail
        refine HT2.out.mono ?_
        rintro e W1 ⟨a1, len1, cap1, rfl, hn1, hno1, hb1⟩
        have HBW1 : Hid (Below w.heap.size w W1) := HBL.out.trans (hb1.mono hszr)
        clear hb1 hn1 hno1
        go_wp2_with fail
        go_ret3
        rw [HERR.out]
        exact spAns_none (HBW1.out.alloc HBW1.out.size _)
      · have hER := HER.out (by simp)
        have HERR : Hid (split zs = none) := hER
        clear HER HON HKE hER
        go_wp2_with fail
        refine HT2.out.mono ?_
        rintro e W1 ⟨a1, len1, cap1, rfl, hn1, hno1, hb1⟩
        have HBW1 : Hid (Below w.heap.size w W1) := HBL.out.trans (hb1.mono hszr)
        clear hb1 hn1 hno1
        go_wp2_with fail
        go_ret3
        rw [HERR.out]
        exact spAns_none (HBW1.out.alloc HBW1.out.size _)
    · obtain rfl : k = len := by omega
      have HE : Hid (split zs = some D) := by
        refine (?_ : split zs = some D)
        rw [HSP.out, List.drop_eq_nil_of_le (by have := HB.out.1; omega), split_nil]
        simp
      clear HSP
      go_wp2_with fail
      go_ret3
      rw [HE.out]
      exact ⟨_, _, fs, rs, rfl, HST.out, HFF.out, HFR.out, HBL.out⟩
end Go.Proofs.YteajlfgbmefncaaGreatDoor
