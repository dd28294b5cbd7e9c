/-
  The walk over the program's Take of a field, whole: of any bytes it answers what 'tf' says (the same as the document's), and makes new memory alone.
-/
import Derived.Test.YtknijddlacmelaaDoorM19
import Derived.Lib.SliceRun
namespace Go.Proofs.YtknijddlacmelaaDoor
set_option linter.unusedVariables false
open Go.ChangeShapes Go.WideShapes Go.ChangeAt Go.RowKit

set_option maxHeartbeats 1000000 in
theorem takeW_err (a : Option Addr) (len cap : Nat) (w : World) (E : Int) (hE : E ≠ 0)
    (HT : ∀ W, Below w.heap.size w W → Calls Tryd.prog 58 #[.slice a len cap] W fun e w' => e = .returned (.tuple #[.int .i64 0, .int .i64 0, .int .i64 0, .int .i64 E]) ∧ Below W.heap.size W w') :
    Calls Tryd.prog 51 #[.slice a len cap] w fun e w' => TfAns w w' e (tfErr E) := by
  have HTT : Hid _ := HT
  have hE2 : (E == 0) = false := by simpa using hE
  clear HT
  go_enter Tryd.func51, Tryd.ntmps51
  go_wp2_with fail
  refine (HTT.out _ ((Below.refl _ _).alloc (Nat.le_refl _) _)).mono ?_
  rintro e w1 ⟨rfl, hb1⟩
  have f0 : w1.cell? ⟨w.heap.size, 0, none⟩ = some (.int .i64 0) := (hb1.cell (by simp)).trans (by simp)
  have f1 : w1.cell? ⟨w.heap.size, 1, none⟩ = some (.int .i64 0) := (hb1.cell (by simp)).trans (by simp)
  have f2 : w1.cell? ⟨w.heap.size, 2, none⟩ = some (.int .u64 0) := (hb1.cell (by simp)).trans (by simp)
  have f3 : w1.cell? ⟨w.heap.size, 3, none⟩ = some (.slice none 0 0) := (hb1.cell (by simp)).trans (by simp)
  have g0 : ∀ o, w1.frozen? ⟨w.heap.size, o, none⟩ = false := fun o => (hb1.frozen (p := ⟨w.heap.size, o, none⟩) (by simp)).trans (by simp)
  have HB1 : Hid (Below w.heap.size w w1) := ((Below.refl _ _).alloc (Nat.le_refl _) _).trans (hb1.mono (by simp))
  clear hb1 HTT
  go_wp2_with fail
  refine bodyPost_ret (v := .tuple #[.agg #[.int .i64 0, .int .i64 0, .int .u64 0, .slice none 0 0], .int .i64 0, .int .i64 E]) ?_ rfl (tfErr_ans _ _ _ ?_)
  · simp [results, Tryd.results51, go_sem, f0, f1, f2, f3]
  · exact (((HB1.out.setCell (by simp) _).setCell (by simp) _).setCell (by simp) _).setCell (by simp) _

set_option maxHeartbeats 2000000 in
theorem takeW_body (b off len cap : Nat) (w : World) (num ty : Int) (k : Nat) (hk : k ≤ len) (hlc : len ≤ cap) (hcm : cap ≤ 9223372036854775807) (hk10 : k ≤ 10) (hck : ¬ cap = k)
    (HT : ∀ W, Below w.heap.size w W → Calls Tryd.prog 58 #[.slice (some ⟨b, off, none⟩) len cap] W fun e w' => e = .returned (.tuple #[.int .i64 num, .int .i64 ty, .int .i64 k, .int .i64 0]) ∧ Below W.heap.size W w')
    (rn : Int) (rd : List Int) (rk re : Int) (hr0 : 0 ≤ rk) (hr1 : rk ≤ 1125899906842624)
    (HC : ∀ W, Below w.heap.size w W → Calls Tryd.prog 59 #[.slice (some ⟨b, off + k, none⟩) (len - k) (cap - k), .int .i64 ty] W fun e w' => TcAns W w' e ⟨rn, rd, rk, re⟩) :
    Calls Tryd.prog 51 #[.slice (some ⟨b, off, none⟩) len cap] w fun e w' => TfAns w w' e (if re ≠ 0 then tfErr re else ⟨num, ty, rn, rd, k + rk, 0⟩) := by
  have HTT : Hid _ := HT
  have HCC : Hid (∀ W, Below w.heap.size w W → Calls Tryd.prog 59 #[.slice (some ⟨b, off + k, none⟩) (len - k) (cap - k), .int .i64 ty] W fun e w' => ∃ a2 len2 cap2, e = .returned (.tuple #[.agg #[.int .i64 0, .int .i64 0, .int .u64 rn, .slice a2 len2 cap2], .int .i64 rk, .int .i64 re]) ∧ NewB w' W.heap.size a2 len2 rd ∧ NoA a2 len2 cap2 ∧ Below W.heap.size W w') := HC
  clear HT HC
  by_cases hre : re = 0
  · subst hre
    rw [if_neg (by simp)]
    go_enter Tryd.func51, Tryd.ntmps51
    go_wp2_with fail
    refine (HTT.out _ ((Below.refl _ _).alloc (Nat.le_refl _) _)).mono ?_
    rintro e w1 ⟨rfl, hb1⟩
    have HB1 : Hid (Below w.heap.size w w1) := ((Below.refl _ _).alloc (Nat.le_refl _) _).trans (hb1.mono (by simp))
    have hz1 : w.heap.size + 1 ≤ w1.heap.size := by have := hb1.size; simpa using this
    have HBA : Hid (Below (w.heap.size + 1) (w.alloc (.cells #[.int .i64 0, .int .i64 0, .int .u64 0, .slice none 0 0] 106)) w1) := hb1.mono (by simp)
    clear hb1 HTT
    go_wp2_with fail
    refine (HCC.out _ HB1.out).mono ?_
    rintro e w2 ⟨a2, len2, cap2, rfl, hst2, hno2, hb2⟩
    have hba2 : Below (w.heap.size + 1) (w.alloc (.cells #[.int .i64 0, .int .i64 0, .int .u64 0, .slice none 0 0] 106)) w2 := HBA.out.trans (hb2.mono hz1)
    have f0 : w2.cell? ⟨w.heap.size, 0, none⟩ = some (.int .i64 0) := (hba2.cell (by simp)).trans (by simp)
    have f1 : w2.cell? ⟨w.heap.size, 1, none⟩ = some (.int .i64 0) := (hba2.cell (by simp)).trans (by simp)
    have f2 : w2.cell? ⟨w.heap.size, 2, none⟩ = some (.int .u64 0) := (hba2.cell (by simp)).trans (by simp)
    have f3 : w2.cell? ⟨w.heap.size, 3, none⟩ = some (.slice none 0 0) := (hba2.cell (by simp)).trans (by simp)
    have g0 : ∀ o, w2.frozen? ⟨w.heap.size, o, none⟩ = false := fun o => (hba2.frozen (p := ⟨w.heap.size, o, none⟩) (by simp)).trans (by simp)
    have HB2 : Hid (Below w.heap.size w w2) := HB1.out.trans (hb2.mono (by omega))
    have hz2 : w.heap.size + 1 ≤ w2.heap.size := by have := hb2.size; omega
    have hne : ¬ w.heap.size = w2.heap.size := by omega
    have hne2 : ¬ w2.heap.size = w.heap.size := by omega
    have hlt2 : w.heap.size < w2.heap.size := by omega
    have HST : Hid (NewB w2 w1.heap.size a2 len2 rd) := hst2
    have HN2 : Hid (NoA a2 len2 cap2) := hno2
    clear hba2 hb2 hst2 hno2 HBA HB1 HCC
    go_wp2_with fail
    refine bodyPost_ret (v := .tuple #[.agg #[.int .i64 num, .int .i64 ty, .int .u64 rn, .slice a2 len2 cap2], .int .i64 (k + rk), .int .i64 0]) ?_ rfl ⟨a2, len2, cap2, rfl, ?_, HN2.out, ?_⟩
    · simp [results, Tryd.results51, go_sem, f0, f1, f2, f3, hlt2]
    · refine (HST.out.cells (fun b o v hb hlt hc => ?_)).mono (by omega)
      refine Lib.cell?_alloc_some _ ?_
      rw [World.cell?_setCell_other _ _ _ _ (by simp <;> omega), World.cell?_setCell_other _ _ _ _ (by simp <;> omega), World.cell?_setCell_other _ _ _ _ (by simp <;> omega), World.cell?_setCell_other _ _ _ _ (by simp <;> omega)]
      exact hc
    · exact ((((HB2.out.setCell (by simp) _).setCell (by simp) _).setCell (by simp) _).setCell (by simp) _).alloc (by simp; omega) _
  · have hE2 : (re == 0) = false := by simpa using hre
    rw [if_pos hre]
    go_enter Tryd.func51, Tryd.ntmps51
    go_wp2_with fail
    refine (HTT.out _ ((Below.refl _ _).alloc (Nat.le_refl _) _)).mono ?_
    rintro e w1 ⟨rfl, hb1⟩
    have HB1 : Hid (Below w.heap.size w w1) := ((Below.refl _ _).alloc (Nat.le_refl _) _).trans (hb1.mono (by simp))
    have hz1 : w.heap.size + 1 ≤ w1.heap.size := by have := hb1.size; simpa using this
    have HBA : Hid (Below (w.heap.size + 1) (w.alloc (.cells #[.int .i64 0, .int .i64 0, .int .u64 0, .slice none 0 0] 106)) w1) := hb1.mono (by simp)
    clear hb1 HTT
    go_wp2_with fail
    refine (HCC.out _ HB1.out).mono ?_
    rintro e w2 ⟨a2, len2, cap2, rfl, hst2, hno2, hb2⟩
    have hba2 : Below (w.heap.size + 1) (w.alloc (.cells #[.int .i64 0, .int .i64 0, .int .u64 0, .slice none 0 0] 106)) w2 := HBA.out.trans (hb2.mono hz1)
    have f0 : w2.cell? ⟨w.heap.size, 0, none⟩ = some (.int .i64 0) := (hba2.cell (by simp)).trans (by simp)
    have f1 : w2.cell? ⟨w.heap.size, 1, none⟩ = some (.int .i64 0) := (hba2.cell (by simp)).trans (by simp)
    have f2 : w2.cell? ⟨w.heap.size, 2, none⟩ = some (.int .u64 0) := (hba2.cell (by simp)).trans (by simp)
    have f3 : w2.cell? ⟨w.heap.size, 3, none⟩ = some (.slice none 0 0) := (hba2.cell (by simp)).trans (by simp)
    have g0 : ∀ o, w2.frozen? ⟨w.heap.size, o, none⟩ = false := fun o => (hba2.frozen (p := ⟨w.heap.size, o, none⟩) (by simp)).trans (by simp)
    have HB2 : Hid (Below w.heap.size w w2) := HB1.out.trans (hb2.mono (by omega))
    have hz2 : w.heap.size + 1 ≤ w2.heap.size := by have := hb2.size; omega
    have hne : ¬ w.heap.size = w2.heap.size := by omega
    have hne2 : ¬ w2.heap.size = w.heap.size := by omega
    have hlt2 : w.heap.size < w2.heap.size := by omega
    have HST : Hid (NewB w2 w1.heap.size a2 len2 rd) := hst2
    have HN2 : Hid (NoA a2 len2 cap2) := hno2
    clear hba2 hb2 hst2 hno2 HBA HB1 HCC
    go_wp2_with fail
    refine bodyPost_ret (v := .tuple #[.agg #[.int .i64 0, .int .i64 0, .int .u64 0, .slice none 0 0], .int .i64 0, .int .i64 re]) ?_ rfl (tfErr_ans _ _ _ ?_)
    · simp [results, Tryd.results51, go_sem, f0, f1, f2, f3, hlt2]
    · exact ((((HB2.out.setCell (by simp) _).setCell (by simp) _).setCell (by simp) _).setCell (by simp) _).alloc (by simp; omega) _
set_option maxHeartbeats 2000000 in
theorem takeW_end (b off : Nat) (w : World) (num ty : Int) (k : Nat) (hk10 : k ≤ 10)
    (HT : ∀ W, Below w.heap.size w W → Calls Tryd.prog 58 #[.slice (some ⟨b, off, none⟩) k k] W fun e w' => e = .returned (.tuple #[.int .i64 num, .int .i64 ty, .int .i64 k, .int .i64 0]) ∧ Below W.heap.size W w')
    (rn : Int) (rd : List Int) (rk re : Int) (hr0 : 0 ≤ rk) (hr1 : rk ≤ 1125899906842624)
    (HC : ∀ W, Below w.heap.size w W → Calls Tryd.prog 59 #[.slice (some ⟨b, off, none⟩) 0 0, .int .i64 ty] W fun e w' => TcAns W w' e ⟨rn, rd, rk, re⟩) :
    Calls Tryd.prog 51 #[.slice (some ⟨b, off, none⟩) k k] w fun e w' => TfAns w w' e (if re ≠ 0 then tfErr re else ⟨num, ty, rn, rd, k + rk, 0⟩) := by
  have HTT : Hid _ := HT
  have HCC : Hid (∀ W, Below w.heap.size w W → Calls Tryd.prog 59 #[.slice (some ⟨b, off, none⟩) 0 0, .int .i64 ty] W fun e w' => ∃ a2 len2 cap2, e = .returned (.tuple #[.agg #[.int .i64 0, .int .i64 0, .int .u64 rn, .slice a2 len2 cap2], .int .i64 rk, .int .i64 re]) ∧ NewB w' W.heap.size a2 len2 rd ∧ NoA a2 len2 cap2 ∧ Below W.heap.size W w') := HC
  clear HT HC
  by_cases hre : re = 0
  · subst hre
    rw [if_neg (by simp)]
    go_enter Tryd.func51, Tryd.ntmps51
    go_wp2_with fail
    refine (HTT.out _ ((Below.refl _ _).alloc (Nat.le_refl _) _)).mono ?_
    rintro e w1 ⟨rfl, hb1⟩
    have HB1 : Hid (Below w.heap.size w w1) := ((Below.refl _ _).alloc (Nat.le_refl _) _).trans (hb1.mono (by simp))
    have hz1 : w.heap.size + 1 ≤ w1.heap.size := by have := hb1.size; simpa using this
    have HBA : Hid (Below (w.heap.size + 1) (w.alloc (.cells #[.int .i64 0, .int .i64 0, .int .u64 0, .slice none 0 0] 106)) w1) := hb1.mono (by simp)
    clear hb1 HTT
    go_wp2_with fail
    refine (HCC.out _ HB1.out).mono ?_
    rintro e w2 ⟨a2, len2, cap2, rfl, hst2, hno2, hb2⟩
    have hba2 : Below (w.heap.size + 1) (w.alloc (.cells #[.int .i64 0, .int .i64 0, .int .u64 0, .slice none 0 0] 106)) w2 := HBA.out.trans (hb2.mono hz1)
    have f0 : w2.cell? ⟨w.heap.size, 0, none⟩ = some (.int .i64 0) := (hba2.cell (by simp)).trans (by simp)
    have f1 : w2.cell? ⟨w.heap.size, 1, none⟩ = some (.int .i64 0) := (hba2.cell (by simp)).trans (by simp)
    have f2 : w2.cell? ⟨w.heap.size, 2, none⟩ = some (.int .u64 0) := (hba2.cell (by simp)).trans (by simp)
    have f3 : w2.cell? ⟨w.heap.size, 3, none⟩ = some (.slice none 0 0) := (hba2.cell (by simp)).trans (by simp)
    have g0 : ∀ o, w2.frozen? ⟨w.heap.size, o, none⟩ = false := fun o => (hba2.frozen (p := ⟨w.heap.size, o, none⟩) (by simp)).trans (by simp)
    have HB2 : Hid (Below w.heap.size w w2) := HB1.out.trans (hb2.mono (by omega))
    have hz2 : w.heap.size + 1 ≤ w2.heap.size := by have := hb2.size; omega
    have hne : ¬ w.heap.size = w2.heap.size := by omega
    have hne2 : ¬ w2.heap.size = w.heap.size := by omega
    have hlt2 : w.heap.size < w2.heap.size := by omega
    have HST : Hid (NewB w2 w1.heap.size a2 len2 rd) := hst2
    have HN2 : Hid (NoA a2 len2 cap2) := hno2
    clear hba2 hb2 hst2 hno2 HBA HB1 HCC
    go_wp2_with fail
    refine bodyPost_ret (v := .tuple #[.agg #[.int .i64 num, .int .i64 ty, .int .u64 rn, .slice a2 len2 cap2], .int .i64 (k + rk), .int .i64 0]) ?_ rfl ⟨a2, len2, cap2, rfl, ?_, HN2.out, ?_⟩
    · simp [results, Tryd.results51, go_sem, f0, f1, f2, f3, hlt2]
    · refine (HST.out.cells (fun b o v hb hlt hc => ?_)).mono (by omega)
      refine Lib.cell?_alloc_some _ ?_
      rw [World.cell?_setCell_other _ _ _ _ (by simp <;> omega), World.cell?_setCell_other _ _ _ _ (by simp <;> omega), World.cell?_setCell_other _ _ _ _ (by simp <;> omega), World.cell?_setCell_other _ _ _ _ (by simp <;> omega)]
      exact hc
    · exact ((((HB2.out.setCell (by simp) _).setCell (by simp) _).setCell (by simp) _).setCell (by simp) _).alloc (by simp; omega) _
  · have hE2 : (re == 0) = false := by simpa using hre
    rw [if_pos hre]
    go_enter Tryd.func51, Tryd.ntmps51
    go_wp2_with fail
    refine (HTT.out _ ((Below.refl _ _).alloc (Nat.le_refl _) _)).mono ?_
    rintro e w1 ⟨rfl, hb1⟩
    have HB1 : Hid (Below w.heap.size w w1) := ((Below.refl _ _).alloc (Nat.le_refl _) _).trans (hb1.mono (by simp))
    have hz1 : w.heap.size + 1 ≤ w1.heap.size := by have := hb1.size; simpa using this
    have HBA : Hid (Below (w.heap.size + 1) (w.alloc (.cells #[.int .i64 0, .int .i64 0, .int .u64 0, .slice none 0 0] 106)) w1) := hb1.mono (by simp)
    clear hb1 HTT
    go_wp2_with fail
    refine (HCC.out _ HB1.out).mono ?_
    rintro e w2 ⟨a2, len2, cap2, rfl, hst2, hno2, hb2⟩
    have hba2 : Below (w.heap.size + 1) (w.alloc (.cells #[.int .i64 0, .int .i64 0, .int .u64 0, .slice none 0 0] 106)) w2 := HBA.out.trans (hb2.mono hz1)
    have f0 : w2.cell? ⟨w.heap.size, 0, none⟩ = some (.int .i64 0) := (hba2.cell (by simp)).trans (by simp)
    have f1 : w2.cell? ⟨w.heap.size, 1, none⟩ = some (.int .i64 0) := (hba2.cell (by simp)).trans (by simp)
    have f2 : w2.cell? ⟨w.heap.size, 2, none⟩ = some (.int .u64 0) := (hba2.cell (by simp)).trans (by simp)
    have f3 : w2.cell? ⟨w.heap.size, 3, none⟩ = some (.slice none 0 0) := (hba2.cell (by simp)).trans (by simp)
    have g0 : ∀ o, w2.frozen? ⟨w.heap.size, o, none⟩ = false := fun o => (hba2.frozen (p := ⟨w.heap.size, o, none⟩) (by simp)).trans (by simp)
    have HB2 : Hid (Below w.heap.size w w2) := HB1.out.trans (hb2.mono (by omega))
    have hz2 : w.heap.size + 1 ≤ w2.heap.size := by have := hb2.size; omega
    have hne : ¬ w.heap.size = w2.heap.size := by omega
    have hne2 : ¬ w2.heap.size = w.heap.size := by omega
    have hlt2 : w.heap.size < w2.heap.size := by omega
    have HST : Hid (NewB w2 w1.heap.size a2 len2 rd) := hst2
    have HN2 : Hid (NoA a2 len2 cap2) := hno2
    clear hba2 hb2 hst2 hno2 HBA HB1 HCC
    go_wp2_with fail
    refine bodyPost_ret (v := .tuple #[.agg #[.int .i64 0, .int .i64 0, .int .u64 0, .slice none 0 0], .int .i64 0, .int .i64 re]) ?_ rfl (tfErr_ans _ _ _ ?_)
    · simp [results, Tryd.results51, go_sem, f0, f1, f2, f3, hlt2]
    · exact ((((HB2.out.setCell (by simp) _).setCell (by simp) _).setCell (by simp) _).setCell (by simp) _).alloc (by simp; omega) _

theorem tfBody_tc (N k0 : Int) (rest : List Int) (h : ¬ badKey N) :
    tfBody N k0 rest = if (tc (N % 8) rest).e ≠ 0 then tfErr (tc (N % 8) rest).e else ⟨N / 8, N % 8, (tc (N % 8) rest).n, (tc (N % 8) rest).data, k0 + (tc (N % 8) rest).k, 0⟩ := by
  have hty : N % 8 = 0 ∨ N % 8 = 1 ∨ N % 8 = 2 ∨ N % 8 = 5 := by unfold badKey at h; omega
  unfold tfBody tc
  unfold badKey at h
  rw [if_neg h]
  generalize N / 8 = M
  rcases hty with hy | hy | hy | hy
  · rw [hy]; simp
  · rw [hy]
    simp only [show ¬ (1 : Int) = 0 by omega, show ¬ (1 : Int) = 2 by omega, show ¬ (1 : Int) = 5 by omega, if_false]
    by_cases h8 : rest.length < 8
    · simp [h8]
    · simp [h8]
  · rw [hy]
    simp only [show ¬ (2 : Int) = 0 by omega, if_false, if_true]
    by_cases hF : (dec 0 0 rest).2.2 = 0
    · by_cases hs : (rest.length : Int) - (dec 0 0 rest).2.1 < (dec 0 0 rest).1
      · simp [hF, hs]
      · simp [hF, hs, Int.add_assoc]
    · simp [hF]
  · rw [hy]
    simp only [show ¬ (5 : Int) = 0 by omega, show ¬ (5 : Int) = 2 by omega, if_false, if_true]
    by_cases h4 : rest.length < 4
    · simp [h4]
    · simp [h4]
theorem tc_k (ty : Int) (zs : List Int) (hb : ∀ z ∈ zs, 0 ≤ z ∧ z ≤ 255) (hl : zs.length ≤ 281474976710656) : 0 ≤ (tc ty zs).k ∧ (tc ty zs).k ≤ 1125899906842624 := by
  have hQ := dec_q zs 0 0 (by omega)
  obtain ⟨X, Q, F, hq⟩ := dec_triple zs
  unfold tc
  rw [hq] at hQ ⊢
  simp only [] at hQ ⊢
  split
  · simp only []; omega
  · split
    · split
      · simp
      · rename_i hF
        split
        · simp
        · have hF0 : F = 0 := by simpa using hF
          subst hF0
          obtain ⟨hX0, hX1, _⟩ := dec_ok zs 0 0 X Q hb (by simp) (by omega) (by simpa using hq)
          simp only []
          omega
    · split
      · split <;> simp
      · split <;> simp

theorem takeW_any (a : Option Addr) (len cap : Nat) (zs : List Int) (w : World) (hB : IsB w a len zs) (hlc : len ≤ cap) (hlm : len ≤ 140737488355328) (hcm : cap ≤ 9223372036854775807) :
    Calls Tryd.prog 51 #[.slice a len cap] w fun e w' => TfAns w w' e (tf zs) := by
  obtain ⟨N, K, E, hd⟩ := dec_triple zs
  unfold tf
  rw [hd]
  simp only []
  by_cases hE : E = 0
  · subst hE
    rw [if_neg (by simp)]
    obtain ⟨hN0, hN1, hK0, hKl, hK10⟩ := dec_ok zs 0 0 N K (isB_bytes hB) (by simp) (by omega) (by simpa using hd)
    obtain ⟨k, rfl⟩ := Int.eq_ofNat_of_zero_le (show 0 ≤ K by omega)
    have hzl := hB.1
    obtain ⟨b, off, _, rfl, _⟩ := isB_at hB (show 0 < len by omega)
    rw [Int.toNat_natCast]
    by_cases hbad : badKey N
    · have : tfBody N k (zs.drop k) = tfErr 2 := by unfold tfBody; exact if_pos hbad
      rw [this]
      exact takeW_err _ len cap w 2 (by omega) (fun W hW => takeKey_form _ len cap zs W (isB_old hB hW) N k hd hN0 hN1 hbad)
    · rw [tfBody_tc N k _ hbad]
      have hty : N % 8 = 0 ∨ N % 8 = 1 ∨ N % 8 = 2 ∨ N % 8 = 5 := by unfold badKey at hbad; omega
      have hrk := tc_k (N % 8) (zs.drop k) (fun z hz => isB_bytes hB z (List.mem_of_mem_drop hz)) (by rw [List.length_drop]; omega)
      have HK : ∀ W, Below w.heap.size w W → Calls Tryd.prog 58 #[.slice (some ⟨b, off, none⟩) len cap] W fun e w' => e = .returned (.tuple #[.int .i64 (N / 8), .int .i64 (N % 8), .int .i64 k, .int .i64 0]) ∧ Below W.heap.size W w' :=
        fun W hW => takeKey_ok _ len cap zs W (isB_old hB hW) N k hd hN0 hN1 hbad
      by_cases hck : cap = k
      · subst hck
        obtain rfl : len = cap := by omega
        refine takeW_end b off w (N / 8) (N % 8) len (by omega) HK _ _ _ _ hrk.1 hrk.2 (fun W hW => ?_)
        exact takeContent_any b off 0 0 (zs.drop len) W (N % 8) hty (isB_end (isB_old hB hW) _) (by omega) (by omega) (by omega)
      · refine takeW_body b off len cap w (N / 8) (N % 8) k (by omega) hlc hcm (by omega) hck HK _ _ _ _ hrk.1 hrk.2 (fun W hW => ?_)
        have := isB_cut (isB_old hB hW) hlc k (by omega)
        rw [cutAt_in hck] at this
        exact takeContent_any b (off + k) (len - k) (cap - k) (zs.drop k) W (N % 8) hty this (by omega) (by omega) (by omega)
  · rw [if_pos (by simpa using hE)]
    refine takeW_err _ len cap w E hE (fun W hW => (takeKey_err _ len cap zs W (isB_old hB hW) N K E hd hE).mono ?_)
    rintro e w' ⟨rfl, rfl⟩
    exact ⟨rfl, Below.refl _ _⟩
end Go.Proofs.YtknijddlacmelaaDoor
