/-
  The walk over the program's join: two trees become one, in new memory.
-/
import Derived.Test.YtblebbmnlbmgiaaTmP
namespace Go.Proofs.Ytblebbmnlbmgiaa
set_option linter.unusedVariables false
open Go.ChangeShapes Go.WideShapes Go.ChangeAt Go.RowKit

set_option maxHeartbeats 2000000 in
theorem join0_any (ta tb : Tr) (ba bb s p : Nat) (ok : Nat → Prop) (w : World) (hA : HeldT w ok ta ba) (hB : HeldT w ok tb bb) (hwa : ta.WF) (hwb : tb.WF) (h1 : 1 ≤ s) (h2 : s ≤ 64)
    (hpa : ta.Agree (s - 1) (2 * p)) (hpb : tb.Agree (s - 1) (2 * p + 1)) (hok : ∀ b, w.heap.size ≤ b → ok b) :
    Calls Try.prog 23 #[ptr ba, ptr bb, .int .i64 s] w fun e w' => ∃ q, e = .returned (ptr q) ∧ HeldT w' ok (Tr.two s ta tb) q ∧ Below w.heap.size w w' := by
  obtain ⟨_, a0, a1, a2⟩ := hA.head
  obtain ⟨_, b0, b1, b2⟩ := hB.head
  have hla := cell_lt a0
  have hlb := cell_lt b0
  have hs := fun wx => side_any ta.fk s wx hwa.fk_lt h1 h2
  have e0 := hpa _ _ hwa.least.1
  rw [show ta.fk / 2 ^ (s - 1) % 2 = 0 by omega] at hs
  have HA := Lib.hid hA
  have HB := Lib.hid hB
  have HOK := Lib.hid hok
  clear hA hB hok hwa hwb hpa hpb e0 h1 h2 a2 b2
  unfold Tr.two
  generalize ta.fk = ka at *
  generalize ta.fd = da at *
  generalize tb.fk = kb at *
  generalize tb.fd = db at *
  unfold ptr
  by_cases hd : db < da
  · rw [if_pos hd]
    go_enter Try.func23, Try.ntmps23
    go_wp2_with (go_at_call 21; with_reducible refine (hs _).mono ?_; rintro e w1 ⟨rfl, rfl⟩)
    obtain ⟨X, hX, hXc, hXb, hXs⟩ := box_new w1 #[.int .u64 ka, .int .i64 da] 54
    rw [hX]
    have c0 := cell_at hXc 0 rfl
    have c1 := cell_at hXc 1 rfl
    have f0 := frozen_at hXc 0
    have f1 := frozen_at hXc 1
    have d0 := (hXb.cell (p := ⟨bb, 0, none⟩) hlb).trans b0
    have d1 := (hXb.cell (p := ⟨bb, 1, none⟩) hlb).trans b1
    have hN : Hid (bb ≠ w1.heap.size) := Nat.ne_of_lt hlb
    have HXC := Lib.hid hXc
    have HXB := Lib.hid hXb
    clear hX hXc hXb b0 b1 a0 a1
    generalize hn : w1.heap.size = N at *
    go_quiet (fail)
    generalize hwX : X.drewN _ = Y
    have e0 : ∀ p, Y.cell? p = X.cell? p := fun p => by rw [← hwX]; rfl
    have e1 : ∀ p, Y.frozen? p = X.frozen? p := fun p => by rw [← hwX]; rfl
    rw [← e0] at c0 c1 d0 d1
    rw [← e1] at f0 f1
    have hYs : Y.heap.size = N + 1 := by rw [← hwX]; exact hXs
    have HYB : Hid (Below N w1 Y) := by refine (?_ : Below _ _ _); rw [← hwX]; exact HXB.out.trans ((below_drewN X _).mono (by omega))
    clear e0 e1
    go_wp2_with fail
    go_ret
    refine ⟨_, rfl, ?_, ?_⟩
    · have HB2 : Below N w1 (((Y.setCell ⟨N, 0, none⟩ (.int .u64 kb)).setCell ⟨N, 1, none⟩ (.int .i64 db)).alloc (.cells #[.int .u64 kb, .int .i64 db, .int .i64 s, .pointer (some ⟨ba, 0, none⟩), .pointer (some ⟨bb, 0, none⟩)] 57)) := ((HYB.out.setCell (Nat.le_refl _) _).setCell (Nat.le_refl _) _).alloc (by simp; omega) _
      have e := alloc_heap_new ((Y.setCell ⟨N, 0, none⟩ (.int .u64 kb)).setCell ⟨N, 1, none⟩ (.int .i64 db)) (.cells #[.int .u64 kb, .int .i64 db, .int .i64 s, .pointer (some ⟨ba, 0, none⟩), .pointer (some ⟨bb, 0, none⟩)] 57)
      simp only [World.size_setCell, hYs] at e
      exact bin_new e (HOK.out _ (by omega)) (HA.out.old (by rw [hn]; exact HB2)) (HB.out.old (by rw [hn]; exact HB2))
    · rw [hn]
      exact ((HYB.out.setCell (Nat.le_refl _) _).setCell (Nat.le_refl _) _).alloc (by simp; omega) _
  · have hd2 : decide (db < da) = false := decide_eq_false hd
    rw [if_neg hd]
    clear hd
    go_enter Try.func23, Try.ntmps23
    go_wp2_with (go_at_call 21; with_reducible refine (hs _).mono ?_; rintro e w1 ⟨rfl, rfl⟩)
    obtain ⟨X, hX, hXc, hXb, hXs⟩ := box_new w1 #[.int .u64 ka, .int .i64 da] 54
    rw [hX]
    have c0 := cell_at hXc 0 rfl
    have c1 := cell_at hXc 1 rfl
    have f0 := frozen_at hXc 0
    have f1 := frozen_at hXc 1
    have d0 := (hXb.cell (p := ⟨bb, 0, none⟩) hlb).trans b0
    have d1 := (hXb.cell (p := ⟨bb, 1, none⟩) hlb).trans b1
    have hN : Hid (bb ≠ w1.heap.size) := Nat.ne_of_lt hlb
    have HXC := Lib.hid hXc
    have HXB := Lib.hid hXb
    clear hX hXc hXb b0 b1 a0 a1
    generalize hn : w1.heap.size = N at *
    go_quiet (fail)
    generalize hwX : X.drewN _ = Y
    have e0 : ∀ p, Y.cell? p = X.cell? p := fun p => by rw [← hwX]; rfl
    have e1 : ∀ p, Y.frozen? p = X.frozen? p := fun p => by rw [← hwX]; rfl
    rw [← e0] at c0 c1 d0 d1
    rw [← e1] at f0 f1
    have hYs : Y.heap.size = N + 1 := by rw [← hwX]; exact hXs
    have HYB : Hid (Below N w1 Y) := by refine (?_ : Below _ _ _); rw [← hwX]; exact HXB.out.trans ((below_drewN X _).mono (by omega))
    clear e0 e1
    go_wp2_with fail
    go_ret
    refine ⟨_, rfl, ?_, ?_⟩
    · have HB2 : Below N w1 (Y.alloc (.cells #[.int .u64 ka, .int .i64 da, .int .i64 s, .pointer (some ⟨ba, 0, none⟩), .pointer (some ⟨bb, 0, none⟩)] 57)) := HYB.out.alloc (by omega) _
      have e := alloc_heap_new Y (.cells #[.int .u64 ka, .int .i64 da, .int .i64 s, .pointer (some ⟨ba, 0, none⟩), .pointer (some ⟨bb, 0, none⟩)] 57)
      rw [hYs] at e
      exact bin_new e (HOK.out _ (by omega)) (HA.out.old (by rw [hn]; exact HB2)) (HB.out.old (by rw [hn]; exact HB2))
    · rw [hn]
      exact HYB.out.alloc (by omega) _
set_option maxHeartbeats 2000000 in
theorem join1_any (ta tb : Tr) (ba bb s p : Nat) (ok : Nat → Prop) (w : World) (hA : HeldT w ok ta ba) (hB : HeldT w ok tb bb) (hwa : ta.WF) (hwb : tb.WF) (h1 : 1 ≤ s) (h2 : s ≤ 64)
    (hpa : ta.Agree (s - 1) (2 * p)) (hpb : tb.Agree (s - 1) (2 * p + 1)) (hok : ∀ b, w.heap.size ≤ b → ok b) :
    Calls Try.prog 23 #[ptr bb, ptr ba, .int .i64 s] w fun e w' => ∃ q, e = .returned (ptr q) ∧ HeldT w' ok (Tr.two s ta tb) q ∧ Below w.heap.size w w' := by
  obtain ⟨_, a0, a1, a2⟩ := hA.head
  obtain ⟨_, b0, b1, b2⟩ := hB.head
  have hla := cell_lt a0
  have hlb := cell_lt b0
  have hs := fun wx => side_any tb.fk s wx hwb.fk_lt h1 h2
  have e0 := hpb _ _ hwb.least.1
  rw [show tb.fk / 2 ^ (s - 1) % 2 = 1 by omega] at hs
  have HA := Lib.hid hA
  have HB := Lib.hid hB
  have HOK := Lib.hid hok
  clear hA hB hok hwa hwb hpa hpb e0 h1 h2 a2 b2
  unfold Tr.two
  generalize ta.fk = ka at *
  generalize ta.fd = da at *
  generalize tb.fk = kb at *
  generalize tb.fd = db at *
  unfold ptr
  by_cases hd : db < da
  · rw [if_pos hd]
    go_enter Try.func23, Try.ntmps23
    go_wp2_with (go_at_call 21; with_reducible refine (hs _).mono ?_; rintro e w1 ⟨rfl, rfl⟩)
    obtain ⟨X, hX, hXc, hXb, hXs⟩ := box_new w1 #[.int .u64 ka, .int .i64 da] 54
    rw [hX]
    have c0 := cell_at hXc 0 rfl
    have c1 := cell_at hXc 1 rfl
    have f0 := frozen_at hXc 0
    have f1 := frozen_at hXc 1
    have d0 := (hXb.cell (p := ⟨bb, 0, none⟩) hlb).trans b0
    have d1 := (hXb.cell (p := ⟨bb, 1, none⟩) hlb).trans b1
    have hN : Hid (bb ≠ w1.heap.size) := Nat.ne_of_lt hlb
    have HXC := Lib.hid hXc
    have HXB := Lib.hid hXb
    clear hX hXc hXb b0 b1 a0 a1
    generalize hn : w1.heap.size = N at *
    go_quiet (fail)
    generalize hwX : X.drewN _ = Y
    have e0 : ∀ p, Y.cell? p = X.cell? p := fun p => by rw [← hwX]; rfl
    have e1 : ∀ p, Y.frozen? p = X.frozen? p := fun p => by rw [← hwX]; rfl
    rw [← e0] at c0 c1 d0 d1
    rw [← e1] at f0 f1
    have hYs : Y.heap.size = N + 1 := by rw [← hwX]; exact hXs
    have HYB : Hid (Below N w1 Y) := by refine (?_ : Below _ _ _); rw [← hwX]; exact HXB.out.trans ((below_drewN X _).mono (by omega))
    clear e0 e1
    go_wp2_with fail
    go_ret
    refine ⟨_, rfl, ?_, ?_⟩
    · have HB2 : Below N w1 (((Y.setCell ⟨N, 0, none⟩ (.int .u64 kb)).setCell ⟨N, 1, none⟩ (.int .i64 db)).alloc (.cells #[.int .u64 kb, .int .i64 db, .int .i64 s, .pointer (some ⟨ba, 0, none⟩), .pointer (some ⟨bb, 0, none⟩)] 57)) := ((HYB.out.setCell (Nat.le_refl _) _).setCell (Nat.le_refl _) _).alloc (by simp; omega) _
      have e := alloc_heap_new ((Y.setCell ⟨N, 0, none⟩ (.int .u64 kb)).setCell ⟨N, 1, none⟩ (.int .i64 db)) (.cells #[.int .u64 kb, .int .i64 db, .int .i64 s, .pointer (some ⟨ba, 0, none⟩), .pointer (some ⟨bb, 0, none⟩)] 57)
      simp only [World.size_setCell, hYs] at e
      exact bin_new e (HOK.out _ (by omega)) (HA.out.old (by rw [hn]; exact HB2)) (HB.out.old (by rw [hn]; exact HB2))
    · rw [hn]
      exact ((HYB.out.setCell (Nat.le_refl _) _).setCell (Nat.le_refl _) _).alloc (by simp; omega) _
  · have hd2 : decide (db < da) = false := decide_eq_false hd
    rw [if_neg hd]
    clear hd
    go_enter Try.func23, Try.ntmps23
    go_wp2_with (go_at_call 21; with_reducible refine (hs _).mono ?_; rintro e w1 ⟨rfl, rfl⟩)
    obtain ⟨X, hX, hXc, hXb, hXs⟩ := box_new w1 #[.int .u64 ka, .int .i64 da] 54
    rw [hX]
    have c0 := cell_at hXc 0 rfl
    have c1 := cell_at hXc 1 rfl
    have f0 := frozen_at hXc 0
    have f1 := frozen_at hXc 1
    have d0 := (hXb.cell (p := ⟨bb, 0, none⟩) hlb).trans b0
    have d1 := (hXb.cell (p := ⟨bb, 1, none⟩) hlb).trans b1
    have hN : Hid (bb ≠ w1.heap.size) := Nat.ne_of_lt hlb
    have HXC := Lib.hid hXc
    have HXB := Lib.hid hXb
    clear hX hXc hXb b0 b1 a0 a1
    generalize hn : w1.heap.size = N at *
    go_quiet (fail)
    generalize hwX : X.drewN _ = Y
    have e0 : ∀ p, Y.cell? p = X.cell? p := fun p => by rw [← hwX]; rfl
    have e1 : ∀ p, Y.frozen? p = X.frozen? p := fun p => by rw [← hwX]; rfl
    rw [← e0] at c0 c1 d0 d1
    rw [← e1] at f0 f1
    have hYs : Y.heap.size = N + 1 := by rw [← hwX]; exact hXs
    have HYB : Hid (Below N w1 Y) := by refine (?_ : Below _ _ _); rw [← hwX]; exact HXB.out.trans ((below_drewN X _).mono (by omega))
    clear e0 e1
    go_wp2_with fail
    go_ret
    refine ⟨_, rfl, ?_, ?_⟩
    · have HB2 : Below N w1 (Y.alloc (.cells #[.int .u64 ka, .int .i64 da, .int .i64 s, .pointer (some ⟨ba, 0, none⟩), .pointer (some ⟨bb, 0, none⟩)] 57)) := HYB.out.alloc (by omega) _
      have e := alloc_heap_new Y (.cells #[.int .u64 ka, .int .i64 da, .int .i64 s, .pointer (some ⟨ba, 0, none⟩), .pointer (some ⟨bb, 0, none⟩)] 57)
      rw [hYs] at e
      exact bin_new e (HOK.out _ (by omega)) (HA.out.old (by rw [hn]; exact HB2)) (HB.out.old (by rw [hn]; exact HB2))
    · rw [hn]
      exact HYB.out.alloc (by omega) _
theorem join_any (ta tb : Tr) (ba bb s pa pb : Nat) (ok : Nat → Prop) (w : World) (hA : HeldT w ok ta ba) (hB : HeldT w ok tb bb) (hwa : ta.WF) (hwb : tb.WF) (h1 : 1 ≤ s) (h2 : s ≤ 64)
    (hpa : ta.Agree (s - 1) pa) (hpb : tb.Agree (s - 1) pb) (he : pa / 2 = pb / 2) (hne : pa ≠ pb) (hok : ∀ b, w.heap.size ≤ b → ok b) :
    Calls Try.prog 23 #[ptr ba, ptr bb, .int .i64 s] w fun e w' => ∃ q t, e = .returned (ptr q) ∧ HeldT w' ok t q ∧ t.WF ∧ (∀ k d, t.Mem k d ↔ ta.Mem k d ∨ tb.Mem k d) ∧ Below w.heap.size w w' := by
  rcases (by omega : pa = 2 * (pa / 2) ∧ pb = 2 * (pa / 2) + 1 ∨ pb = 2 * (pa / 2) ∧ pa = 2 * (pa / 2) + 1) with ⟨ea, eb⟩ | ⟨eb, ea⟩
  · rw [ea] at hpa
    rw [eb] at hpb
    refine (join0_any ta tb ba bb s (pa / 2) ok w hA hB hwa hwb h1 h2 hpa hpb hok).mono ?_
    rintro e w' ⟨q, rfl, hq, hb⟩
    exact ⟨q, _, rfl, hq, Tr.two_wf hwa hwb h1 h2 hpa hpb, fun k d => Tr.two_mem s ta tb k d, hb⟩
  · rw [ea] at hpa
    rw [eb] at hpb
    refine (join1_any tb ta bb ba s (pa / 2) ok w hB hA hwb hwa h1 h2 hpb hpa hok).mono ?_
    rintro e w' ⟨q, rfl, hq, hb⟩
    exact ⟨q, _, rfl, hq, Tr.two_wf hwb hwa h1 h2 hpb hpa, fun k d => (Tr.two_mem s tb ta k d).trans Or.comm, hb⟩
end Go.Proofs.Ytblebbmnlbmgiaa
