/-
  The walks over the program's fitsKind, fitsField and fitsMessage.
-/
import Derived.Test.YtknijddlacmelaaDoorM22
import Derived.Test.YtknijddlacmelaaDoorM11
import Derived.Test.YtknijddlacmelaaDoorM12
namespace Go.Proofs.YtknijddlacmelaaDoor
set_option linter.unusedVariables false
open Go.ChangeShapes Go.WideShapes Go.ChangeAt Go.RowKit

theorem valid_at (l : List UInt8) (w : World) (hl : l.length ≤ 1000000) (hT : Tabs w) : Calls Tryd.prog 50 #[.string (mkB l)] w fun e w' => e = .returned (.bool (valB l)) ∧ Below w.heap.size w w' := by
  have h := utf8_ValidString (mkB l) w (by rw [mkB_size]; omega) hT
  have hd : (mkB l).data.toList = l := by simp [mkB]
  rw [hd] at h
  exact h
set_option maxHeartbeats 16000000 in
set_option maxRecDepth 20000 in
theorem kindP_any (ma ea ta : Option Addr) (nm ne nt mc ec tc : Nat) (rec : Int → Nd → Bool) (x : FD) (dep : Int) (v : Value) (y : Nd) (w : World) (hT : Tabs w) (hdep : 0 ≤ dep ∧ dep ≤ 1000) (hs : y.s.length ≤ 100000) (hV : ∃ fs, v = ival y fs)
    (hrec : x.kind = 10 → ∀ W, Below w.heap.size w W → Calls Tryd.prog 19 #[.agg #[.slice ma nm mc, .slice ea ne ec, .slice ta nt tc], .int .i64 x.type, v, .int .i64 (dep + 1)] W fun e w' => e = .returned (.bool (rec x.type y)) ∧ Below W.heap.size W w') :
    Calls Tryd.prog 40 #[.agg #[.slice ma nm mc, .slice ea ne ec, .slice ta nt tc], .agg #[.int .i64 x.num, .string (mkB x.name), .int .i64 x.kind, .bool x.rep, .int .i64 x.type], v, .int .i64 dep] w fun e w' => e = .returned (.bool (valP rec x y)) ∧ Below w.heap.size w w' := by
  obtain ⟨num, name, kind, rep, type⟩ := x
  dsimp only at hrec ⊢
  obtain ⟨R, hR⟩ : ∃ R, valP rec ⟨num, name, kind, rep, type⟩ y = R := ⟨_, rfl⟩
  have HR : Hid ((if kind = 10 then rec type y else kindB kind y) = R) := hR
  rw [hR]
  clear hR
  obtain ⟨fs, rfl⟩ := hV
  have t1 := fun W => taInt y fs W
  have t2 := fun W => taUint y fs W
  have t3 := fun W => taBool y fs W
  have t4 := fun W => taText y fs W
  have t5 := fun W => taBytes y fs W
  have t6 := fun W => taEnum y fs W
  generalize ival y fs = v at *
  obtain ⟨Y, hY, hC, hb, hYs⟩ := box_new w #[.slice ma nm mc, .slice ea ne ec, .slice ta nt tc] 53
  obtain ⟨V, hV, hD, hVb, hVs⟩ := box_new Y #[.int .i64 num, .string (mkB name), .int .i64 kind, .bool rep, .int .i64 type] 95
  have HY := Lib.hid hY
  have HV := Lib.hid hV
  rw [hYs] at hD
  have hCV := (hVb.block _ (by omega)).trans hC
  have hBV := hb.trans (hVb.mono hb.size)
  have HBV := Lib.hid hBV
  have c2 : V.cell? ⟨w.heap.size + 1, 2, none⟩ = some (.int .i64 kind) := cell_at hD 2 rfl
  by_cases h1 : kind = 1
  · subst h1
    have e : R = decide (y.kind = 1) := by rw [← HR.out, if_neg (by decide)]; simp [kindB]
    subst e
    have t1' : ∃ z, ∀ W, (Instr.typeAssert v 34 58 true).run Tryd.prog W = .ok (.tuple #[z, .bool (decide (y.kind = 1))]) W := ⟨_, t1⟩
    clear t1
    obtain ⟨z, t1⟩ := t1'
    generalize decide (y.kind = 1) = b at t1 ⊢
    clear hrec HR t2 t3 t4 t5 t6 hC hD hY hb hYs hV hVb hVs hCV hBV
    go_enter Tryd.func40, Tryd.ntmps40
    go_upto_region 1 with fail
    rw [HY.out, HV.out]
    go_wp2_with fail
    go_ret
    exact ⟨rfl, HBV.out⟩
  by_cases h3 : kind = 3
  · subst h3
    have e : R = decide (y.kind = 1) := by rw [← HR.out, if_neg (by decide)]; simp [kindB]
    subst e
    have t1' : ∃ z, ∀ W, (Instr.typeAssert v 34 58 true).run Tryd.prog W = .ok (.tuple #[z, .bool (decide (y.kind = 1))]) W := ⟨_, t1⟩
    clear t1
    obtain ⟨z, t1⟩ := t1'
    generalize decide (y.kind = 1) = b at t1 ⊢
    clear hrec HR t2 t3 t4 t5 t6 hC hD hY hb hYs hV hVb hVs hCV hBV
    go_enter Tryd.func40, Tryd.ntmps40
    go_upto_region 1 with fail
    rw [HY.out, HV.out]
    go_wp2_with fail
    go_ret
    exact ⟨rfl, HBV.out⟩
  by_cases h2 : kind = 2
  · subst h2
    have e : R = decide (y.kind = 2) := by rw [← HR.out, if_neg (by decide)]; simp [kindB]
    subst e
    have t2' : ∃ z, ∀ W, (Instr.typeAssert v 34 54 true).run Tryd.prog W = .ok (.tuple #[z, .bool (decide (y.kind = 2))]) W := ⟨_, t2⟩
    clear t2
    obtain ⟨z, t2⟩ := t2'
    generalize decide (y.kind = 2) = b at t2 ⊢
    clear hrec HR t1 t3 t4 t5 t6 hC hD hY hb hYs hV hVb hVs hCV hBV
    go_enter Tryd.func40, Tryd.ntmps40
    go_upto_region 1 with fail
    rw [HY.out, HV.out]
    go_wp2_with fail
    go_ret
    exact ⟨rfl, HBV.out⟩
  by_cases h8 : kind = 8
  · subst h8
    have e : R = decide (y.kind = 2) := by rw [← HR.out, if_neg (by decide)]; simp [kindB]
    subst e
    have t2' : ∃ z, ∀ W, (Instr.typeAssert v 34 54 true).run Tryd.prog W = .ok (.tuple #[z, .bool (decide (y.kind = 2))]) W := ⟨_, t2⟩
    clear t2
    obtain ⟨z, t2⟩ := t2'
    generalize decide (y.kind = 2) = b at t2 ⊢
    clear hrec HR t1 t3 t4 t5 t6 hC hD hY hb hYs hV hVb hVs hCV hBV
    go_enter Tryd.func40, Tryd.ntmps40
    go_upto_region 1 with fail
    rw [HY.out, HV.out]
    go_wp2_with fail
    go_ret
    exact ⟨rfl, HBV.out⟩
  by_cases h4 : kind = 4
  · subst h4
    have e : R = decide (y.kind = 3) := by rw [← HR.out, if_neg (by decide)]; simp [kindB]
    subst e
    have t3' : ∃ z, ∀ W, (Instr.typeAssert v 34 59 true).run Tryd.prog W = .ok (.tuple #[z, .bool (decide (y.kind = 3))]) W := ⟨_, t3⟩
    clear t3
    obtain ⟨z, t3⟩ := t3'
    generalize decide (y.kind = 3) = b at t3 ⊢
    clear hrec HR t1 t2 t4 t5 t6 hC hD hY hb hYs hV hVb hVs hCV hBV
    go_enter Tryd.func40, Tryd.ntmps40
    go_upto_region 1 with fail
    rw [HY.out, HV.out]
    go_wp2_with fail
    go_ret
    exact ⟨rfl, HBV.out⟩
  by_cases h6 : kind = 6
  · subst h6
    have e : R = decide (y.kind = 5) := by rw [← HR.out, if_neg (by decide)]; simp [kindB]
    subst e
    have t5' : ∃ z, ∀ W, (Instr.typeAssert v 34 61 true).run Tryd.prog W = .ok (.tuple #[z, .bool (decide (y.kind = 5))]) W := ⟨_, t5⟩
    clear t5
    obtain ⟨z, t5⟩ := t5'
    generalize decide (y.kind = 5) = b at t5 ⊢
    clear hrec HR t1 t2 t3 t4 t6 hC hD hY hb hYs hV hVb hVs hCV hBV
    go_enter Tryd.func40, Tryd.ntmps40
    go_upto_region 1 with fail
    rw [HY.out, HV.out]
    go_wp2_with fail
    go_ret
    exact ⟨rfl, HBV.out⟩
  by_cases h9 : kind = 9
  · subst h9
    have e : R = decide (y.kind = 6) := by rw [← HR.out, if_neg (by decide)]; simp [kindB]
    subst e
    have t6' : ∃ z, ∀ W, (Instr.typeAssert v 34 62 true).run Tryd.prog W = .ok (.tuple #[z, .bool (decide (y.kind = 6))]) W := ⟨_, t6⟩
    clear t6
    obtain ⟨z, t6⟩ := t6'
    generalize decide (y.kind = 6) = b at t6 ⊢
    clear hrec HR t1 t2 t3 t4 t5 hC hD hY hb hYs hV hVb hVs hCV hBV
    go_enter Tryd.func40, Tryd.ntmps40
    go_upto_region 1 with fail
    rw [HY.out, HV.out]
    go_wp2_with fail
    go_ret
    exact ⟨rfl, HBV.out⟩
  by_cases h7 : kind = 7
  · subst h7
    by_cases hk : y.kind = 2
    · have e : R = decide (y.u < 4294967296) := by rw [← HR.out, if_neg (by decide)]; simp [kindB, hk]
      rw [e]
      rw [if_pos hk, decide_eq_true hk] at t2
      clear hrec HR t1 t3 t4 t5 t6 hC hD hY hb hYs hV hVb hVs hCV hBV e hk
      generalize y.u = u at *
      go_enter Tryd.func40, Tryd.ntmps40
      go_upto_region 1 with fail
      rw [HY.out, HV.out]
      go_wp2_with fail
      go_ret
      exact ⟨rfl, HBV.out⟩
    · have e : R = false := by rw [← HR.out, if_neg (by decide)]; simp [kindB, hk]
      subst e
      rw [if_neg hk, decide_eq_false hk] at t2
      clear hrec HR t1 t3 t4 t5 t6 hC hD hY hb hYs hV hVb hVs hCV hBV hk
      go_enter Tryd.func40, Tryd.ntmps40
      go_upto_region 1 with fail
      rw [HY.out, HV.out]
      go_wp2_with fail
      go_ret
      exact ⟨rfl, HBV.out⟩
  by_cases h5 : kind = 5
  · subst h5
    by_cases hk : y.kind = 4
    · have e : R = valB y.s := by rw [← HR.out, if_neg (by decide)]; simp [kindB, hk]
      rw [e]
      rw [if_pos hk, decide_eq_true hk] at t4
      have hva := valid_at y.s V (by omega) (tabs_below hT hBV)
      clear hrec HR t1 t2 t3 t5 t6 hC hD hY hb hYs hV hVb hVs hCV hBV e hk
      generalize valB y.s = B at *
      go_enter Tryd.func40, Tryd.ntmps40
      go_upto_region 1 with fail
      rw [HY.out, HV.out]
      go_wp2_with fail
      refine hva.mono ?_
      rintro e W ⟨rfl, hbW⟩
      have HBW := Lib.hid (HBV.out.trans (hbW.mono HBV.out.size))
      clear hbW hva
      go_wp2_with fail
      go_ret
      exact ⟨rfl, HBW.out⟩
    · have e : R = false := by rw [← HR.out, if_neg (by decide)]; simp [kindB, hk]
      subst e
      rw [if_neg hk, decide_eq_false hk] at t4
      clear hrec HR t1 t2 t3 t5 t6 hC hD hY hb hYs hV hVb hVs hCV hBV hk
      go_enter Tryd.func40, Tryd.ntmps40
      go_upto_region 1 with fail
      rw [HY.out, HV.out]
      go_wp2_with fail
      go_ret
      exact ⟨rfl, HBV.out⟩
  by_cases h10 : kind = 10
  · subst h10
    have e : R = rec type y := by rw [← HR.out, if_pos rfl]
    rw [e]
    have h := hrec rfl V hBV
    have s0 : V.cell? ⟨w.heap.size, 0, none⟩ = some (.slice ma nm mc) := cell_at hCV 0 rfl
    have s1 : V.cell? ⟨w.heap.size, 1, none⟩ = some (.slice ea ne ec) := cell_at hCV 1 rfl
    have s2 : V.cell? ⟨w.heap.size, 2, none⟩ = some (.slice ta nt tc) := cell_at hCV 2 rfl
    have c4 : V.cell? ⟨w.heap.size + 1, 4, none⟩ = some (.int .i64 type) := cell_at hD 4 rfl
    have hw1 : IntKind.i64.wrap (dep + 1) = dep + 1 := by rw [IntKind.wrap_i64]; omega
    clear hrec HR t1 t2 t3 t4 t5 t6 hC hD hY hb hYs hV hVb hVs hCV hBV e
    generalize rec type y = B at *
    go_enter Tryd.func40, Tryd.ntmps40
    go_upto_region 1 with fail
    rw [HY.out, HV.out]
    go_wp2_with fail
    refine h.mono ?_
    rintro e W ⟨rfl, hbW⟩
    have HBW := Lib.hid (HBV.out.trans (hbW.mono HBV.out.size))
    clear hbW h
    go_wp2_with fail
    go_ret
    exact ⟨rfl, HBW.out⟩
  have e : R = false := by
    rw [← HR.out, if_neg h10]; unfold kindB
    rw [if_neg (by omega), if_neg (by omega), if_neg h7, if_neg h4, if_neg h5, if_neg h6, if_neg h9]
  subst e
  clear hrec HR t1 t2 t3 t4 t5 t6 hC hD hY hb hYs hV hVb hVs hCV hBV
  go_enter Tryd.func40, Tryd.ntmps40
  go_upto_region 1 with fail
  rw [HY.out, HV.out]
  go_wp2_with fail
  go_ret
  exact ⟨rfl, HBV.out⟩
end Go.Proofs.YtknijddlacmelaaDoor
