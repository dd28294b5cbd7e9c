/-
  The walk over what the laws of layer 10 ask first: awake.
-/
import Derived.Test.YtpnlbmobnopnoaaGreatDoorM38
import Derived.Test.YtpnlbmobnopnoaaGreatDoorM4
namespace Go.Proofs.YtpnlbmobnopnoaaGreatDoor
set_option linter.unusedVariables false
open Go.ChangeShapes Go.WideShapes Go.ChangeAt Go.RowKit

def fdB : FD := ⟨1, [120], 1, false, 0⟩
def scB : SC := ⟨[⟨[65], [fdB]⟩], [], []⟩
def ndB : Nd := ⟨7, 0, 0, false, [], 0, [(1, [⟨1, 150, 0, false, [], 0, []⟩])]⟩
theorem formB : FormS scB := by
  refine ⟨by decide +kernel, fun i hi hr => ?_⟩
  have hno : ∀ x y, ¬ Goes scB.ms x y := by
    intro x y h
    unfold Goes at h
    obtain ⟨m, hm, f, hf, hk, _⟩ := h
    have hx : x = 0 := by
      have := (List.getElem?_eq_some_iff.1 hm).1
      simp [scB] at this; omega
    subst hx
    have e : m = ⟨[65], [fdB]⟩ := by simpa [scB] using hm.symm
    subst e
    have e2 : f = fdB := by simpa using hf
    subst e2
    exact absurd hk (by decide)
  unfold Ring at hr
  cases hr with
  | single h => exact hno _ _ h
  | tail _ h => exact hno _ _ h
theorem fitB : FitX scB 1 0 ndB := ⟨formB, by decide, by decide, by decide +kernel⟩
theorem encBB : encB scB 1 ndB = [8, 150, 1] := by decide +kernel
theorem strBB : strOfNums [8, 150, 1] = ⟨#[8, 150, 1]⟩ := by decide +kernel
theorem lst1 {α : Type} {a x : α} {j : Nat} (h : [a][j]? = some x) : j = 0 ∧ a = x := by
  have hj : j = 0 := by
    have := (List.getElem?_eq_some_iff.1 h).1
    simp at this; exact this
  subst hj
  exact ⟨rfl, by simpa using h⟩
set_option maxHeartbeats 16000000 in
set_option maxRecDepth 20000 in
theorem awake10_any (w : World) (hT : Tabs w) : Calls Tryz.prog 7 #[] w fun e w' => e = .returned (.bool true) ∧ Below w.heap.size w w' := by
  obtain ⟨Y1, hY1, cY1, bY1, sY1⟩ := box_new w #[.int .i64 1, .string ⟨#[120]⟩, .int .i64 1, .bool false, .int .i64 0] 59
  obtain ⟨Y2, hY2, cY2, bY2, sY2⟩ := box_new Y1 #[.string ⟨#[65]⟩, .slice (some ⟨w.heap.size, 0, none⟩) 1 1] 54
  obtain ⟨Y3, hY3, cY3, bY3, sY3⟩ := box_new Y2 #[.slice (some ⟨w.heap.size + 1, 0, none⟩) 1 1, .slice none 0 0, .slice none 0 0] 26
  obtain ⟨Y4, hY4, cY4, bY4, sY4⟩ := box_new Y3 #[.iface 60 (.int .i64 150)] 38
  obtain ⟨Y5, hY5, cY5, bY5, sY5⟩ := box_new Y4 #[.int .i64 1, .slice (some ⟨w.heap.size + 3, 0, none⟩) 1 1] 63
  have t2 := bY1.trans (bY2.mono bY1.size)
  have t3 := t2.trans (bY3.mono t2.size)
  have t4 := t3.trans (bY4.mono t3.size)
  have t5 := t4.trans (bY5.mono t4.size)
  rw [sY4, sY3, sY2, sY1] at cY5
  rw [sY3, sY2, sY1] at cY4
  rw [sY2, sY1] at cY3
  rw [sY1] at cY2
  have d1 := (bY5.block _ (by omega)).trans ((bY4.block _ (by omega)).trans ((bY3.block _ (by omega)).trans ((bY2.block _ (by omega)).trans cY1)))
  have d2 := (bY5.block _ (by omega)).trans ((bY4.block _ (by omega)).trans ((bY3.block _ (by omega)).trans cY2))
  have d3 := (bY5.block _ (by omega)).trans ((bY4.block _ (by omega)).trans cY3)
  have d4 := (bY5.block _ (by omega)).trans cY4
  have hH : HeldSc Y5 (fun b => b < Y5.heap.size) (.slice (some ⟨w.heap.size + 1, 0, none⟩) 1 1) (.slice none 0 0) (.slice none 0 0) scB := by
    refine ⟨⟨_, _, rfl, Nat.le_refl _, .inr ⟨w.heap.size + 1, 0, rfl, by show w.heap.size + 1 < Y5.heap.size; omega, fun j x hj => ?_⟩⟩, HeldN.nil _ _, RowsIn.nil _ _ _ _ _ _⟩
    obtain ⟨rfl, rfl⟩ := lst1 hj
    refine ⟨some ⟨w.heap.size, 0, none⟩, 1, cell_at d2 0 rfl, cell_at d2 1 rfl, ⟨_, _, rfl, Nat.le_refl _, .inr ⟨w.heap.size, 0, rfl, by show w.heap.size < Y5.heap.size; omega, fun k y hk => ?_⟩⟩⟩
    obtain ⟨rfl, rfl⟩ := lst1 hk
    intro i u hu
    simp only [World.cell?, d1]
    simpa [fdrow, fdB, mkB] using hu
  have hV : HeldV Y5 (fun b => b < Y5.heap.size) 1 (.iface 66 (.agg #[.int .i64 0, .slice (some ⟨w.heap.size + 4, 0, none⟩) 1 1, .string ⟨#[]⟩])) ndB := by
    refine ⟨.slice (some ⟨w.heap.size + 4, 0, none⟩) 1 1, rfl, fun _ => ?_⟩
    refine ⟨_, _, rfl, Nat.le_refl _, .inr ⟨w.heap.size + 4, 0, rfl, by show w.heap.size + 4 < Y5.heap.size; omega, fun j x hj => ?_⟩⟩
    obtain ⟨rfl, rfl⟩ := lst1 hj
    refine ⟨.slice (some ⟨w.heap.size + 3, 0, none⟩) 1 1, fun i u hu => by simp only [World.cell?, cY5]; simpa using hu, ⟨_, _, rfl, Nat.le_refl _, .inr ⟨w.heap.size + 3, 0, rfl, by show w.heap.size + 3 < Y5.heap.size; omega, fun k y hk => ?_⟩⟩⟩
    obtain ⟨rfl, rfl⟩ := lst1 hk
    refine ⟨.nilFunc, fun i u hu => ?_, fun h => by simp [valS] at h⟩
    have hi : i = 0 := by
      have := (List.getElem?_eq_some_iff.1 hu).1
      simp [valS] at this; exact this
    subst hi
    simp only [World.cell?, d4]
    simpa [valS, ival] using hu
  have hfs : FitS scB := fitS_of ⟨by decide, (fun m hm => by
    have e : m = ⟨[65], [fdB]⟩ := by simpa [scB] using hm
    subst e
    exact ⟨by decide, by decide, fun f hf => by
      have e : f = fdB := by simpa using hf
      subst e; decide⟩), (fun m hm => by cases hm), (fun m hm => by cases hm)⟩
  have hg : FitG 100000 1000 1 ndB := ⟨by decide, by decide, fun p hp => by
    have e : p = (1, [⟨1, 150, 0, false, [], 0, []⟩]) := by simpa [ndB] using hp
    subst e
    refine ⟨by decide, fun y hy => ?_⟩
    have e : y = ⟨1, 150, 0, false, [], 0, []⟩ := by simpa using hy
    subst e
    exact (by decide : ([] : List UInt8).length ≤ 100000)⟩
  have hr : RngG 1 ndB := ⟨by unfold Rg1; decide, fun p hp y hy => by
    have e : p = (1, [⟨1, 150, 0, false, [], 0, []⟩]) := by simpa [ndB] using hp
    subst e
    have e : y = ⟨1, 150, 0, false, [], 0, []⟩ := by simpa using hy
    subst e
    show Rg1 _
    unfold Rg1; decide⟩
  have h := encode_any (some ⟨w.heap.size + 1, 0, none⟩) none none 1 0 0 1 0 0 scB 1 0 Y5 (tabs_below hT t5) rfl rfl rfl hfs hH _ ndB hV hg hr (by decide +kernel)
  have q0 : Y3.cell? ⟨w.heap.size + 2, 0, none⟩ = some (.slice (some ⟨w.heap.size + 1, 0, none⟩) 1 1) := cell_at cY3 0 rfl
  have q1 : Y3.cell? ⟨w.heap.size + 2, 1, none⟩ = some (.slice none 0 0) := cell_at cY3 1 rfl
  have q2 : Y3.cell? ⟨w.heap.size + 2, 2, none⟩ = some (.slice none 0 0) := cell_at cY3 2 rfl
  have HY1 := Lib.hid hY1
  have HY2 := Lib.hid hY2
  have HY3 := Lib.hid hY3
  have HY4 := Lib.hid hY4
  have HY5 := Lib.hid hY5
  have HB := Lib.hid t5
  have hz3 : Y3.heap.size = w.heap.size + 3 := by omega
  have hz4 : Y4.heap.size = w.heap.size + 4 := by omega
  clear hY1 hY2 hY3 hY4 hY5 cY1 cY2 cY3 cY4 cY5 bY1 bY2 bY3 bY4 bY5 sY1 sY2 sY3 sY4 sY5 t2 t3 t4 t5 d1 d2 d3 d4 hH hV hfs hg hr hT
  go_enter Tryz.func7, Tryz.ntmps7
  go_upto_region 2 with fail
  rw [HY1.out, HY2.out, HY3.out]
  go_wp2_with fail
  rw [HY4.out, HY5.out]
  refine h.mono ?_
  rintro e W ⟨hor, hb1⟩
  have HB1 := Lib.hid (HB.out.trans (hb1.mono HB.out.size))
  rcases hor with ⟨hno, rfl⟩ | ⟨_, a, c, rfl, hbi⟩
  · exact absurd fitB hno
  have e1 : encE scB 1 ndB = 0 := by unfold encE; rw [encBB]; rfl
  have e2 : encLz scB 1 ndB = [8, 150, 1] := by unfold encLz; rw [encBB]; rfl
  rw [e1, e2]
  rw [e2] at hbi
  have hcv := run_str W a 3 c [8, 150, 1] hbi.isB
  rw [strBB] at hcv
  clear h hb1 hbi e1 e2
  go_wp2_with fail
  go_ret
  exact ⟨rfl, HB1.out⟩
end Go.Proofs.YtpnlbmobnopnoaaGreatDoor
