/-
  For every input the law WireTakes returns true and its argument reads as before. No condition.
-/
import Derived.Test.YthpaanjphpcfkaaRows
import Derived.WalkKit
import Derived.ProofKit
import Derived.OpenShut
import Derived.ShutString
import Derived.SizedLaws
import Derived.ChangeOld
import Derived.Below
import Derived.Deep.RegionWith
import Derived.Deep.RegionLaw
import Derived.Deep.DeepCutAuto
import Derived.Deep.RegionHeldLaw
import Derived.Test.YthpaanjphpcfkaaWApp
import Derived.Test.YthpaanjphpcfkaaWTa
import Derived.Test.YthpaanjphpcfkaaFld
namespace Go.Proofs.Ythpaanjphpcfkaa.wireTakes
open Go.ChangeShapes Go.WideShapes Go.ChangeAt Go.RowKit
open Go.ChangeMaps (open_string shut_string)
set_option linter.unusedVariables false

theorem own : ownKnob Try.prog.godebug = none := by kernel_rfl
theorem laidOut : laidOutB Try.prog = true := by kernel_rfl

theorem sameB_refl (num ty n : Int) (d : List Int) : sameB num ty n num ty n d d = true := by simp [sameB]
set_option maxHeartbeats 4000000 in
theorem walk (a0 : Option Addr) (len0 cap0 : Nat) (z0 : List Int) (w : World) (w0 : ArgB w a0 len0 cap0 z0) :
    Calls Try.prog 4 #[.slice a0 len0 cap0] w fun e w' => e = .returned (.bool true) ∧ Below w.heap.size w w' := by
  have hlm : len0 ≤ 140737488351232 := by have := w0.2.1; have := w0.2.2.1; omega
  have hlc : len0 ≤ cap0 := w0.2.1
  have hcm : cap0 ≤ 140737488351232 := w0.2.2.1
  have HB0 : Hid (IsB w a0 len0 z0) := w0.isB
  have HTW : Hid (∀ W, Below w.heap.size w W → Calls Try.prog 14 #[.slice a0 len0 cap0] W fun e w' => TfAns W w' e (tf z0)) := fun W h => takeW_any a0 len0 cap0 z0 W (isB_old HB0.out h) hlc (by omega) (by omega)
  have HTR : Hid (∀ W, Below w.heap.size w W → Calls Try.prog 15 #[.slice a0 len0 cap0] W fun e w' => TfAns W w' e (tf z0)) := fun W h => takeFieldR_any a0 len0 cap0 z0 W (isB_old HB0.out h) hlc (by omega)
  clear w0
  generalize tf z0 = r at *
  obtain ⟨rnum, rty, rn, rd, rk, re⟩ := r
  have HTW2 : Hid (∀ W, Below w.heap.size w W → Calls Try.prog 14 #[.slice a0 len0 cap0] W fun e w' => ∃ a len cap, e = .returned (.tuple #[.agg #[.int .i64 rnum, .int .i64 rty, .int .u64 rn, .slice a len cap], .int .i64 rk, .int .i64 re]) ∧ NewB w' W.heap.size a len rd ∧ (a = none → len = 0 ∧ cap = 0) ∧ Below W.heap.size W w') := HTW.out
  have HTR2 : Hid (∀ W, Below w.heap.size w W → Calls Try.prog 15 #[.slice a0 len0 cap0] W fun e w' => ∃ a len cap, e = .returned (.tuple #[.agg #[.int .i64 rnum, .int .i64 rty, .int .u64 rn, .slice a len cap], .int .i64 rk, .int .i64 re]) ∧ NewB w' W.heap.size a len rd ∧ (a = none → len = 0 ∧ cap = 0) ∧ Below W.heap.size W w') := HTR.out
  have HOU : Hid (∀ (num ty n : Int) (a : Option Addr) (len cap : Nat) (W : World), Calls Try.prog 17 #[.agg #[.int .i64 num, .int .i64 ty, .int .u64 n, .slice a len cap]] W fun e w' => e = .returned (.agg #[.int .i64 num, .int .i64 ty, .int .u64 n, .slice a len cap]) ∧ Below W.heap.size W w') := ours_any
  have HSA : Hid (∀ (num ty n : Int) (a a' : Option Addr) (len cap len' cap' : Nat) (d : List Int) (W : World), IsB W a len d → IsB W a' len' d → Calls Try.prog 16 #[.agg #[.int .i64 num, .int .i64 ty, .int .u64 n, .slice a len cap], .agg #[.int .i64 num, .int .i64 ty, .int .u64 n, .slice a' len' cap']] W fun e w' => e = .returned (.bool true) ∧ Below W.heap.size W w') := by
    intro num ty n a a' len cap len' cap' d W h h'
    have := sameR_any num ty n num ty n a a' len cap len' cap' d d W h h'
    rw [sameB_refl] at this
    exact this
  clear HTW HTR HB0
  go_enter Try.func4, Try.ntmps4
  go_wp2_with fail
  refine (awake_any _).mono ?_
  rintro e W1 ⟨rfl, hb1⟩
  go_wp2_with fail
  refine (HTW2.out _ hb1).mono ?_
  rintro e W2 ⟨a2, len2, cap2, rfl, hn2, hno2, hb2⟩
  have HW2 : Hid (Below w.heap.size w W2) := hb1.trans (hb2.mono hb1.size)
  have HI2 : Hid (IsB W2 a2 len2 rd) := hn2.isB
  clear hb1 hb2 hn2 hno2
  go_wp2_with fail
  have hb3 : Below w.heap.size w (W2.alloc (.cells #[.int .i64 rnum, .int .i64 rty, .int .u64 rn, .slice a2 len2 cap2] 30)) := HW2.out.alloc HW2.out.size _
  refine (HTR2.out _ hb3).mono ?_
  rintro e W4 ⟨a4, len4, cap4, rfl, hn4, hno4, hb4⟩
  have HW4 : Hid (Below w.heap.size w W4) := hb3.trans (hb4.mono hb3.size)
  have HI4 : Hid (IsB W4 a4 len4 rd) := hn4.isB
  have HI2b : Hid (IsB W4 a2 len2 rd) := isB_old (isB_old HI2.out ((Below.refl _ _).alloc (Nat.le_refl _) _)) hb4
  have c0 : W4.cell? ⟨W2.heap.size, 0, none⟩ = some (.int .i64 rnum) := (hb4.cell (by simp)).trans (by simp)
  have c1 : W4.cell? ⟨W2.heap.size, 1, none⟩ = some (.int .i64 rty) := (hb4.cell (by simp)).trans (by simp)
  have c2 : W4.cell? ⟨W2.heap.size, 2, none⟩ = some (.int .u64 rn) := (hb4.cell (by simp)).trans (by simp)
  have c3 : W4.cell? ⟨W2.heap.size, 3, none⟩ = some (.slice a2 len2 cap2) := (hb4.cell (by simp)).trans (by simp)
  have hz4 : W2.heap.size < W4.heap.size := by have := hb4.size; simp at this; omega
  clear hb3 hb4 hn4 hno4 HI2 HW2 HTW2 HTR2
  go_wp2_with fail
  generalize hV : W4.alloc (.cells #[.int .i64 rnum, .int .i64 rty, .int .u64 rn, .slice a4 len4 cap4] 25) = V
  have hb45 : Below W4.heap.size W4 V := by rw [← hV]; exact (Below.refl _ _).alloc (Nat.le_refl _) _
  have hzV : V.heap.size = W4.heap.size + 1 := by rw [← hV]; simp
  have HVV : Hid (Below w.heap.size w V) := HW4.out.trans (hb45.mono HW4.out.size)
  have HJ2 : Hid (IsB V a2 len2 rd) := isB_old HI2b.out hb45
  have HJ4 : Hid (IsB V a4 len4 rd) := isB_old HI4.out hb45
  have hd0 : ∀ W, Below V.heap.size V W → W.cell? ⟨W2.heap.size, 0, none⟩ = some (.int .i64 rnum) := fun W h => (h.cell (show W2.heap.size < V.heap.size by omega)).trans ((hb45.cell hz4).trans c0)
  have hd1 : ∀ W, Below V.heap.size V W → W.cell? ⟨W2.heap.size, 1, none⟩ = some (.int .i64 rty) := fun W h => (h.cell (show W2.heap.size < V.heap.size by omega)).trans ((hb45.cell hz4).trans c1)
  have hd2 : ∀ W, Below V.heap.size V W → W.cell? ⟨W2.heap.size, 2, none⟩ = some (.int .u64 rn) := fun W h => (h.cell (show W2.heap.size < V.heap.size by omega)).trans ((hb45.cell hz4).trans c2)
  have hd3 : ∀ W, Below V.heap.size V W → W.cell? ⟨W2.heap.size, 3, none⟩ = some (.slice a2 len2 cap2) := fun W h => (h.cell (show W2.heap.size < V.heap.size by omega)).trans ((hb45.cell hz4).trans c3)
  have he0 : ∀ W, Below V.heap.size V W → W.cell? ⟨W4.heap.size, 0, none⟩ = some (.int .i64 rnum) := fun W h => (h.cell (show W4.heap.size < V.heap.size by omega)).trans (by rw [← hV]; simp)
  have he1 : ∀ W, Below V.heap.size V W → W.cell? ⟨W4.heap.size, 1, none⟩ = some (.int .i64 rty) := fun W h => (h.cell (show W4.heap.size < V.heap.size by omega)).trans (by rw [← hV]; simp)
  have he2 : ∀ W, Below V.heap.size V W → W.cell? ⟨W4.heap.size, 2, none⟩ = some (.int .u64 rn) := fun W h => (h.cell (show W4.heap.size < V.heap.size by omega)).trans (by rw [← hV]; simp)
  have he3 : ∀ W, Below V.heap.size V W → W.cell? ⟨W4.heap.size, 3, none⟩ = some (.slice a4 len4 cap4) := fun W h => (h.cell (show W4.heap.size < V.heap.size by omega)).trans (by rw [← hV]; simp)
  have hbd : Below V.heap.size V V.drew := (Below.refl _ _).drew
  clear hV hb45 hzV c0 c1 c2 c3 HI2b HI4 HW4
  go_region_held_law (fun W' => Below V.heap.size V W') (first | exact hbd | assumption) (first
    | (go_at_call 17; refine (HOU.out _ _ _ _ _ _ _).mono ?_; rintro e W6 ⟨rfl, hb6⟩; have hb46 : Below V.heap.size V W6 := hbd.trans (hb6.mono (by simp)))
    | (go_at_call 16; refine (HSA.out _ _ _ _ _ _ _ _ _ rd _ (isB_old HJ2.out hb46) (isB_old HJ4.out hb46)).mono ?_; rintro e W7 ⟨rfl, hb7⟩; have hb47 : Below V.heap.size V W7 := hb46.trans (hb7.mono hb46.size)))
  all_goals (go_wp2_with fail; go_ret; exact ⟨rfl, HVV.out.trans (hb47.mono HVV.out.size)⟩)

set_option maxRecDepth 100000 in
theorem lifted (os : Os) (started : os.Started) (H : Type) (enc : TypeId × Value → H) :
    ReturnsInHanded {} Try.checked os 4 .any (Rows.wireTakesSpec.pre6 enc Try.prog Try.f4 Rows.wireTakesRow.domain false) (Rows.wireTakesSpec.post enc Try.prog Try.f4 false true false false) := by
  refine returnsInHanded_of_change_sized (C := Try.checked) own started (by kernel_rfl) Try.func4
    (ChangeSpec.witness6 (enc := enc) (C := Try.checked) false ⟨#[], #[.slice none 0 0], []⟩ 8 (by kernel_rfl) (by kernel_rfl) (by kernel_rfl) (by kernel_rfl)) ?_
  intro W base args ds gs before hval0 hW hcnd hsz0 _
  have hval : ∀ (j : Nat) t v, Try.f4.params[j]? = some t → args[j]? = some v → Value.okWide Try.prog W .any base t v := hval0
  have hsz : (DataW.weightsEach Try.prog (Try.f4.params.toList ++ Rows.wireTakesSpec.plain.varTypes Try.prog) (ds ++ gs)).all (· ≤ reachBytes) = true := hsz0
  clear hsz0
  have hW' := hW
  obtain ⟨p, q, hA0, hV, rfl, hfz, hnd⟩ := hW
  have hA : DataW.TrodAll enc Try.prog W 0 (fun _ => true) true Try.f4.params.toList args.toList ds p := hA0
  rw [Try.params4] at hA hval hsz
  obtain ⟨v0, vs0, d0, ds0, p0, q0, hargs, rfl, rfl, h0, r0⟩ := trodAll_cons hA
  obtain ⟨rfl, rfl, rfl⟩ := trodAll_nil r0
  obtain rfl : args = #[v0] := by cases args; simp_all
  obtain ⟨rfl, rfl⟩ := trodVars_none hV
  have k0 := h0
  have lt0 : ∀ x ∈ p0, x.block < W.heap.size := by obtain ⟨m, hm⟩ := k0; exact DataW.trod_lt m _ _ _ hm
  obtain ⟨a0, len0, cap0, rfl⟩ := okWide_slice Try.underlying22 (hval 0 22 v0 rfl rfl)
  obtain ⟨z0, w0⟩ : ∃ zs, ArgB W a0 len0 cap0 zs := by
    obtain ⟨fuel, hf⟩ := h0
    rcases open_ints Try.underlying22 Try.underlying5 (by kernel_rfl) hf with ⟨hcs, _⟩ | ⟨x, l, c, zs, hcs, _, hl, hm, hz, hx, hcell, hwz⟩
    · simp [Value.cells] at hcs
      obtain ⟨rfl, rfl, rfl⟩ := hcs
      exact ⟨[], argB_nil _⟩
    · simp [Value.cells] at hcs
      obtain ⟨rfl, rfl, rfl⟩ := hcs
      simp only [Prod.mk.injEq] at hx
      obtain ⟨rfl, _⟩ := hx
      simp only [if_true] at hz
      have hreach : cap0 ≤ 140737488351232 := by
        have := sized_slice hsz (j := 0) (t := 22) (e := 5) rfl rfl Try.underlying22
        rw [show Try.prog.bytesOf 5 = 1 by kernel_rfl] at this
        simp only [lits, List.length_map, List.length_take, List.length_drop, reachBytes] at this
        omega
      exact ⟨zs.take len0, argB_of hl hreach hz hcell hwz⟩
  clear hA0 hval0
  refine (walk a0 len0 cap0 z0 W w0).mono fun e W' ⟨he, bel⟩ => ?_
  subst he
  exact ⟨_, rfl, _, _, _, [], _, [], hW', trodAll_mk1 (shut_bool Try.underlying4 _), (trodAll_cons_mk (Below.trod laidOut (by kernel_rfl) (of_decide_eq_true (by kernel_rfl)) k0 bel lt0) trodAll_mk0), rfl, bel.frame _, fun h => by cases h⟩

theorem over : Rows.wireTakesRow.holds Try.pinned (OpenSpec.ofChange Rows.wireTakesSpec) :=
  OpenClaim.holds_of_wide 4 Try.f4 rfl rfl rfl rfl rfl rfl rfl ⟨rfl, rfl, rfl, rfl, rfl⟩ rfl rfl rfl rfl rfl (by kernel_rfl) Try.func4 (by kernel_rfl)
    (of_decide_eq_true (by kernel_rfl)) (by unfold Func.isWrapper; first | (rw [if_pos (by decide +kernel)]; kernel_rfl) | (rw [if_neg (by decide +kernel)]; exact ⟨rfl, rfl⟩))
    (fun os started H enc _ => lifted os started H enc)

theorem proved : Rows.WireTakesSaid := over
end Go.Proofs.Ythpaanjphpcfkaa.wireTakes
namespace Go.Proofs.Ythpaanjphpcfkaa
theorem wireTakes_holds : Rows.WireTakesSaid := wireTakes.proved
end Go.Proofs.Ythpaanjphpcfkaa
