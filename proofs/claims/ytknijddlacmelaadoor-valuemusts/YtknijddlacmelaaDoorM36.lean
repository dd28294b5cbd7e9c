/-
  An assertion that fails: the panic.
  The walks over what the laws ask first: awake.
  The walk over the document's Fits, and over the law's Clean.
  The walk over the law ValueNormals.
-/
import Derived.Test.YtknijddlacmelaaDoorM35
import Derived.Test.YtknijddlacmelaaDoorM30
import Derived.Test.YtknijddlacmelaaDoorM33
import Derived.Test.YtknijddlacmelaaDoorM22
import Derived.Test.YtknijddlacmelaaDoorM25
import Derived.Test.YtknijddlacmelaaDoorM12
import Derived.Test.YtknijddlacmelaaDoorM15
import Derived.Test.YtknijddlacmelaaDoorM31
import Derived.BigQuiet
import Derived.Deep.QuietTactic
import Derived.Test.YtknijddlacmelaaDoorM10
import Derived.Test.YtknijddlacmelaaDoorM3
import Derived.Test.YtknijddlacmelaaDoorRows
import Derived.Test.YtknijddlacmelaaDoorM11
import Derived.Test.YtknijddlacmelaaDoorM18
import Derived.Test.YtknijddlacmelaaDoorM4
import Derived.Test.YtknijddlacmelaaDoorM13
import Derived.Test.YtknijddlacmelaaDoorM16
import Derived.Test.YtknijddlacmelaaDoorM14
import Derived.Test.YtknijddlacmelaaDoorM32
import Derived.Lib.AppendStr
import Derived.Lib.Zigzag
import Derived.Lib.SlBytesConst
import Derived.Laws.BytesArg
import Derived.Laws.BytesString
import Derived.Laws.Concat
import Derived.Laws.Strings
import Derived.Deep.Cut
import Derived.Deep.DeepCutAuto
import Derived.Deep.RegionHeldLaw
import Derived.Defers
import Derived.Recover
import Derived.Laws.Pointers
import Derived.Lib.IfaceEq
namespace Go.Proofs.YtknijddlacmelaaDoor
set_option linter.unusedVariables false
open Go.ChangeShapes Go.WideShapes Go.ChangeAt Go.RowKit

set_option maxRecDepth 20000 in
theorem ta_fail (U : TypeId) (u : Value) (hU : U ≠ 30) (W : World) : ∃ cs, (Instr.typeAssert (.iface U u) 34 30 false).run Tryd.prog W = .halt (.panic (.iface 15 (.pointer (some ⟨W.heap.size, 0, none⟩)))) (W.alloc (.cells cs 165)) := by
  simp [Instr.typeAssert, run_underlying Tryd.underlying30, hU, runtimePanic, newVar, elemOf, run_underlying Tryd.underlying15, goPanic, go_sem]
  exact ⟨_, rfl⟩
set_option maxRecDepth 20000 in
theorem ta_failN (W : World) : ∃ cs, (Instr.typeAssert .nilIface 34 30 false).run Tryd.prog W = .halt (.panic (.iface 15 (.pointer (some ⟨W.heap.size, 0, none⟩)))) (W.alloc (.cells cs 165)) := by
  simp [Instr.typeAssert, run_underlying Tryd.underlying30, runtimePanic, newVar, elemOf, run_underlying Tryd.underlying15, goPanic, go_sem]
  exact ⟨_, rfl⟩
end Go.Proofs.YtknijddlacmelaaDoor
namespace Go.Proofs.YtknijddlacmelaaDoor
set_option linter.unusedVariables false
open Go.ChangeShapes Go.WideShapes Go.ChangeAt Go.RowKit

theorem kindU_any (n : Int) (w : World) : Calls Tryd.prog 13 #[.int .u64 n] w fun e w' => e = .returned (.int .i64 2) ∧ w' = w := by
  go_enter Tryd.func13, Tryd.ntmps13
  go_wp2_with fail
  go_ret
  exact ⟨rfl, rfl⟩
def scA : SC := ⟨[⟨[65], []⟩], [], []⟩
def ndA : Nd := ⟨7, 0, 0, false, [], 0, []⟩
theorem formA : FormS scA := by
  refine ⟨by decide +kernel, fun i hi hr => ?_⟩
  have hno : ∀ x y, ¬ Goes scA.ms x y := by
    intro x y h
    unfold Goes at h
    obtain ⟨m, hm, f, hf, _⟩ := h
    have hx : x = 0 := by
      have := (List.getElem?_eq_some_iff.1 hm).1
      simp [scA] at this; omega
    subst hx
    have e : m = ⟨[65], []⟩ := by simpa [scA] using hm.symm
    subst e
    cases hf
  unfold Ring at hr
  cases hr with
  | single h => exact hno _ _ h
  | tail _ h => exact hno _ _ h
theorem fitA : fitP scA.ms 0 1 0 ndA = true := by decide +kernel
set_option maxHeartbeats 8000000 in
set_option maxRecDepth 20000 in
theorem awake9_any (w : World) (hT : Tabs w) : Calls Tryd.prog 4 #[] w fun e w' => e = .returned (.bool true) ∧ Below w.heap.size w w' := by
  obtain ⟨Y, hY, hC, hb, hYs⟩ := box_new w #[.string ⟨#[65]⟩, .slice none 0 0] 48
  have HY := Lib.hid hY
  have HB := Lib.hid hb
  have hH : HeldSc Y (fun b => b < Y.heap.size) (.slice (some ⟨w.heap.size, 0, none⟩) 1 1) (.slice none 0 0) (.slice none 0 0) scA := by
    refine ⟨⟨_, _, rfl, Nat.le_refl _, .inr ⟨w.heap.size, 0, rfl, by show w.heap.size < Y.heap.size; omega, fun j x hj => ?_⟩⟩, HeldN.nil _ _, RowsIn.nil _ _ _ _ _ _⟩
    have hj0 : j = 0 := by
      have := (List.getElem?_eq_some_iff.1 hj).1
      simp [scA] at this; omega
    subst hj0
    have e : x = ⟨[65], []⟩ := by simpa [scA] using hj.symm
    subst e
    exact ⟨none, 0, cell_at hC 0 rfl, cell_at hC 1 rfl, RowsIn.nil _ _ _ _ _ _⟩
  have hfs : FitS scA := fitS_of ⟨by decide, (fun m hm => by
    have e : m = ⟨[65], []⟩ := by simpa [scA] using hm
    subst e
    exact ⟨by decide, by decide, fun f hf => by cases hf⟩), (fun m hm => by cases hm), (fun m hm => by cases hm)⟩
  have h := fitsPV_any (some ⟨w.heap.size, 0, none⟩) none none 1 0 0 1 0 0 scA 0 0 Y (tabs_below hT hb) rfl rfl rfl hfs hH (.iface 30 (.agg #[.int .i64 0, .slice none 0 0, .string ⟨#[]⟩])) ndA ⟨.slice none 0 0, rfl, fun _ => ⟨rfl, _, _, rfl⟩⟩ (by show ([] : List UInt8).length ≤ 100000; decide)
  clear hY hC hb hYs hH hfs hT
  go_enter Tryd.func4, Tryd.ntmps4
  go_upto_region 1 with fail
  go_wp2_with (rw [HY.out]; refine h.mono ?_)
  rintro e W ⟨b, rfl, hbi, hb1⟩
  have eb : b = true := hbi.2 ⟨formA, by decide, by decide, fitA⟩
  subst eb
  have HB1 := Lib.hid (HB.out.trans (hb1.mono HB.out.size))
  have hk := kindU_any 5 W
  clear h hbi hb1
  go_wp2_with fail
  refine hk.mono ?_
  rintro e W2 ⟨rfl, hW⟩
  have hW := hW.symm
  subst hW
  go_wp2_with fail
  go_ret
  exact ⟨rfl, HB1.out⟩
end Go.Proofs.YtknijddlacmelaaDoor
namespace Go.Proofs.YtknijddlacmelaaDoor
set_option linter.unusedVariables false
open Go.ChangeShapes Go.WideShapes Go.ChangeAt Go.RowKit

set_option maxHeartbeats 16000000 in
set_option maxRecDepth 20000 in
theorem clean_any (f : Nat) (x : Nd) (xa : Option Addr) (xl xc : Nat) (w : World) (hfit : FitG 100000 10000 f x) (hH : HeldG rawS w (fun b => b < w.heap.size) f (.slice xa xl xc) x.fields) :
    Calls Tryd.prog 10 #[.agg #[.int .i64 x.kind, .int .i64 x.n, .int .u64 x.u, .bool x.b, .string (mkB x.s), .int .i64 x.type, .slice xa xl xc]] w fun e w' => OurAns f w x e w' := by
  obtain ⟨Y, hY, hC, hb, hYs⟩ := box_new w #[.int .i64 x.kind, .int .i64 x.n, .int .u64 x.u, .bool x.b, .string (mkB x.s), .int .i64 x.type, .slice xa xl xc] 25
  obtain ⟨V, hV, hD, hVb, hVs⟩ := box_new Y #[.int .i64 0, .int .i64 0, .int .u64 0, .bool false, .string ⟨#[]⟩, .int .i64 0, .slice none 0 0] 25
  rw [hYs] at hD
  have HY := Lib.hid hY
  have HV := Lib.hid hV
  have hBV := hb.trans (hVb.mono hb.size)
  have HBV := Lib.hid hBV
  have hCV := (hVb.block _ (by omega)).trans hC
  have HDV := Lib.hid hD
  have h := theirsN_any f x (.slice xa xl xc) V hfit (HeldG.mv (fun b hb => hBV.block b hb) (fun b hb => by have hb' : b < w.heap.size := hb; have := hBV.size; omega) hH)
  have hVl : w.heap.size + 2 ≤ V.heap.size := by omega
  have HFIT := Lib.hid hfit
  have c0 : V.cell? ⟨w.heap.size, 0, none⟩ = some (.int .i64 x.kind) := cell_at hCV 0 rfl
  have c1 : V.cell? ⟨w.heap.size, 1, none⟩ = some (.int .i64 x.n) := cell_at hCV 1 rfl
  have c2 : V.cell? ⟨w.heap.size, 2, none⟩ = some (.int .u64 x.u) := cell_at hCV 2 rfl
  have c3 : V.cell? ⟨w.heap.size, 3, none⟩ = some (.bool x.b) := cell_at hCV 3 rfl
  have c4 : V.cell? ⟨w.heap.size, 4, none⟩ = some (.string (mkB x.s)) := cell_at hCV 4 rfl
  have c5 : V.cell? ⟨w.heap.size, 5, none⟩ = some (.int .i64 x.type) := cell_at hCV 5 rfl
  have c6 : V.cell? ⟨w.heap.size, 6, none⟩ = some (.slice xa xl xc) := cell_at hCV 6 rfl
  clear hY hC hb hYs hV hD hVb hVs hBV hCV hfit hH
  go_enter Tryd.func10, Tryd.ntmps10
  go_upto_region 1 with fail
  rw [HY.out, HV.out]
  go_wp2_with fail
  refine h.mono ?_
  rintro e W1 ⟨v, rfl, hv, hb1⟩
  have HB1 := Lib.hid (HBV.out.trans (hb1.mono HBV.out.size))
  have h1s := hb1.size
  have h2 := oursN_any f x v W1 HFIT.out (hv.mv (fun _ _ => rfl) (fun b hb => hb.2))
  have HD1 : Hid (W1.heap[w.heap.size + 1]? = _) := (hb1.block _ (by omega)).trans HDV.out
  clear h hv hb1 c0 c1 c2 c3 c4 c5 c6
  go_wp2_with fail
  refine h2.mono ?_
  rintro e W2 ⟨a0, a1, a2, a3, a4, a5, sa, sl, sc, fsr, rfl, hrow, hhg, hb2⟩
  have HROW := Lib.hid hrow
  have HHG := Lib.hid hhg
  have HB2 := Lib.hid (HB1.out.trans (hb2.mono HB1.out.size))
  have hD2 := (hb2.block _ (by omega)).trans HD1.out
  have h2s := hb2.size
  obtain ⟨Q, hQ, hQc, hQo, hQs, hQb⟩ := set7_all hD2 (.int .i64 a0) (.int .i64 a1) (.int .u64 a2) (.bool a3) (.string a4) (.int .i64 a5) (.slice sa sl sc)
  have HQ := Lib.hid hQ
  have HQC := Lib.hid hQc
  have HBQ := Lib.hid (HB2.out.trans (hQb.mono (show w.heap.size ≤ w.heap.size + 1 by omega)))
  have HHQ : Hid (x.kind = 7 → HeldG clS Q (fun b => w.heap.size ≤ b ∧ b < Q.heap.size) f fsr x.fields) := by
    refine (?_ : _ → _)
    intro h7
    exact HeldG.mv (fun b hb => hQo b (by have := hb.1; omega)) (fun b hb => ⟨by have := hb.1; omega, by rw [hQs]; exact hb.2⟩) (HHG.out h7)
  have k0 : W2.cell? ⟨w.heap.size + 1, 0, none⟩ = some (.int .i64 0) := cell_at hD2 0 rfl
  have kf0 : W2.frozen? ⟨w.heap.size + 1, 0, none⟩ = false := frz_at hD2 0
  have k1 : W2.cell? ⟨w.heap.size + 1, 1, none⟩ = some (.int .i64 0) := cell_at hD2 1 rfl
  have kf1 : W2.frozen? ⟨w.heap.size + 1, 1, none⟩ = false := frz_at hD2 1
  have k2 : W2.cell? ⟨w.heap.size + 1, 2, none⟩ = some (.int .u64 0) := cell_at hD2 2 rfl
  have kf2 : W2.frozen? ⟨w.heap.size + 1, 2, none⟩ = false := frz_at hD2 2
  have k3 : W2.cell? ⟨w.heap.size + 1, 3, none⟩ = some (.bool false) := cell_at hD2 3 rfl
  have kf3 : W2.frozen? ⟨w.heap.size + 1, 3, none⟩ = false := frz_at hD2 3
  have k4 : W2.cell? ⟨w.heap.size + 1, 4, none⟩ = some (.string ⟨#[]⟩) := cell_at hD2 4 rfl
  have kf4 : W2.frozen? ⟨w.heap.size + 1, 4, none⟩ = false := frz_at hD2 4
  have k5 : W2.cell? ⟨w.heap.size + 1, 5, none⟩ = some (.int .i64 0) := cell_at hD2 5 rfl
  have kf5 : W2.frozen? ⟨w.heap.size + 1, 5, none⟩ = false := frz_at hD2 5
  have k6 : W2.cell? ⟨w.heap.size + 1, 6, none⟩ = some (.slice none 0 0) := cell_at hD2 6 rfl
  have kf6 : W2.frozen? ⟨w.heap.size + 1, 6, none⟩ = false := frz_at hD2 6
  clear h2 hrow hhg hb2 hD2 hQ hQc hQo hQs hQb
  go_wp2_with fail
  rw [HQ.out]
  have r0 := cell_at HQC.out 0 rfl
  have r1 := cell_at HQC.out 1 rfl
  have r2 := cell_at HQC.out 2 rfl
  have r3 := cell_at HQC.out 3 rfl
  have r4 := cell_at HQC.out 4 rfl
  have r5 := cell_at HQC.out 5 rfl
  have r6 := cell_at HQC.out 6 rfl
  refine bodyPost_ret (v := .agg #[.int .i64 a0, .int .i64 a1, .int .u64 a2, .bool a3, .string a4, .int .i64 a5, .slice sa sl sc]) (by simp [results, Tryd.results10, go_sem, r0, r1, r2, r3, r4, r5, r6]) rfl ?_
  exact ⟨_, _, _, _, _, _, _, _, _, fsr, rfl, HROW.out, HHQ.out, HBQ.out⟩
end Go.Proofs.YtknijddlacmelaaDoor
namespace Go.Proofs.YtknijddlacmelaaDoor
set_option linter.unusedVariables false
open Go.ChangeShapes Go.WideShapes Go.ChangeAt Go.RowKit

/-- what Ours and the document's Normal answer: a clean node -/
theorem row_cn {x : Nd} {fsr : Value} {a0 a1 a2 : Int} {a3 : Bool} {a4 : ByteArray} {a5 : Int} {sa : Option Addr} {sl sc : Nat} (h : [.int .i64 a0, .int .i64 a1, .int .u64 a2, .bool a3, .string a4, .int .i64 a5, .slice sa sl sc] = clS.row x fsr) :
    a0 = (cn x).kind ∧ a1 = (cn x).n ∧ a2 = (cn x).u ∧ a3 = (cn x).b ∧ a4 = mkB (cn x).s ∧ a5 = (cn x).type ∧ (Value.slice sa sl sc) = if x.kind = 7 then fsr else .slice none 0 0 := by
  have hr : clS.row x fsr = [.int .i64 (cn x).kind, .int .i64 (cn x).n, .int .u64 (cn x).u, .bool (cn x).b, .string (mkB (cn x).s), .int .i64 (cn x).type, if x.kind = 7 then fsr else .slice none 0 0] := rfl
  rw [hr] at h
  simp only [List.cons.injEq, Value.int.injEq, Value.bool.injEq, Value.string.injEq, true_and, and_true] at h
  exact h
end Go.Proofs.YtknijddlacmelaaDoor
