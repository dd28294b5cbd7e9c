/-
  The walks over what the laws ask first: awake and Few.
-/
import Derived.Test.YtjhohkfknjehjaaGreatDoorM31
namespace Go.Proofs.YtjhohkfknjehjaaGreatDoor
set_option linter.unusedVariables false
open Go.ChangeShapes Go.WideShapes Go.ChangeAt Go.RowKit

theorem kindU_any (n : Int) (w : World) : Calls Tryz.prog 16 #[.int .u64 n] w fun e w' => e = .returned (.int .i64 2) ∧ w' = w := by
  go_enter Tryz.func16, Tryz.ntmps16
  go_wp2_with fail
  go_ret
  exact ⟨rfl, rfl⟩
def scA : SC := ⟨[⟨[65], []⟩], [], []⟩
def ndA : Nd := ⟨7, 0, 0, false, [], 0, []⟩
theorem formA : FormS scA := by
  refine ⟨by decide +kernel, fun i hi hr => ?_⟩
  have hno : ∀ x y, ¬ Goes scA.ms x y := by
    intro x y h
    unfold Goes at h
    obtain ⟨m, hm, f, hf, _⟩ := h
    have hx : x = 0 := by
      have := (List.getElem?_eq_some_iff.1 hm).1
      simp [scA] at this; omega
    subst hx
    have e : m = ⟨[65], []⟩ := by simpa [scA] using hm.symm
    subst e
    cases hf
  unfold Ring at hr
  cases hr with
  | single h => exact hno _ _ h
  | tail _ h => exact hno _ _ h
theorem fitA : fitP scA.ms 0 1 0 ndA = true := by decide +kernel
set_option maxHeartbeats 8000000 in
set_option maxRecDepth 20000 in
theorem awake9_any (w : World) (hT : Tabs w) : Calls Tryz.prog 5 #[] w fun e w' => e = .returned (.bool true) ∧ Below w.heap.size w w' := by
  obtain ⟨Y, hY, hC, hb, hYs⟩ := box_new w #[.string ⟨#[65]⟩, .slice none 0 0] 48
  have HY := Lib.hid hY
  have HB := Lib.hid hb
  have hH : HeldSc Y (fun b => b < Y.heap.size) (.slice (some ⟨w.heap.size, 0, none⟩) 1 1) (.slice none 0 0) (.slice none 0 0) scA := by
    refine ⟨⟨_, _, rfl, Nat.le_refl _, .inr ⟨w.heap.size, 0, rfl, by show w.heap.size < Y.heap.size; omega, fun j x hj => ?_⟩⟩, HeldN.nil _ _, RowsIn.nil _ _ _ _ _ _⟩
    have hj0 : j = 0 := by
      have := (List.getElem?_eq_some_iff.1 hj).1
      simp [scA] at this; omega
    subst hj0
    have e : x = ⟨[65], []⟩ := by simpa [scA] using hj.symm
    subst e
    exact ⟨none, 0, cell_at hC 0 rfl, cell_at hC 1 rfl, RowsIn.nil _ _ _ _ _ _⟩
  have hfs : FitS scA := fitS_of ⟨by decide, (fun m hm => by
    have e : m = ⟨[65], []⟩ := by simpa [scA] using hm
    subst e
    exact ⟨by decide, by decide, fun f hf => by cases hf⟩), (fun m hm => by cases hm), (fun m hm => by cases hm)⟩
  have h := fitsPV_any (some ⟨w.heap.size, 0, none⟩) none none 1 0 0 1 0 0 scA 0 0 Y (tabs_below hT hb) rfl rfl rfl hfs hH (.iface 51 (.agg #[.int .i64 0, .slice none 0 0, .string ⟨#[]⟩])) ndA ⟨.slice none 0 0, rfl, fun _ => ⟨rfl, _, _, rfl⟩⟩ (by show ([] : List UInt8).length ≤ 100000; decide)
  clear hY hC hb hYs hH hfs hT
  go_enter Tryz.func5, Tryz.ntmps5
  go_upto_region 1 with fail
  go_wp2_with (rw [HY.out]; refine h.mono ?_)
  rintro e W ⟨b, rfl, hbi, hb1⟩
  have eb : b = true := hbi.2 ⟨formA, by decide, by decide, fitA⟩
  subst eb
  have HB1 := Lib.hid (HB.out.trans (hb1.mono HB.out.size))
  have hk := kindU_any 5 W
  clear h hbi hb1
  go_wp2_with fail
  refine hk.mono ?_
  rintro e W2 ⟨rfl, hW⟩
  have hW := hW.symm
  subst hW
  go_wp2_with fail
  go_ret
  exact ⟨rfl, HB1.out⟩
def FewAns (s : SC) (f : Nat) (x : Nd) (w : World) (e : Ending) (w' : World) : Prop := ∃ b, e = .returned (.bool b) ∧ (b = true → SmS s ∧ FitG 100000 1000 f x) ∧ Below w.heap.size w w'
set_option maxHeartbeats 8000000 in
set_option maxRecDepth 20000 in
theorem few9_any (ma ea ta : Option Addr) (nm ne nt mc ec tc : Nat) (s : SC) (f : Nat) (x : Nd) (xa : Option Addr) (xl xc : Nat) (w : World) (hnm : s.ms.length = nm) (hne : s.es.length = ne) (hnt : s.ts.length = nt) (hbig : BigS s) (hH : HeldSc w (fun b => b < w.heap.size) (.slice ma nm mc) (.slice ea ne ec) (.slice ta nt tc) s) (hG : HeldG rawS w (fun b => b < w.heap.size) f (.slice xa xl xc) x.fields) (hfit : FitG 140737488355328 140737488355328 f x) :
    Calls Tryz.prog 6 #[.agg #[.slice ma nm mc, .slice ea ne ec, .slice ta nt tc], .agg #[.int .i64 x.kind, .int .i64 x.n, .int .u64 x.u, .bool x.b, .string (mkB x.s), .int .i64 x.type, .slice xa xl xc]] w fun e w' => FewAns s f x w e w' := by
  obtain ⟨Y, hY, hC, hb, hYs⟩ := box_new w #[.slice ma nm mc, .slice ea ne ec, .slice ta nt tc] 26
  obtain ⟨V, hV, hD, hVb, hVs⟩ := box_new Y #[.int .i64 x.kind, .int .i64 x.n, .int .u64 x.u, .bool x.b, .string (mkB x.s), .int .i64 x.type, .slice xa xl xc] 30
  rw [hYs] at hD
  have HY := Lib.hid hY
  have HV := Lib.hid hV
  have hBV := hb.trans (hVb.mono hb.size)
  have HBV := Lib.hid hBV
  have hCV := (hVb.block _ (by omega)).trans hC
  have hVl : w.heap.size + 2 ≤ V.heap.size := by omega
  have b0 : V.cell? ⟨w.heap.size, 0, none⟩ = some (.slice ma nm mc) := cell_at hCV 0 rfl
  have b1 : V.cell? ⟨w.heap.size, 1, none⟩ = some (.slice ea ne ec) := cell_at hCV 1 rfl
  have b2 : V.cell? ⟨w.heap.size, 2, none⟩ = some (.slice ta nt tc) := cell_at hCV 2 rfl
  have hH1 : HeldSc V (fun b => b < V.heap.size) (.slice ma nm mc) (.slice ea ne ec) (.slice ta nt tc) s := ⟨(HeldN.old hH.1 fun b hb => hBV.block b hb).more fun b hb => by have hb' : b < w.heap.size := hb; have := hBV.size; omega, (HeldN.old hH.2.1 fun b hb => hBV.block b hb).more fun b hb => by have hb' : b < w.heap.size := hb; have := hBV.size; omega, (RowsIn.old hH.2.2 fun b hb => hBV.block b hb).more fun b hb => by have hb' : b < w.heap.size := hb; have := hBV.size; omega⟩
  have h := smallS_any ma ea ta nm ne nt mc ec tc s V hnm hne hnt hbig hH1
  have HD := Lib.hid hD
  have HS2 : Hid (∀ W, Below w.heap.size w W → Calls Tryz.prog 18 #[.agg #[.int .i64 x.kind, .int .i64 x.n, .int .u64 x.u, .bool x.b, .string (mkB x.s), .int .i64 x.type, .slice xa xl xc]] W fun e w' => ∃ b, e = .returned (.bool b) ∧ (b = true → FitG 100000 1000 f x) ∧ Below W.heap.size W w') := fun W hW => smallV_any f x (.slice xa xl xc) W hfit (HeldG.mv (fun b hb => hW.block b hb) (fun b hb => by have hb' : b < w.heap.size := hb; have := hW.size; omega) hG)
  clear hY hC hb hYs hV hD hVb hVs hBV hCV hH hH1 hG hfit hbig hnm hne hnt
  go_enter Tryz.func6, Tryz.ntmps6
  go_upto_region 1 with fail
  rw [HY.out, HV.out]
  go_wp2_with fail
  refine h.mono ?_
  rintro e W1 ⟨b, rfl, hsm, hb1⟩
  have HSM := Lib.hid hsm
  have hB1 := HBV.out.trans (hb1.mono HBV.out.size)
  have HB1 := Lib.hid hB1
  have hD1 := (hb1.block _ (by omega)).trans HD.out
  have k0 : W1.cell? ⟨w.heap.size + 1, 0, none⟩ = some (.int .i64 x.kind) := cell_at hD1 0 rfl
  have k1 : W1.cell? ⟨w.heap.size + 1, 1, none⟩ = some (.int .i64 x.n) := cell_at hD1 1 rfl
  have k2 : W1.cell? ⟨w.heap.size + 1, 2, none⟩ = some (.int .u64 x.u) := cell_at hD1 2 rfl
  have k3 : W1.cell? ⟨w.heap.size + 1, 3, none⟩ = some (.bool x.b) := cell_at hD1 3 rfl
  have k4 : W1.cell? ⟨w.heap.size + 1, 4, none⟩ = some (.string (mkB x.s)) := cell_at hD1 4 rfl
  have k5 : W1.cell? ⟨w.heap.size + 1, 5, none⟩ = some (.int .i64 x.type) := cell_at hD1 5 rfl
  have k6 : W1.cell? ⟨w.heap.size + 1, 6, none⟩ = some (.slice xa xl xc) := cell_at hD1 6 rfl
  have h2 := HS2.out W1 hB1
  clear h hsm hb1 hB1 hD1 b0 b1 b2
  cases b
  case false =>
    go_wp2_with fail
    go_ret
    exact ⟨false, rfl, (fun h => by cases h), HB1.out⟩
  have HSS := Lib.hid (HSM.out (by simp))
  go_wp2_with fail
  refine h2.mono ?_
  rintro e W2 ⟨b, rfl, hf2, hb2⟩
  have HF2 := Lib.hid hf2
  have HB2 := Lib.hid (HB1.out.trans (hb2.mono HB1.out.size))
  clear h2 hf2 hb2 k0 k1 k2 k3 k4 k5 k6
  go_wp2_with fail
  go_ret
  exact ⟨b, rfl, fun h => ⟨HSS.out, HF2.out h⟩, HB2.out⟩
end Go.Proofs.YtjhohkfknjehjaaGreatDoor
