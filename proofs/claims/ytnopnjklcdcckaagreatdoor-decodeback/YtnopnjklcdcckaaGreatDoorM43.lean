/-
  The walks over what the laws ask first: Few.
  The walk over unicode/utf8.word of bytes: the number that the first eight of them spell.
-/
import Derived.Test.YtnopnjklcdcckaaGreatDoorM29
import Derived.Test.YtnopnjklcdcckaaGreatDoorM40
import Derived.Test.YtnopnjklcdcckaaGreatDoorM32
import Derived.Lib.ValidAsc
import Derived.Lib.EndianBits
import Derived.Deep.QuietTactic
import Derived.BigQuiet
namespace Go.Proofs.YtnopnjklcdcckaaGreatDoor
set_option linter.unusedVariables false
open Go.ChangeShapes Go.WideShapes Go.ChangeAt Go.RowKit

def FewAns (s : SC) (f : Nat) (x : Nd) (w : World) (e : Ending) (w' : World) : Prop := ∃ b, e = .returned (.bool b) ∧ (b = true → SmS s ∧ FitG 100000 10000 f x ∧ wtN f x ≤ 400) ∧ Below w.heap.size w w'
set_option maxHeartbeats 8000000 in
set_option maxRecDepth 20000 in
theorem few9_any (ma ea ta : Option Addr) (nm ne nt mc ec tc : Nat) (s : SC) (f : Nat) (x : Nd) (xa : Option Addr) (xl xc : Nat) (w : World) (hnm : s.ms.length = nm) (hne : s.es.length = ne) (hnt : s.ts.length = nt) (hbig : BigS s) (hH : HeldSc w (fun b => b < w.heap.size) (.slice ma nm mc) (.slice ea ne ec) (.slice ta nt tc) s) (hG : HeldG rawS w (fun b => b < w.heap.size) f (.slice xa xl xc) x.fields) (hfit : FitG 140737488355328 140737488355328 f x) :
    Calls Tryz.prog 13 #[.agg #[.slice ma nm mc, .slice ea ne ec, .slice ta nt tc], .agg #[.int .i64 x.kind, .int .i64 x.n, .int .u64 x.u, .bool x.b, .string (mkB x.s), .int .i64 x.type, .slice xa xl xc]] w fun e w' => FewAns s f x w e w' := by
  obtain ⟨Y, hY, hC, hb, hYs⟩ := box_new w #[.slice ma nm mc, .slice ea ne ec, .slice ta nt tc] 26
  obtain ⟨V, hV, hD, hVb, hVs⟩ := box_new Y #[.int .i64 x.kind, .int .i64 x.n, .int .u64 x.u, .bool x.b, .string (mkB x.s), .int .i64 x.type, .slice xa xl xc] 44
  rw [hYs] at hD
  have HY := Lib.hid hY
  have HV := Lib.hid hV
  have hBV := hb.trans (hVb.mono hb.size)
  have HBV := Lib.hid hBV
  have hCV := (hVb.block _ (by omega)).trans hC
  have hVl : w.heap.size + 2 ≤ V.heap.size := by omega
  have b0 : V.cell? ⟨w.heap.size, 0, none⟩ = some (.slice ma nm mc) := cell_at hCV 0 rfl
  have b1 : V.cell? ⟨w.heap.size, 1, none⟩ = some (.slice ea ne ec) := cell_at hCV 1 rfl
  have b2 : V.cell? ⟨w.heap.size, 2, none⟩ = some (.slice ta nt tc) := cell_at hCV 2 rfl
  have hH1 : HeldSc V (fun b => b < V.heap.size) (.slice ma nm mc) (.slice ea ne ec) (.slice ta nt tc) s := ⟨(HeldN.old hH.1 fun b hb => hBV.block b hb).more fun b hb => by have hb' : b < w.heap.size := hb; have := hBV.size; omega, (HeldN.old hH.2.1 fun b hb => hBV.block b hb).more fun b hb => by have hb' : b < w.heap.size := hb; have := hBV.size; omega, (RowsIn.old hH.2.2 fun b hb => hBV.block b hb).more fun b hb => by have hb' : b < w.heap.size := hb; have := hBV.size; omega⟩
  have h := smallS_any ma ea ta nm ne nt mc ec tc s V hnm hne hnt hbig hH1
  have HD := Lib.hid hD
  have HS2 : Hid (∀ W, Below w.heap.size w W → Calls Tryz.prog 26 #[.agg #[.int .i64 x.kind, .int .i64 x.n, .int .u64 x.u, .bool x.b, .string (mkB x.s), .int .i64 x.type, .slice xa xl xc]] W fun e w' => ∃ b, e = .returned (.bool b) ∧ (b = true → FitG 100000 10000 f x ∧ wtN f x ≤ 400) ∧ Below W.heap.size W w') := fun W hW => smallV_any f x (.slice xa xl xc) W hfit (HeldG.mv (fun b hb => hW.block b hb) (fun b hb => by have hb' : b < w.heap.size := hb; have := hW.size; omega) hG)
  clear hY hC hb hYs hV hD hVb hVs hBV hCV hH hH1 hG hfit hbig hnm hne hnt
  go_enter Tryz.func13, Tryz.ntmps13
  go_upto_region 1 with fail
  rw [HY.out, HV.out]
  go_wp2_with fail
  refine h.mono ?_
  rintro e W1 ⟨b, rfl, hsm, hb1⟩
  have HSM := Lib.hid hsm
  have hB1 := HBV.out.trans (hb1.mono HBV.out.size)
  have HB1 := Lib.hid hB1
  have hD1 := (hb1.block _ (by omega)).trans HD.out
  have k0 : W1.cell? ⟨w.heap.size + 1, 0, none⟩ = some (.int .i64 x.kind) := cell_at hD1 0 rfl
  have k1 : W1.cell? ⟨w.heap.size + 1, 1, none⟩ = some (.int .i64 x.n) := cell_at hD1 1 rfl
  have k2 : W1.cell? ⟨w.heap.size + 1, 2, none⟩ = some (.int .u64 x.u) := cell_at hD1 2 rfl
  have k3 : W1.cell? ⟨w.heap.size + 1, 3, none⟩ = some (.bool x.b) := cell_at hD1 3 rfl
  have k4 : W1.cell? ⟨w.heap.size + 1, 4, none⟩ = some (.string (mkB x.s)) := cell_at hD1 4 rfl
  have k5 : W1.cell? ⟨w.heap.size + 1, 5, none⟩ = some (.int .i64 x.type) := cell_at hD1 5 rfl
  have k6 : W1.cell? ⟨w.heap.size + 1, 6, none⟩ = some (.slice xa xl xc) := cell_at hD1 6 rfl
  have h2 := HS2.out W1 hB1
  clear h hsm hb1 hB1 hD1 b0 b1 b2
  cases b
  case false =>
    go_wp2_with fail
    go_ret
    exact ⟨false, rfl, (fun h => by cases h), HB1.out⟩
  have HSS := Lib.hid (HSM.out (by simp))
  go_wp2_with fail
  refine h2.mono ?_
  rintro e W2 ⟨b, rfl, hf2, hb2⟩
  have HF2 := Lib.hid hf2
  have HB2 := Lib.hid (HB1.out.trans (hb2.mono HB1.out.size))
  clear h2 hf2 hb2 k0 k1 k2 k3 k4 k5 k6
  go_wp2_with fail
  go_ret
  exact ⟨b, rfl, fun h => ⟨HSS.out, HF2.out h⟩, HB2.out⟩
end Go.Proofs.YtnopnjklcdcckaaGreatDoor
namespace Go.Proofs.YtnopnjklcdcckaaGreatDoor
set_option linter.unusedVariables false
open Go.ChangeShapes Go.WideShapes Go.ChangeAt Go.RowKit

/-- the bytes of t lie in a block -/
def CB (W : World) (g o : Nat) (t : ByteArray) : Prop := ∀ j, j < t.size → W.cell? ⟨g, o + j, none⟩ = some (.int .u8 ((t.get! j).toNat : Int))
theorem CB.at {W : World} {g o : Nat} {t : ByteArray} (h : CB W g o t) {j : Nat} (hj : j < t.size) {x : UInt8} (hx : t.get! j = x) : W.cell? ⟨g, o + j, none⟩ = some (.int .u8 (x.toNat : Int)) := by rw [← hx]; exact h j hj
theorem CB.drewN {W : World} {g o : Nat} {t : ByteArray} (h : CB W g o t) (q : Nat) : CB (W.drewN q) g o t := fun j hj => by
  have : (W.drewN q).cell? ⟨g, o + j, none⟩ = W.cell? ⟨g, o + j, none⟩ := by simp
  rw [this]; exact h j hj
set_option maxHeartbeats 8000000 in
set_option maxRecDepth 100000 in
theorem wordB_any (g o n c : Nat) (t : ByteArray) (w : World) (hn : t.size = n) (h8 : 8 ≤ n) (hC : CB w g o t) :
    Calls Tryz.prog 109 #[.slice (some ⟨g, o, none⟩) n c] w fun e w' => e = .returned (.int .u64 (Lib.leNat [t.get! 0, t.get! 1, t.get! 2, t.get! 3, t.get! 4, t.get! 5, t.get! 6, t.get! 7])) ∧ ∃ q, w' = w.drewN q := by
  obtain ⟨x0, hx0⟩ : ∃ x, t.get! 0 = x := ⟨_, rfl⟩
  obtain ⟨x1, hx1⟩ : ∃ x, t.get! 1 = x := ⟨_, rfl⟩
  obtain ⟨x2, hx2⟩ : ∃ x, t.get! 2 = x := ⟨_, rfl⟩
  obtain ⟨x3, hx3⟩ : ∃ x, t.get! 3 = x := ⟨_, rfl⟩
  obtain ⟨x4, hx4⟩ : ∃ x, t.get! 4 = x := ⟨_, rfl⟩
  obtain ⟨x5, hx5⟩ : ∃ x, t.get! 5 = x := ⟨_, rfl⟩
  obtain ⟨x6, hx6⟩ : ∃ x, t.get! 6 = x := ⟨_, rfl⟩
  obtain ⟨x7, hx7⟩ : ∃ x, t.get! 7 = x := ⟨_, rfl⟩
  have c0 : w.cell? ⟨g, o, none⟩ = some (.int .u8 (x0.toNat : Int)) := hC.at (j := 0) (by omega) hx0
  have c1 := hC.at (j := 1) (by omega) hx1
  have c2 := hC.at (j := 2) (by omega) hx2
  have c3 := hC.at (j := 3) (by omega) hx3
  have c4 := hC.at (j := 4) (by omega) hx4
  have c5 := hC.at (j := 5) (by omega) hx5
  have c6 := hC.at (j := 6) (by omega) hx6
  have c7 := hC.at (j := 7) (by omega) hx7
  have b0 := x0.toNat_lt; have b1 := x1.toNat_lt; have b2 := x2.toNat_lt; have b3 := x3.toNat_lt
  have b4 := x4.toNat_lt; have b5 := x5.toNat_lt; have b6 := x6.toNat_lt; have b7 := x7.toNat_lt
  rw [hx0, hx1, hx2, hx3, hx4, hx5, hx6, hx7]
  have hv : ((Lib.leNat [x0, x1, x2, x3, x4, x5, x6, x7] : Nat) : Int) = (x0.toNat : Int) + (x1.toNat : Int) * 256 + (x2.toNat : Int) * 65536 + (x3.toNat : Int) * 16777216 + (x4.toNat : Int) * 4294967296 + (x5.toNat : Int) * 1099511627776 + (x6.toNat : Int) * 281474976710656 + (x7.toNat : Int) * 72057594037927936 := by
    simp only [Lib.leNat]
    push_cast
    omega
  have q0 : (0 : Int) < (n : Int) := by omega
  have q1 : (1 : Int) < (n : Int) := by omega
  have q2 : (2 : Int) < (n : Int) := by omega
  have q3 : (3 : Int) < (n : Int) := by omega
  have q4 : (4 : Int) < (n : Int) := by omega
  have q5 : (5 : Int) < (n : Int) := by omega
  have q6 : (6 : Int) < (n : Int) := by omega
  have q7 : (7 : Int) < (n : Int) := by omega
  clear hC hx0 hx1 hx2 hx3 hx4 hx5 hx6 hx7 hn
  go_enter Tryz.func109, Tryz.ntmps109
  go_wp2
  go_quiet (fail)
  go_wp2
  go_ret
  refine ⟨?_, _, rfl⟩
  simp (disch := omega) only [u64_or8, u64_or16, u64_or24, u64_or32, u64_or40, u64_or48, u64_or56]
  rw [hv]
  rfl
end Go.Proofs.YtnopnjklcdcckaaGreatDoor
