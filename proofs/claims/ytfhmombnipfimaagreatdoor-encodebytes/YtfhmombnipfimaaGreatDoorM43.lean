/-
  The walk over the law EncodeBytes.
  Declarations that came in as an argument, of a size that a machine can hold: what their reading says. Nothing is proved of the program here.
-/
import Derived.Test.YtfhmombnipfimaaGreatDoorM42
import Derived.Test.YtfhmombnipfimaaGreatDoorM41
import Derived.Test.YtfhmombnipfimaaGreatDoorM0
import Derived.Test.YtfhmombnipfimaaGreatDoorM6
import Derived.Test.YtfhmombnipfimaaGreatDoorChecked
import Derived.OpenShut
import Derived.ProofKit
import Derived.Lib.SmallJoins
import Derived.Lib.ItoaMem
import Derived.Lib.SlicesS
import Derived.Deep.Cut
import Derived.Deep.DeepCutAuto
import Derived.BigQuiet
import Derived.Deep.QuietTactic
import Derived.Deep.RegionLaw
import Derived.Deep.RegionHeldLaw
import Derived.Deep.AppendLies
import Derived.Laws.AppendOwn
import Derived.OwnWalk
import Derived.Maps.AppendAt
import Derived.Lib.Hide
namespace Go.Proofs.YtfhmombnipfimaaGreatDoor
set_option linter.unusedVariables false
open Go.ChangeShapes Go.WideShapes Go.ChangeAt Go.RowKit

set_option maxHeartbeats 32000000 in
set_option maxRecDepth 20000 in
theorem encodeBytes_any (ma ea ta : Option Addr) (nm ne nt mc ec tc : Nat) (s : SC) (t : Int) (f : Nat) (x : Nd) (xa : Option Addr) (xl xc : Nat) (w : World) (hT : Tabs w) (hnm : s.ms.length = nm) (hne : s.es.length = ne) (hnt : s.ts.length = nt) (hbig : BigS s) (hH : HeldSc w (fun b => b < w.heap.size) (.slice ma nm mc) (.slice ea ne ec) (.slice ta nt tc) s) (hG : HeldG rawS w (fun b => b < w.heap.size) f (.slice xa xl xc) x.fields) (hfit : FitG 140737488355328 140737488355328 f x) (hrng : RngG f x) :
    Calls Tryz.prog 4 #[.agg #[.slice ma nm mc, .slice ea ne ec, .slice ta nt tc], .int .i64 t, .agg #[.int .i64 x.kind, .int .i64 x.n, .int .u64 x.u, .bool x.b, .string (mkB x.s), .int .i64 x.type, .slice xa xl xc]] w fun e w' => e = .returned (.bool true) ∧ Below w.heap.size w w' := by
  obtain ⟨Y, hY, hC, hb, hYs⟩ := box_new w #[.slice ma nm mc, .slice ea ne ec, .slice ta nt tc] 26
  obtain ⟨V, hV, hD, hVb, hVs⟩ := box_new Y #[.int .i64 x.kind, .int .i64 x.n, .int .u64 x.u, .bool x.b, .string (mkB x.s), .int .i64 x.type, .slice xa xl xc] 30
  rw [hYs] at hD
  have HY := Lib.hid hY
  have HV := Lib.hid hV
  have hBV := hb.trans (hVb.mono hb.size)
  have HBV := Lib.hid hBV
  have hCV := (hVb.block _ (by omega)).trans hC
  have hVl : w.heap.size + 2 ≤ V.heap.size := by omega
  have HWB : Hid (∀ W, Below V.heap.size V W → Below w.heap.size w W) := fun W hW => hBV.trans (hW.mono hBV.size)
  have HG : Hid (∀ W, Below w.heap.size w W → HeldG rawS W (fun b => b < W.heap.size) f (.slice xa xl xc) x.fields) := fun W hW => HeldG.mv (fun b hb => hW.block b hb) (fun b hb => by have hb' : b < w.heap.size := hb; have := hW.size; omega) hG
  have HA : Hid (∀ W, Below V.heap.size V W → Calls Tryz.prog 20 #[] W fun e w' => e = .returned (.bool true) ∧ Below V.heap.size V w') := fun W hW => (awake10_any W (tabs_below hT (HWB.out W hW))).mono fun e w' ⟨h1, h2⟩ => ⟨h1, hW.trans (h2.mono hW.size)⟩
  have HFW : Hid (∀ W, Below V.heap.size V W → Calls Tryz.prog 10 #[.agg #[.slice ma nm mc, .slice ea ne ec, .slice ta nt tc], .agg #[.int .i64 x.kind, .int .i64 x.n, .int .u64 x.u, .bool x.b, .string (mkB x.s), .int .i64 x.type, .slice xa xl xc]] W fun e w' => FewAns s f x V e w') := fun W hW => (few9_any ma ea ta nm ne nt mc ec tc s f x xa xl xc W hnm hne hnt hbig (heldSc_mv hH (HWB.out W hW)) (HG.out W (HWB.out W hW)) hfit).mono fun e w' ⟨b, h1, h2, h3⟩ => ⟨b, h1, h2, hW.trans (h3.mono hW.size)⟩
  have HTH : Hid (FitG 100000 10000 f x → ∀ W, Below V.heap.size V W → Calls Tryz.prog 12 #[.agg #[.int .i64 x.kind, .int .i64 x.n, .int .u64 x.u, .bool x.b, .string (mkB x.s), .int .i64 x.type, .slice xa xl xc]] W fun e w' => TheirAns f W x e w') := fun hf W hW => theirsN_any f x (.slice xa xl xc) W hf (HG.out W (HWB.out W hW))
  have HEN : Hid (SmS s → FitG 100000 10000 f x → wtN f x ≤ 400 → ∀ (W : World) (v : Value), Below V.heap.size V W → HeldV W (fun b => b < W.heap.size) f v x → Calls Tryz.prog 21 #[.agg #[.slice ma nm mc, .slice ea ne ec, .slice ta nt tc], .int .i64 t, v] W fun e w' => EnU s f t x V W e w') := by
    refine (?_ : _ → _ → _ → ∀ (W : World) (v : Value), _ → _ → _)
    intro hs hf hwt W v hW hv
    exact (encode_any ma ea ta nm ne nt mc ec tc s f t W (tabs_below hT (HWB.out W hW)) hnm hne hnt (fitS_of hs) (heldSc_mv hH (HWB.out W hW)) v x hv hf hrng (by have := bnd_wt f x; omega)).mono fun e w' h => enU_of h hW
  have HSZ : Hid (SmS s → FitG 100000 10000 f x → wtN f x ≤ 400 → ∀ (W : World) (v : Value), Below V.heap.size V W → HeldV W (fun b => b < W.heap.size) f v x → Calls Tryz.prog 23 #[.agg #[.slice ma nm mc, .slice ea ne ec, .slice ta nt tc], .int .i64 t, v] W fun e w' => SzAns s f t x W e w') := by
    refine (?_ : _ → _ → _ → ∀ (W : World) (v : Value), _ → _ → _)
    intro hs hf hwt W v hW hv
    exact size10_any ma ea ta nm ne nt mc ec tc s f t W (tabs_below hT (HWB.out W hW)) hnm hne hnt (fitS_of hs) (heldSc_mv hH (HWB.out W hW)) v x hv hf hrng (by have := bnd_wt f x; omega)
  have HCL : Hid (FitG 100000 10000 f x → ∀ W, Below V.heap.size V W → Calls Tryz.prog 14 #[.agg #[.int .i64 x.kind, .int .i64 x.n, .int .u64 x.u, .bool x.b, .string (mkB x.s), .int .i64 x.type, .slice xa xl xc]] W fun e w' => OurAns f W x e w') := fun hf W hW => clean_any f x xa xl xc W hf (HG.out W (HWB.out W hW))
  have HER : Hid (SmS s → FitG 100000 10000 f x → wtN f x ≤ 400 → ∀ (W : World) (r0 r1 r2 : Int) (r3 : Bool) (r4 : ByteArray) (r5 : Int) (ra : Option Addr) (rl rc : Nat) (fsr : Value), Below V.heap.size V W → [.int .i64 r0, .int .i64 r1, .int .u64 r2, .bool r3, .string r4, .int .i64 r5, .slice ra rl rc] = clS.row x fsr → (x.kind = 7 → HeldG clS W (fun b => b < W.heap.size) f fsr x.fields) → (Calls Tryz.prog 22 #[.agg #[.slice ma nm mc, .slice ea ne ec, .slice ta nt tc], .int .i64 t, .agg #[.int .i64 r0, .int .i64 r1, .int .u64 r2, .bool r3, .string r4, .int .i64 r5, .slice ra rl rc]] W fun e w' => EnU s f t x V W e w') ∧ Calls Tryz.prog 24 #[.agg #[.slice ma nm mc, .slice ea ne ec, .slice ta nt tc], .int .i64 t, .agg #[.int .i64 r0, .int .i64 r1, .int .u64 r2, .bool r3, .string r4, .int .i64 r5, .slice ra rl rc]] W fun e w' => SzAns s f t x W e w') := by
    refine (?_ : _ → _ → _ → ∀ (W : World) (r0 r1 r2 : Int) (r3 : Bool) (r4 : ByteArray) (r5 : Int) (ra : Option Addr) (rl rc : Nat) (fsr : Value), _ → _ → _ → _)
    intro hs hf hwt W r0 r1 r2 r3 r4 r5 ra rl rc fsr hW hrow hh
    have hbn : bndN f x ≤ 1000000000 := by have := bnd_wt f x; omega
    have hr : clS.row x fsr = [.int .i64 (cn x).kind, .int .i64 (cn x).n, .int .u64 (cn x).u, .bool (cn x).b, .string (mkB (cn x).s), .int .i64 (cn x).type, if x.kind = 7 then fsr else .slice none 0 0] := rfl
    rw [hr] at hrow
    simp only [List.cons.injEq, Value.int.injEq, Value.bool.injEq, Value.string.injEq, true_and, and_true] at hrow
    obtain ⟨rfl, rfl, rfl, rfl, rfl, rfl, h7⟩ := hrow
    have hV2 : x.kind = 7 → HeldG clS W (fun b => b < W.heap.size) f (.slice ra rl rc) x.fields := fun hk => by
      rw [if_pos hk] at h7
      rw [h7]
      exact hh hk
    exact ⟨(encodeR_any ma ea ta nm ne nt mc ec tc s f t W (tabs_below hT (HWB.out W hW)) hnm hne hnt (fitS_of hs) (heldSc_mv hH (HWB.out W hW)) x (cn x) ra rl rc rfl hV2 hf hrng hbn).mono fun e w' h => enU_of h hW, sizeR10_any ma ea ta nm ne nt mc ec tc s f t W (tabs_below hT (HWB.out W hW)) hnm hne hnt (fitS_of hs) (heldSc_mv hH (HWB.out W hW)) x (cn x) ra rl rc rfl hV2 hf hrng hbn⟩
  have s0 : ∀ W, Below V.heap.size V W → W.cell? ⟨w.heap.size, 0, none⟩ = some (.slice ma nm mc) := fun W hW => (hW.cell (by simp; omega)).trans (cell_at hCV 0 rfl)
  have s1 : ∀ W, Below V.heap.size V W → W.cell? ⟨w.heap.size, 1, none⟩ = some (.slice ea ne ec) := fun W hW => (hW.cell (by simp; omega)).trans (cell_at hCV 1 rfl)
  have s2 : ∀ W, Below V.heap.size V W → W.cell? ⟨w.heap.size, 2, none⟩ = some (.slice ta nt tc) := fun W hW => (hW.cell (by simp; omega)).trans (cell_at hCV 2 rfl)
  have n0 : ∀ W, Below V.heap.size V W → W.cell? ⟨w.heap.size + 1, 0, none⟩ = some (.int .i64 x.kind) := fun W hW => (hW.cell (by simp; omega)).trans (cell_at hD 0 rfl)
  have n1 : ∀ W, Below V.heap.size V W → W.cell? ⟨w.heap.size + 1, 1, none⟩ = some (.int .i64 x.n) := fun W hW => (hW.cell (by simp; omega)).trans (cell_at hD 1 rfl)
  have n2 : ∀ W, Below V.heap.size V W → W.cell? ⟨w.heap.size + 1, 2, none⟩ = some (.int .u64 x.u) := fun W hW => (hW.cell (by simp; omega)).trans (cell_at hD 2 rfl)
  have n3 : ∀ W, Below V.heap.size V W → W.cell? ⟨w.heap.size + 1, 3, none⟩ = some (.bool x.b) := fun W hW => (hW.cell (by simp; omega)).trans (cell_at hD 3 rfl)
  have n4 : ∀ W, Below V.heap.size V W → W.cell? ⟨w.heap.size + 1, 4, none⟩ = some (.string (mkB x.s)) := fun W hW => (hW.cell (by simp; omega)).trans (cell_at hD 4 rfl)
  have n5 : ∀ W, Below V.heap.size V W → W.cell? ⟨w.heap.size + 1, 5, none⟩ = some (.int .i64 x.type) := fun W hW => (hW.cell (by simp; omega)).trans (cell_at hD 5 rfl)
  have n6 : ∀ W, Below V.heap.size V W → W.cell? ⟨w.heap.size + 1, 6, none⟩ = some (.slice xa xl xc) := fun W hW => (hW.cell (by simp; omega)).trans (cell_at hD 6 rfl)
  have hS0 : Below V.heap.size V V := Below.refl _ _
  clear hY hC hb hYs hV hD hVb hVs hBV hCV hH hG hfit hbig hnm hne hnt hT hrng
  go_enter Tryz.func4, Tryz.ntmps4
  go_upto_region 1 with fail
  rw [HY.out, HV.out]
  go_wp2_with fail
  refine (HA.out _ hS0).mono ?_
  rintro e W1 ⟨rfl, hS1⟩
  clear hS0
  have b0 := s0 W1 hS1
  have b1 := s1 W1 hS1
  have b2 := s2 W1 hS1
  have k0 := n0 W1 hS1
  have k1 := n1 W1 hS1
  have k2 := n2 W1 hS1
  have k3 := n3 W1 hS1
  have k4 := n4 W1 hS1
  have k5 := n5 W1 hS1
  have k6 := n6 W1 hS1
  go_wp2_with fail
  refine (HFW.out _ hS1).mono ?_
  rintro e W2 ⟨b, rfl, hsm, hS0⟩
  have HSM := Lib.hid hsm
  clear hS1 hsm b0 b1 b2 k0 k1 k2 k3 k4 k5 k6
  cases b
  case false =>
    go_wp2_with fail
    refine (HA.out _ hS0).mono ?_
    rintro e W3 ⟨rfl, hS1⟩
    have HE := Lib.hid (HWB.out _ hS1)
    go_wp2_with fail
    go_ret
    exact ⟨rfl, HE.out⟩
  obtain ⟨hss, hff, hwt⟩ := HSM.out (by simp)
  have HSS := Lib.hid hss
  have HTH2 := Lib.hid (HTH.out hff)
  have HCL2 := Lib.hid (HCL.out hff)
  have HEN2 := Lib.hid (HEN.out hss hff hwt)
  have HSZ2 := Lib.hid (HSZ.out hss hff hwt)
  have HER2 := Lib.hid (HER.out hss hff hwt)
  clear HTH HCL HEN HSZ HER hss hff hwt HSM HA HFW
  go_upto_region 3 with fail
  have hS1 : Below V.heap.size V W2.drew := hS0.drew
  clear hS0
  have hS0 := hS1
  clear hS1
  refine wp_region_held_drew (S := fun W => Below V.heap.size V W) (by kernel_rfl) hS0 (fun _ => ?_)
  refine T_on 0 (.agg #[.slice ma nm mc, .slice ea ne ec, .slice ta nt tc]) rfl (by kernel_rfl) (fun _ _ _ h => h) hS0 (fun W hW => by have c0 := s0 W hW; have c1 := s1 W hW; have c2 := s2 W hW; go_simp) ?_
  refine T_on 1 (.int .i64 t) rfl (by kernel_rfl) (fun _ _ _ h => h) hS0 (fun W hW => by go_simp) ?_
  refine T_on 2 (.agg #[.int .i64 x.kind, .int .i64 x.n, .int .u64 x.u, .bool x.b, .string (mkB x.s), .int .i64 x.type, .slice xa xl xc]) rfl (by kernel_rfl) (fun _ _ _ h => h) hS0 (fun W hW => by have c0 := n0 W hW; have c1 := n1 W hW; have c2 := n2 W hW; have c3 := n3 W hW; have c4 := n4 W hW; have c5 := n5 W hW; have c6 := n6 W hW; go_simp) ?_
  refine T_call 3 (by kernel_rfl) rfl (fun K hK => ?_)
  go_simp
  refine (HTH2.out _ hS0).mono ?_
  rintro e U1 ⟨v1, rfl, hv1, hb1⟩
  have hS1 := hS0.trans (hb1.mono hS0.size)
  have HVv1 : Hid (HeldV U1 (fun b => b < U1.heap.size) f v1 x) := hv1.mv (fun _ _ => rfl) (fun b hb => hb.2)
  have HLU1 := Lib.hid hb1
  clear hv1 hb1
  clear hS0
  have hS0 := hS1
  clear hS1
  dsimp only
  refine hK.out _ _ hS0 (fun _ => ?_)
  clear hK K
  refine T_call 4 (by kernel_rfl) rfl (fun K hK => ?_)
  go_simp
  refine (HEN2.out _ _ hS0 HVv1.out).mono ?_
  rintro e U2 ⟨ab, zb, cb, eb, rfl, hbi, hsp, hS1, _⟩
  have HSP := Lib.hid hsp
  have HBI := Lib.hid hbi
  clear hsp hbi
  clear hS0
  have hS0 := hS1
  clear hS1
  dsimp only
  refine hK.out _ _ hS0 (fun _ => ?_)
  clear hK K
  refine T_on 5 (.tuple #[.slice ab zb.length cb, .int .i64 eb]) rfl (by kernel_rfl) (fun _ _ _ h => h) hS0 (fun W hW => by go_simp) ?_
  refine T_on 6 (.slice ab zb.length cb) rfl (by kernel_rfl) (fun _ _ _ h => h) hS0 (fun W hW => by go_simp) ?_
  refine T_on 7 (.int .i64 eb) rfl (by kernel_rfl) (fun _ _ _ h => h) hS0 (fun W hW => by go_simp) ?_
  refine T_on 8 (.slice ab zb.length cb) rfl (by kernel_rfl) (fun _ _ _ h => h) hS0 (fun W hW => by go_simp) ?_
  refine T_on 9 (.int .i64 eb) rfl (by kernel_rfl) (fun _ _ _ h => h) hS0 (fun W hW => by go_simp) ?_
  refine wpAnyH_done (by kernel_rfl) ?_ _
  go_simp
  go_upto_region 4 with fail
  have hS1 : Below V.heap.size V U2.drew := hS0.drew
  clear hS0
  have hS0 := hS1
  clear hS1
  refine wp_region_held_drew (S := fun W => Below V.heap.size V W) (by kernel_rfl) hS0 (fun _ => ?_)
  refine T_on 0 (.agg #[.slice ma nm mc, .slice ea ne ec, .slice ta nt tc]) rfl (by kernel_rfl) (fun _ _ _ h => h) hS0 (fun W hW => by have c0 := s0 W hW; have c1 := s1 W hW; have c2 := s2 W hW; go_simp) ?_
  refine T_on 1 (.int .i64 t) rfl (by kernel_rfl) (fun _ _ _ h => h) hS0 (fun W hW => by go_simp) ?_
  refine T_on 2 (.agg #[.int .i64 x.kind, .int .i64 x.n, .int .u64 x.u, .bool x.b, .string (mkB x.s), .int .i64 x.type, .slice xa xl xc]) rfl (by kernel_rfl) (fun _ _ _ h => h) hS0 (fun W hW => by have c0 := n0 W hW; have c1 := n1 W hW; have c2 := n2 W hW; have c3 := n3 W hW; have c4 := n4 W hW; have c5 := n5 W hW; have c6 := n6 W hW; go_simp) ?_
  refine T_call 3 (by kernel_rfl) rfl (fun K hK => ?_)
  go_simp
  refine (HCL2.out _ hS0).mono ?_
  rintro e U3 ⟨a0, a1, a2, a3, a4, a5, aa, al, ac, af, rfl, arow, ahg, hb3⟩
  have hS1 := hS0.trans (hb3.mono hS0.size)
  have HERa := Lib.hid (HER2.out U3 a0 a1 a2 a3 a4 a5 aa al ac af hS1 arow (fun hk => HeldG.mv (fun _ _ => rfl) (fun b hb => hb.2) (ahg hk)))
  have HLU3 := Lib.hid hb3
  clear arow ahg hb3
  clear hS0
  have hS0 := hS1
  clear hS1
  dsimp only
  refine hK.out _ _ hS0 (fun _ => ?_)
  clear hK K
  refine T_call 4 (by kernel_rfl) rfl (fun K hK => ?_)
  go_simp
  refine HERa.out.1.mono ?_
  rintro e U4 ⟨ad, zc, cd, ec', rfl, hbi, hsp, hS1, hb4⟩
  have HSQ := Lib.hid hsp
  have HBJ := Lib.hid hbi
  have HLU4 := Lib.hid hb4
  clear hsp hbi hb4
  clear hS0
  have hS0 := hS1
  clear hS1
  dsimp only
  refine hK.out _ _ hS0 (fun _ => ?_)
  clear hK K
  refine T_on 5 (.tuple #[.slice ad zc.length cd, .int .i64 ec']) rfl (by kernel_rfl) (fun _ _ _ h => h) hS0 (fun W hW => by go_simp) ?_
  refine T_on 6 (.slice ad zc.length cd) rfl (by kernel_rfl) (fun _ _ _ h => h) hS0 (fun W hW => by go_simp) ?_
  refine T_on 7 (.int .i64 ec') rfl (by kernel_rfl) (fun _ _ _ h => h) hS0 (fun W hW => by go_simp) ?_
  refine T_on 8 (.slice ad zc.length cd) rfl (by kernel_rfl) (fun _ _ _ h => h) hS0 (fun W hW => by go_simp) ?_
  refine T_on 9 (.int .i64 ec') rfl (by kernel_rfl) (fun _ _ _ h => h) hS0 (fun W hW => by go_simp) ?_
  refine wpAnyH_done (by kernel_rfl) ?_ _
  go_simp
  have HB24 : Hid (Below U2.heap.size U2 U4) := ((Below.refl _ U2).drew.trans HLU3.out).trans (HLU4.out.mono (by have := HLU3.out.size; simpa using this))
  have HBI4 : Hid (BIn U4 (fun b => b < U4.heap.size) ab cb zb) := HBI.out.mv (fun b hb => HB24.out.block b hb) (fun b hb => by have hb' : b < U2.heap.size := hb; have := HB24.out.size; omega)
  obtain ⟨hz, he⟩ : zc = zb ∧ ec' = eb := by
    rcases HSP.out with ⟨h1, h2, h3⟩ | ⟨h1, h2, h3⟩ <;> rcases HSQ.out with ⟨g1, g2, g3⟩ | ⟨g1, g2, g3⟩
    · exact ⟨g2.trans h2.symm, g3.trans h3.symm⟩
    · exact absurd g1 h1
    · exact absurd h1 g1
    · exact ⟨g2.trans h2.symm, g3.trans h3.symm⟩
  subst hz he
  have HC1 : Hid (∀ W, Below U4.heap.size U4 W → (convert 46 9 (.slice ab zc.length cb)).run Tryz.prog W = .ok (.string (strOfNums zc)) W) := fun W hW => run_str W ab zc.length cb zc (isB_old HBI4.out.isB hW)
  have HC2 : Hid (∀ W, Below U4.heap.size U4 W → (convert 46 9 (.slice ad zc.length cd)).run Tryz.prog W = .ok (.string (strOfNums zc)) W) := fun W hW => run_str W ad zc.length cd zc (isB_old HBJ.out.isB hW)
  generalize strOfNums zc = st at HC1 HC2
  have HVU4 := Lib.hid hS0
  go_upto_region 5 with fail
  have hS1 : Below V.heap.size V U4.drew ∧ Below U4.heap.size U4 U4.drew := ⟨hS0.drew, (Below.refl _ _).drew⟩
  clear hS0
  have hS0 := hS1
  clear hS1 HSP HSQ HBI HBJ HBI4
  have c1 := fun W (hW : Below V.heap.size V W ∧ Below U4.heap.size U4 W) => HC1.out W hW.2
  have c2 := fun W (hW : Below V.heap.size V W ∧ Below U4.heap.size U4 W) => HC2.out W hW.2
  refine wp_region_held_drew (S := fun W => Below V.heap.size V W ∧ Below U4.heap.size U4 W) (by kernel_rfl) hS0 (fun _ => ?_)
  refine T_on 0 (.slice ab zc.length cb) rfl (by kernel_rfl) (fun _ _ _ h => h) hS0 (fun W hW => by go_simp) ?_
  refine T_on 1 (.string st) rfl (by kernel_rfl) (fun _ _ _ h => h) hS0 (fun W hW => by have d1 := c1 W hW; go_simp) ?_
  refine T_on 2 (.slice ad zc.length cd) rfl (by kernel_rfl) (fun _ _ _ h => h) hS0 (fun W hW => by go_simp) ?_
  refine T_on 3 (.string st) rfl (by kernel_rfl) (fun _ _ _ h => h) hS0 (fun W hW => by have d1 := c2 W hW; go_simp) ?_
  refine T_on 4 (.bool true) rfl (by kernel_rfl) (fun _ _ _ h => h) hS0 (fun W hW => by go_simp) ?_
  refine T_on 5 (.bool true) rfl (by kernel_rfl) (fun _ _ _ h => h) hS0 (fun W hW => by go_simp) ?_
  refine T_on 6 (.int .i64 ec') rfl (by kernel_rfl) (fun _ _ _ h => h) hS0 (fun W hW => by go_simp) ?_
  refine T_on 7 (.int .i64 ec') rfl (by kernel_rfl) (fun _ _ _ h => h) hS0 (fun W hW => by go_simp) ?_
  refine T_on 8 (.bool true) rfl (by kernel_rfl) (fun _ _ _ h => h) hS0 (fun W hW => by go_simp) ?_
  refine T_on 9 (.bool true) rfl (by kernel_rfl) (fun _ _ _ h => h) hS0 (fun W hW => by go_simp) ?_
  refine T_on 10 (.bool true) rfl (by kernel_rfl) (fun _ _ _ h => h) hS0 (fun W hW => by go_simp) ?_
  refine T_on 11 (.agg #[.slice ma nm mc, .slice ea ne ec, .slice ta nt tc]) rfl (by kernel_rfl) (fun _ _ _ h => h) hS0 (fun W hW => by have d0 := s0 W hW.1; have d1 := s1 W hW.1; have d2 := s2 W hW.1; go_simp) ?_
  refine T_on 12 (.int .i64 t) rfl (by kernel_rfl) (fun _ _ _ h => h) hS0 (fun W hW => by go_simp) ?_
  refine T_on 13 (.agg #[.int .i64 x.kind, .int .i64 x.n, .int .u64 x.u, .bool x.b, .string (mkB x.s), .int .i64 x.type, .slice xa xl xc]) rfl (by kernel_rfl) (fun _ _ _ h => h) hS0 (fun W hW => by have d0 := n0 W hW.1; have d1 := n1 W hW.1; have d2 := n2 W hW.1; have d3 := n3 W hW.1; have d4 := n4 W hW.1; have d5 := n5 W hW.1; have d6 := n6 W hW.1; go_simp) ?_
  refine T_on 16 (.agg #[.slice ma nm mc, .slice ea ne ec, .slice ta nt tc]) rfl (by kernel_rfl) (fun _ _ _ h => h) hS0 (fun W hW => by have d0 := s0 W hW.1; have d1 := s1 W hW.1; have d2 := s2 W hW.1; go_simp) ?_
  refine T_on 17 (.int .i64 t) rfl (by kernel_rfl) (fun _ _ _ h => h) hS0 (fun W hW => by go_simp) ?_
  refine T_on 18 (.agg #[.int .i64 x.kind, .int .i64 x.n, .int .u64 x.u, .bool x.b, .string (mkB x.s), .int .i64 x.type, .slice xa xl xc]) rfl (by kernel_rfl) (fun _ _ _ h => h) hS0 (fun W hW => by have d0 := n0 W hW.1; have d1 := n1 W hW.1; have d2 := n2 W hW.1; have d3 := n3 W hW.1; have d4 := n4 W hW.1; have d5 := n5 W hW.1; have d6 := n6 W hW.1; go_simp) ?_
  refine T_call 14 (by kernel_rfl) rfl (fun K hK => ?_)
  go_simp
  refine (HTH2.out _ hS0.1).mono ?_
  rintro e U5 ⟨v5, rfl, hv1, hb1⟩
  have hS1 : Below V.heap.size V U5 ∧ Below U4.heap.size U4 U5 := ⟨hS0.1.trans (hb1.mono hS0.1.size), hS0.2.trans (hb1.mono hS0.2.size)⟩
  have HVv5 : Hid (HeldV U5 (fun b => b < U5.heap.size) f v5 x) := hv1.mv (fun _ _ => rfl) (fun b hb => hb.2)
  clear hv1 hb1
  clear hS0
  have hS0 := hS1
  clear hS1
  dsimp only
  refine hK.out _ _ hS0 (fun _ => ?_)
  clear hK K
  refine T_call 15 (by kernel_rfl) rfl (fun K hK => ?_)
  go_simp
  refine (HSZ2.out _ _ hS0.1 HVv5.out).mono ?_
  rintro e U6 ⟨hor, hb1⟩
  have hS1 : Below V.heap.size V U6 ∧ Below U4.heap.size U4 U6 := ⟨hS0.1.trans (hb1.mono hS0.1.size), hS0.2.trans (hb1.mono hS0.2.size)⟩
  obtain ⟨L, rfl, hL⟩ : ∃ L : Int, e = .returned (.int .i64 L) ∧ ((¬ FitX s f t x ∧ L = 0) ∨ (FitX s f t x ∧ L = ((encB s f x).length : Int))) := by
    rcases hor with ⟨h1, h2⟩ | ⟨h1, h2⟩
    · exact ⟨0, h2, .inl ⟨h1, rfl⟩⟩
    · exact ⟨_, h2, .inr ⟨h1, rfl⟩⟩
  have HLL := Lib.hid hL
  clear hor hb1 hL
  clear hS0
  have hS0 := hS1
  clear hS1
  dsimp only
  refine hK.out _ _ hS0 (fun _ => ?_)
  clear hK K
  refine T_call 19 (by kernel_rfl) rfl (fun K hK => ?_)
  go_simp
  refine (HCL2.out _ hS0.1).mono ?_
  rintro e U7 ⟨q0, q1, q2, q3, q4, q5, qa, ql, qc, qf, rfl, qrow, qhg, hb3⟩
  have hS1 : Below V.heap.size V U7 ∧ Below U4.heap.size U4 U7 := ⟨hS0.1.trans (hb3.mono hS0.1.size), hS0.2.trans (hb3.mono hS0.2.size)⟩
  have HERq := Lib.hid (HER2.out U7 q0 q1 q2 q3 q4 q5 qa ql qc qf hS1.1 qrow (fun hk => HeldG.mv (fun _ _ => rfl) (fun b hb => hb.2) (qhg hk)))
  clear qrow qhg hb3
  clear hS0
  have hS0 := hS1
  clear hS1
  dsimp only
  refine hK.out _ _ hS0 (fun _ => ?_)
  clear hK K
  refine T_call 20 (by kernel_rfl) rfl (fun K hK => ?_)
  go_simp
  refine HERq.out.2.mono ?_
  rintro e U8 ⟨hor, hb1⟩
  have hS1 : Below V.heap.size V U8 ∧ Below U4.heap.size U4 U8 := ⟨hS0.1.trans (hb1.mono hS0.1.size), hS0.2.trans (hb1.mono hS0.2.size)⟩
  obtain rfl : e = .returned (.int .i64 L) := by
    rcases hor with ⟨h1, h2⟩ | ⟨h1, h2⟩ <;> rcases HLL.out with ⟨g1, g2⟩ | ⟨g1, g2⟩
    · rw [h2, g2]
    · exact absurd g1 h1
    · exact absurd h1 g1
    · rw [h2, g2]
  clear hor hb1
  clear hS0
  have hS0 := hS1
  clear hS1
  dsimp only
  refine hK.out _ _ hS0 (fun _ => ?_)
  clear hK K
  refine T_on 21 (.bool true) rfl (by kernel_rfl) (fun _ _ _ h => h) hS0 (fun W hW => by go_simp) ?_
  refine T_on 22 (.bool true) rfl (by kernel_rfl) (fun _ _ _ h => h) hS0 (fun W hW => by go_simp) ?_
  refine T_on 23 (.bool true) rfl (by kernel_rfl) (fun _ _ _ h => h) hS0 (fun W hW => by go_simp) ?_
  refine wpAnyH_done (by kernel_rfl) ?_ _
  go_simp
  have HE := Lib.hid (HWB.out _ hS0.1)
  go_wp2_with fail
  go_ret
  exact ⟨rfl, HE.out⟩
end Go.Proofs.YtfhmombnipfimaaGreatDoor
namespace Go.Proofs.YtfhmombnipfimaaGreatDoor
set_option linter.unusedVariables false
open Go.ChangeShapes Go.WideShapes Go.ChangeAt Go.RowKit Go.Joins

/-- no text and no list of it is too long -/
def Wok2 {H : Type} (d : DataW H) (t : TypeId) : Prop := ∀ n ∈ DataW.weights Tryz.prog t d, n ≤ 140737488351232
theorem wok_all {H : Type} {e : TypeId} : ∀ {l : List (DataW H)} {d : DataW H}, d ∈ l → (∀ n ∈ DataW.weightsAll Tryz.prog e l, n ≤ 140737488351232) → Wok2 d e
  | x :: r, d, hd, h => by
    rw [DataW.weightsAll] at h
    rcases List.mem_cons.1 hd with rfl | hd
    · exact fun n hn => h n (List.mem_append_left _ hn)
    · exact wok_all hd (fun n hn => h n (List.mem_append_right _ hn))
theorem wok_slice {H : Type} {t e : TypeId} {elems spare : List (DataW H)} (ht : Tryz.prog.underlying t = some (.slice e)) (h : Wok2 (.slice elems spare) t) :
    (elems.length + spare.length) * Tryz.prog.bytesOf e ≤ 140737488351232 ∧ ∀ d ∈ elems, Wok2 d e := by
  unfold Wok2 at h
  rw [DataW.weights, ht] at h
  simp only at h
  refine ⟨h _ List.mem_cons_self, fun d hd => wok_all hd fun n hn => h n (List.mem_cons_of_mem _ (List.mem_append_left _ hn))⟩
theorem wok_string {H : Type} {t : TypeId} {l : List UInt8} (h : Wok2 (H := H) (.lit (.string l)) t) : l.length ≤ 140737488351232 := h _ (by rw [DataW.weights]; exact List.mem_singleton.2 rfl)
theorem wok_each {H : Type} : ∀ {ts : List TypeId} {l : List (DataW H)}, (∀ n ∈ DataW.weightsEach Tryz.prog ts l, n ≤ 140737488351232) → ∀ (i : Nat) (t : TypeId) (d : DataW H), ts[i]? = some t → l[i]? = some d → Wok2 d t
  | t0 :: ts, d0 :: l, h, 0, t, d, h1, h2 => by
    have e1 : t0 = t := by simpa using h1
    have e2 : d0 = d := by simpa using h2
    subst e1 e2
    rw [DataW.weightsEach] at h
    exact fun n hn => h n (List.mem_append_left _ hn)
  | t0 :: ts, d0 :: l, h, i + 1, t, d, h1, h2 => by
    rw [DataW.weightsEach] at h
    exact wok_each (ts := ts) (l := l) (fun n hn => h n (List.mem_append_right _ hn)) i t d (by simpa using h1) (by simpa using h2)
  | [], l, h, i, t, d, h1, h2 => by simp at h1
  | t0 :: ts, [], h, i, t, d, h1, h2 => by simp at h2
theorem wok_struct {H : Type} {t : TypeId} {fs : Array Field} {parts : List (DataW H)} (ht : Tryz.prog.underlying t = some (.struct fs)) (h : Wok2 (.agg parts) t) (i : Nat) (f : Field) (d : DataW H) (hf : fs[i]? = some f) (hd : parts[i]? = some d) : Wok2 d f.type := by
  unfold Wok2 at h
  rw [DataW.weights, ht] at h
  simp only at h
  refine wok_each h i f.type d ?_ hd
  rw [List.getElem?_map, Array.getElem?_toList, hf]; rfl
theorem list_choiceD {α : Type} {P : Nat → α → Prop} : ∀ n : Nat, (∀ k, k < n → ∃ f, P k f) → ∃ fs : List α, fs.length = n ∧ ∀ k f, fs[k]? = some f → P k f
  | 0, _ => ⟨[], rfl, fun k f h => by simp at h⟩
  | n + 1, h => by
    obtain ⟨fs, hl, hP⟩ := list_choiceD n (fun k hk => h k (by omega))
    obtain ⟨f, hf⟩ := h n (by omega)
    refine ⟨fs ++ [f], by simp [hl], fun k g hg => ?_⟩
    by_cases hk : k < n
    · rw [List.getElem?_append_left (by omega)] at hg
      exact hP k g hg
    · have hlt := (List.getElem?_eq_some_iff.1 hg).1
      rw [List.length_append, List.length_singleton] at hlt
      obtain rfl : k = n := by omega
      rw [List.getElem?_append_right (by omega), hl, Nat.sub_self] at hg
      simp at hg
      subst hg
      exact hf
theorem cell_ltD {w : World} {g o : Nat} {v : Value} (h : w.cell? ⟨g, o, none⟩ = some v) : g < w.heap.size := by
  by_cases hl : g < w.heap.size
  · exact hl
  · have : w.heap[g]? = none := Array.getElem?_eq_none (by omega)
    simp [World.cell?, this] at h
/-- a slice whose elements are read as rows -/
theorem slice_rows {H : Type} {enc : TypeId × Value → H} {W : World} {α : Type} (T E : TypeId) (k : Nat) (row : α → List Value) (fit : α → Prop) (hT : Tryz.prog.underlying T = some (.slice E)) (hk : Tryz.prog.cellsOf E = k) (hk1 : 1 ≤ k) (hrl : ∀ x, (row x).length = k) (hby : 1 ≤ Tryz.prog.bytesOf E)
    {fuel : Nat} {cs : List Value} {y : DataW H × List MemPlace} (helem : ∀ n, fuel = n + 1 → ∀ cs y, DataW.trod enc Tryz.prog W 0 (fun _ => true) true n E cs = some y → Wok2 y.1 E → ∃ x, cs = row x ∧ fit x)
    (h : DataW.trod enc Tryz.prog W 0 (fun _ => true) true fuel T cs = some y) (hw : Wok2 y.1 T) :
    ∃ v xs, cs = [v] ∧ RowsIn W (fun b => b < W.heap.size) k row v xs ∧ xs.length ≤ 140737488355328 ∧ ∀ x ∈ xs, fit x := by
  rcases DataW.trod_slice hT h with ⟨hcs, hd⟩ | ⟨x, l, c, elems, rest, m, hm, hcs, hd, hb, hl, hmx, hlen, hel, hsp, _⟩
  · exact ⟨_, [], hcs, RowsIn.nil _ _ _ _ _ _, by simp, fun x hx => by cases hx⟩
  · subst hd
    obtain ⟨hbytes, hparts⟩ := wok_slice hT hw
    have hcount : elems.length ≤ 140737488355328 := by
      rw [List.length_map, List.length_map] at hbytes
      have h2 : elems.length * 1 ≤ (elems.length + rest.length) * Tryz.prog.bytesOf E := Nat.mul_le_mul (by omega) hby
      omega
    rw [hk] at hel
    have hP : ∀ i, i < l → ∃ a : α, fit a ∧ ∃ cs, W.cells? 0 (x.add (i * k)) k = some cs ∧ cs = row a := fun i hi => by
      have h1 := hel i hi
      obtain ⟨yy, hy⟩ : ∃ yy, elems[i]? = some yy := ⟨_, List.getElem?_eq_getElem (by omega)⟩
      rw [hy] at h1
      obtain ⟨cs1, hcs1, htr⟩ := Option.bind_eq_some_iff.1 h1
      obtain ⟨a, ha, hf⟩ := helem m hm cs1 yy htr (hparts yy.1 (List.mem_map.2 ⟨yy, List.mem_of_getElem? hy, rfl⟩))
      exact ⟨a, hf, cs1, hcs1, ha⟩
    obtain ⟨zs, hal, hap⟩ := list_choiceD (P := fun i a => fit a ∧ ∃ cs, W.cells? 0 (x.add (i * k)) k = some cs ∧ cs = row a) l hP
    refine ⟨_, zs, hcs, ⟨some x, c, by rw [hal], by omega, ?_⟩, by omega, fun a ha => ?_⟩
    · by_cases hz : zs = []
      · exact .inl hz
      · right
        have hpos := List.length_pos_iff.2 hz
        obtain ⟨g, off, spot⟩ := x
        obtain ⟨a0, ha0⟩ : ∃ a, zs[0]? = some a := ⟨_, List.getElem?_eq_getElem (by omega)⟩
        obtain ⟨_, cs0, hcs0, hr0⟩ := hap 0 a0 ha0
        have hc0 := (World.cells?_some hcs0).2.2 0 (by omega)
        have hr1 : cs0[0]? = some (cs0[0]'(by rw [hr0, hrl]; omega)) := List.getElem?_eq_getElem _
        rw [hr1] at hc0
        have hspot : spot = none := by
          have h3 := World.cell?_spot hc0
          simpa [Addr.add] using h3
        subst hspot
        refine ⟨g, off, rfl, ?_, fun j a hj i u hu => ?_⟩
        · have e : ((Addr.mk g off none).add (0 * k)).add 0 = ⟨g, off, none⟩ := by simp [Addr.add]
          rw [e] at hc0
          exact cell_ltD hc0
        · obtain ⟨_, cs1, hcs1, hr1⟩ := hap j a hj
          have hi : i < k := by
            have := (List.getElem?_eq_some_iff.1 hu).1
            rw [hrl] at this; exact this
          have h3 := (World.cells?_some hcs1).2.2 i hi
          rw [hr1, hu] at h3
          have e : ((Addr.mk g off none).add (j * k)).add i = ⟨g, off + (j * k + i), none⟩ := by rw [Lib.add_plain, Lib.add_plain, Nat.add_assoc]
          rw [e] at h3
          exact h3
    · obtain ⟨i, hi⟩ := List.getElem?_of_mem ha
      exact (hap i a hi).1
set_option maxRecDepth 100000 in
theorem trodS3 {H : Type} {enc : TypeId × Value → H} {W : World} {t : TypeId} {f0 f1 f2 : Field} {fuel : Nat} {cs : List Value} {y : DataW H × List MemPlace} (ht : Tryz.prog.underlying t = some (.struct #[f0, f1, f2])) (h : DataW.trod enc Tryz.prog W 0 (fun _ => true) true fuel t cs = some y) (hw : Wok2 y.1 t) :
    ∃ (y0 y1 y2 : DataW H × List MemPlace) (n : Nat), fuel = n + 1 ∧ cs.length = Tryz.prog.cellsOf t ∧ (DataW.trod enc Tryz.prog W 0 (fun _ => true) true n f0.type ((cs.drop f0.offset).take (Tryz.prog.cellsOf f0.type)) = some y0 ∧ Wok2 y0.1 f0.type) ∧ (DataW.trod enc Tryz.prog W 0 (fun _ => true) true n f1.type ((cs.drop f1.offset).take (Tryz.prog.cellsOf f1.type)) = some y1 ∧ Wok2 y1.1 f1.type) ∧ (DataW.trod enc Tryz.prog W 0 (fun _ => true) true n f2.type ((cs.drop f2.offset).take (Tryz.prog.cellsOf f2.type)) = some y2 ∧ Wok2 y2.1 f2.type) := by
  obtain ⟨xs, n, hn, rfl, hl, hlen, hf⟩ := DataW.trod_struct ht h
  match xs, hlen with
  | [y0, y1, y2], _ => exact ⟨y0, y1, y2, n, hn, hl, ⟨by simpa using hf 0 f0 rfl, wok_struct ht hw 0 f0 y0.1 rfl rfl⟩, ⟨by simpa using hf 1 f1 rfl, wok_struct ht hw 1 f1 y1.1 rfl rfl⟩, ⟨by simpa using hf 2 f2 rfl, wok_struct ht hw 2 f2 y2.1 rfl rfl⟩⟩
set_option maxRecDepth 100000 in
theorem trodS5 {H : Type} {enc : TypeId × Value → H} {W : World} {t : TypeId} {f0 f1 f2 f3 f4 : Field} {fuel : Nat} {cs : List Value} {y : DataW H × List MemPlace} (ht : Tryz.prog.underlying t = some (.struct #[f0, f1, f2, f3, f4])) (h : DataW.trod enc Tryz.prog W 0 (fun _ => true) true fuel t cs = some y) (hw : Wok2 y.1 t) :
    ∃ (y0 y1 y2 y3 y4 : DataW H × List MemPlace) (n : Nat), fuel = n + 1 ∧ cs.length = Tryz.prog.cellsOf t ∧ (DataW.trod enc Tryz.prog W 0 (fun _ => true) true n f0.type ((cs.drop f0.offset).take (Tryz.prog.cellsOf f0.type)) = some y0 ∧ Wok2 y0.1 f0.type) ∧ (DataW.trod enc Tryz.prog W 0 (fun _ => true) true n f1.type ((cs.drop f1.offset).take (Tryz.prog.cellsOf f1.type)) = some y1 ∧ Wok2 y1.1 f1.type) ∧ (DataW.trod enc Tryz.prog W 0 (fun _ => true) true n f2.type ((cs.drop f2.offset).take (Tryz.prog.cellsOf f2.type)) = some y2 ∧ Wok2 y2.1 f2.type) ∧ (DataW.trod enc Tryz.prog W 0 (fun _ => true) true n f3.type ((cs.drop f3.offset).take (Tryz.prog.cellsOf f3.type)) = some y3 ∧ Wok2 y3.1 f3.type) ∧ (DataW.trod enc Tryz.prog W 0 (fun _ => true) true n f4.type ((cs.drop f4.offset).take (Tryz.prog.cellsOf f4.type)) = some y4 ∧ Wok2 y4.1 f4.type) := by
  obtain ⟨xs, n, hn, rfl, hl, hlen, hf⟩ := DataW.trod_struct ht h
  match xs, hlen with
  | [y0, y1, y2, y3, y4], _ => exact ⟨y0, y1, y2, y3, y4, n, hn, hl, ⟨by simpa using hf 0 f0 rfl, wok_struct ht hw 0 f0 y0.1 rfl rfl⟩, ⟨by simpa using hf 1 f1 rfl, wok_struct ht hw 1 f1 y1.1 rfl rfl⟩, ⟨by simpa using hf 2 f2 rfl, wok_struct ht hw 2 f2 y2.1 rfl rfl⟩, ⟨by simpa using hf 3 f3 rfl, wok_struct ht hw 3 f3 y3.1 rfl rfl⟩, ⟨by simpa using hf 4 f4 rfl, wok_struct ht hw 4 f4 y4.1 rfl rfl⟩⟩
abbrev N47 : Nat := 140737488355328
theorem str_of_trod {H : Type} {enc : TypeId × Value → H} {W : World} {fuel : Nat} {cs : List Value} {y : DataW H × List MemPlace} (h : DataW.trod enc Tryz.prog W 0 (fun _ => true) true fuel 9 cs = some y) (hw : Wok2 y.1 9) : ∃ l : List UInt8, cs = [.string (mkB l)] ∧ l.length ≤ N47 := by
  obtain ⟨s, e, rfl, _⟩ := DataW.trod_string Tryz.underlying9 h
  exact ⟨s.data.toList, by rw [e, mkB_data], by have := wok_string hw; unfold N47; omega⟩
end Go.Proofs.YtfhmombnipfimaaGreatDoor
