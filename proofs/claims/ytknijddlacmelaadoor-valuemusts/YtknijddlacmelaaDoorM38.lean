/-
  The walk over the law ValueMusts.
-/
import Derived.Test.YtknijddlacmelaaDoorM37
import Derived.Test.YtknijddlacmelaaDoorM36
namespace Go.Proofs.YtknijddlacmelaaDoor
set_option linter.unusedVariables false
open Go.ChangeShapes Go.WideShapes Go.ChangeAt Go.RowKit

set_option maxHeartbeats 64000000 in
set_option maxRecDepth 20000 in
theorem valueMusts_any (f : Nat) (x : Nd) (xa : Option Addr) (xc : Nat) (num : Int) (w : World) (hT : Tabs w) (hG : HeldG rawS w (fun b => b < w.heap.size) f (.slice xa x.fields.length xc) x.fields) (hfit : FitG 140737488355328 140737488355328 f x) :
    Calls Tryd.prog 3 #[.agg #[.int .i64 x.kind, .int .i64 x.n, .int .u64 x.u, .bool x.b, .string (mkB x.s), .int .i64 x.type, .slice xa x.fields.length xc], .int .i64 num] w fun e w' => e = .returned (.bool true) ∧ Below w.heap.size w w' := by
  obtain ⟨xk, xn, xu, xb, xs, xt, fl⟩ := x
  dsimp only at hG ⊢
  obtain ⟨n, hn⟩ : ∃ n, fl.length = n := ⟨_, rfl⟩
  have HN := Lib.hid hn
  rw [hn] at hG ⊢
  clear hn
  obtain ⟨V, hV, hD, hb, hVs⟩ := box_new w #[.int .i64 xk, .int .i64 xn, .int .u64 xu, .bool xb, .string (mkB xs), .int .i64 xt, .slice xa n xc] 25
  have HV := Lib.hid hV
  have HWB : Hid (∀ W, Below V.heap.size V W → Below w.heap.size w W) := fun W hW => hb.trans (hW.mono hb.size)
  have hVl : w.heap.size + 1 ≤ V.heap.size := by omega
  have HG : Hid (∀ W, Below V.heap.size V W → HeldG rawS W (fun b => b < W.heap.size) f (.slice xa n xc) fl) := fun W hW => HeldG.mv (fun b hb => (HWB.out W hW).block b hb) (fun b hb => by have hb' : b < w.heap.size := hb; have := (HWB.out W hW).size; omega) hG
  have HA : Hid (∀ W, Below V.heap.size V W → Calls Tryd.prog 4 #[] W fun e w' => e = .returned (.bool true) ∧ Below V.heap.size V w') := fun W hW => (awake9_any W (tabs_below hT (HWB.out W hW))).mono fun e w' ⟨h1, h2⟩ => ⟨h1, hW.trans (h2.mono hW.size)⟩
  have HSM : Hid (∀ W, Below V.heap.size V W → Calls Tryd.prog 5 #[.agg #[.int .i64 xk, .int .i64 xn, .int .u64 xu, .bool xb, .string (mkB xs), .int .i64 xt, .slice xa n xc]] W fun e w' => ∃ b, e = .returned (.bool b) ∧ (b = true → FitG 100000 10000 f ⟨xk, xn, xu, xb, xs, xt, fl⟩ ∧ wtN f ⟨xk, xn, xu, xb, xs, xt, fl⟩ ≤ 400) ∧ Below W.heap.size W w') := fun W hW => smallV_any f ⟨xk, xn, xu, xb, xs, xt, fl⟩ (.slice xa n xc) W hfit (HG.out W hW)
  have HTH : Hid (FitG 100000 10000 f ⟨xk, xn, xu, xb, xs, xt, fl⟩ → ∀ W, Below V.heap.size V W → Calls Tryd.prog 7 #[.agg #[.int .i64 xk, .int .i64 xn, .int .u64 xu, .bool xb, .string (mkB xs), .int .i64 xt, .slice xa n xc]] W fun e w' => TheirAns f W ⟨xk, xn, xu, xb, xs, xt, fl⟩ e w') := fun hf W hW => theirsN_any f ⟨xk, xn, xu, xb, xs, xt, fl⟩ (.slice xa n xc) W hf (HG.out W hW)
  have HCL : Hid (FitG 100000 10000 f ⟨xk, xn, xu, xb, xs, xt, fl⟩ → ∀ W, Below V.heap.size V W → Calls Tryd.prog 10 #[.agg #[.int .i64 xk, .int .i64 xn, .int .u64 xu, .bool xb, .string (mkB xs), .int .i64 xt, .slice xa n xc]] W fun e w' => OurAns f W ⟨xk, xn, xu, xb, xs, xt, fl⟩ e w') := fun hf W hW => clean_any f ⟨xk, xn, xu, xb, xs, xt, fl⟩ xa n xc W hf (HG.out W hW)
  have n0 : ∀ W, Below V.heap.size V W → W.cell? ⟨w.heap.size, 0, none⟩ = some (.int .i64 xk) := fun W hW => (hW.cell (by simp; omega)).trans (cell_at hD 0 rfl)
  have n1 : ∀ W, Below V.heap.size V W → W.cell? ⟨w.heap.size, 1, none⟩ = some (.int .i64 xn) := fun W hW => (hW.cell (by simp; omega)).trans (cell_at hD 1 rfl)
  have n2 : ∀ W, Below V.heap.size V W → W.cell? ⟨w.heap.size, 2, none⟩ = some (.int .u64 xu) := fun W hW => (hW.cell (by simp; omega)).trans (cell_at hD 2 rfl)
  have n3 : ∀ W, Below V.heap.size V W → W.cell? ⟨w.heap.size, 3, none⟩ = some (.bool xb) := fun W hW => (hW.cell (by simp; omega)).trans (cell_at hD 3 rfl)
  have n4 : ∀ W, Below V.heap.size V W → W.cell? ⟨w.heap.size, 4, none⟩ = some (.string (mkB xs)) := fun W hW => (hW.cell (by simp; omega)).trans (cell_at hD 4 rfl)
  have n5 : ∀ W, Below V.heap.size V W → W.cell? ⟨w.heap.size, 5, none⟩ = some (.int .i64 xt) := fun W hW => (hW.cell (by simp; omega)).trans (cell_at hD 5 rfl)
  have n6 : ∀ W, Below V.heap.size V W → W.cell? ⟨w.heap.size, 6, none⟩ = some (.slice xa n xc) := fun W hW => (hW.cell (by simp; omega)).trans (cell_at hD 6 rfl)
  have hS0 : Below V.heap.size V V := Below.refl _ _
  clear hV hD hb hVs hG hfit hT
  go_enter Tryd.func3, Tryd.ntmps3
  go_upto_region 1 with fail
  rw [HV.out]
  go_wp2_with fail
  refine (HA.out _ hS0).mono ?_
  rintro e W1 ⟨rfl, hS1⟩
  clear hS0
  have k0 := n0 W1 hS1
  have k1 := n1 W1 hS1
  have k2 := n2 W1 hS1
  have k3 := n3 W1 hS1
  have k4 := n4 W1 hS1
  have k5 := n5 W1 hS1
  have k6 := n6 W1 hS1
  have hsm := HSM.out W1 hS1
  go_wp2_with fail
  refine hsm.mono ?_
  rintro e W2 ⟨b, rfl, hsb, hb2⟩
  have hS0 := hS1.trans (hb2.mono hS1.size)
  have HSB := Lib.hid hsb
  clear hS1 hsm hsb hb2 k0 k1 k2 k3 k4 k5 k6
  cases b
  case false =>
    go_wp2_with fail
    refine (HA.out _ hS0).mono ?_
    rintro e W3 ⟨rfl, hS1⟩
    have HE := Lib.hid (HWB.out _ hS1)
    go_wp2_with fail
    go_ret
    exact ⟨rfl, HE.out⟩
  obtain ⟨hff, hwt⟩ := HSB.out rfl
  have HFF := Lib.hid hff
  have HWT := Lib.hid hwt
  have HTH2 := Lib.hid (HTH.out hff)
  have HCL2 := Lib.hid (HCL.out hff)
  have hth := HTH2.out W2 hS0
  have k0 := n0 W2 hS0
  have k1 := n1 W2 hS0
  have k2 := n2 W2 hS0
  have k3 := n3 W2 hS0
  have k4 := n4 W2 hS0
  have k5 := n5 W2 hS0
  have k6 := n6 W2 hS0
  clear HTH HCL HSM HA hff hwt HSB
  go_wp2_with fail
  refine hth.mono ?_
  rintro e U1 ⟨v1, rfl, hv1, hb1⟩
  have hS1 := hS0.trans (hb1.mono hS0.size)
  have hv1' : HeldV U1 (fun b => b < U1.heap.size) f v1 ⟨xk, xn, xu, xb, xs, xt, fl⟩ := hv1.mv (fun _ _ => rfl) (fun b hb => hb.2)
  clear hth hS0 hb1 hv1 k0 k1 k2 k3 k4 k5 k6
  by_cases hk : xk = 7
  case neg =>
    have hmu := must_not f ⟨xk, xn, xu, xb, xs, xt, fl⟩ v1 U1 HFF.out hk hv1'
    clear hv1'
    have hMC : ∀ U2 : World, (U2.alloc (.cells #[.int .i64 0, .slice none 0 0, .string ⟨#[]⟩] 30)).heap.size = U2.heap.size + 1 := fun U2 => by simp
    have hMB : ∀ U2 : World, Below U2.heap.size U2 (U2.alloc (.cells #[.int .i64 0, .slice none 0 0, .string ⟨#[]⟩] 30)) := fun U2 => (Below.refl _ U2).alloc (Nat.le_refl _) _
    go_wp2_with fail
    refine hmu.mono ?_
    rintro e U2 ⟨rfl, hb2⟩
    have hS0 := hS1.trans (hb2.mono hS1.size)
    have hS2 := hS0.trans ((hMB U2).mono hS0.size)
    clear hmu hb2 hS1 hS0
    go_upto_region 4 with fail
    generalize (U2.alloc (.cells #[.int .i64 0, .slice none 0 0, .string ⟨#[]⟩] 30)) = U3 at *
    have hS0 : Below V.heap.size V U3.drew := hS2.drew
    clear hMC hMB hS2
    have hkb : (xk == 7) = false := by simp; exact hk
    refine wp_region_held_drew (S := fun W => Below V.heap.size V W) (by kernel_rfl) hS0 (fun _ => ?_)
    refine T_on 0 (.bool true) rfl (by kernel_rfl) (fun _ _ _ h => h) hS0 (fun W hW => by go_simp) ?_
    refine T_on 1 (.pointer (some ⟨w.heap.size, 0, none⟩)) rfl (by kernel_rfl) (fun _ _ _ h => h) hS0 (fun W hW => by go_simp) ?_
    refine T_on 2 (.int .i64 xk) rfl (by kernel_rfl) (fun _ _ _ h => h) hS0 (fun W hW => by have c0 := n0 W hW; go_simp) ?_
    refine T_on 3 (.bool true) rfl (by kernel_rfl) (fun _ _ _ h => h) hS0 (fun W hW => by go_simp) ?_
    refine T_on 4 (.bool false) rfl (by kernel_rfl) (fun _ _ _ h => h) hS0 (fun W hW => by go_simp) ?_
    refine T_on 5 (.bool false) rfl (by kernel_rfl) (fun _ _ _ h => h) hS0 (fun W hW => by go_simp) ?_
    refine T_on 6 (.pointer (some ⟨w.heap.size, 0, none⟩)) rfl (by kernel_rfl) (fun _ _ _ h => h) hS0 (fun W hW => by go_simp) ?_
    refine T_on 7 (.int .i64 xk) rfl (by kernel_rfl) (fun _ _ _ h => h) hS0 (fun W hW => by have c0 := n0 W hW; go_simp) ?_
    refine T_on 8 (.bool false) rfl (by kernel_rfl) (fun _ _ _ h => h) hS0 (fun W hW => by go_simp) ?_
    refine T_on 9 (.bool false) rfl (by kernel_rfl) (fun _ _ _ h => h) hS0 (fun W hW => by go_simp) ?_
    refine T_off 10 rfl (by kernel_rfl) (fun _ _ _ h => h) hS0 ?_
    refine T_off 11 rfl (by kernel_rfl) (fun _ _ _ h => h) hS0 ?_
    refine T_off 12 rfl (by kernel_rfl) (fun _ _ _ h => h) hS0 ?_
    refine T_off 13 rfl (by kernel_rfl) (fun _ _ _ h => h) hS0 ?_
    refine T_off 14 rfl (by kernel_rfl) (fun _ _ _ h => h) hS0 ?_
    refine T_off 15 rfl (by kernel_rfl) (fun _ _ _ h => h) hS0 ?_
    refine T_off 16 rfl (by kernel_rfl) (fun _ _ _ h => h) hS0 ?_
    refine T_on 17 (.bool false) rfl (by kernel_rfl) (fun _ _ _ h => h) hS0 (fun W hW => by go_simp) ?_
    refine T_on 18 (.bool false) rfl (by kernel_rfl) (fun _ _ _ h => h) hS0 (fun W hW => by go_simp) ?_
    refine wpAnyH_done (by kernel_rfl) ?_ _
    go_simp
    have hth := HTH2.out U3.drew hS0
    have k0 := n0 U3.drew hS0
    have k1 := n1 U3.drew hS0
    have k2 := n2 U3.drew hS0
    have k3 := n3 U3.drew hS0
    have k4 := n4 U3.drew hS0
    have k5 := n5 U3.drew hS0
    have k6 := n6 U3.drew hS0
    go_wp2_with fail
    refine hth.mono ?_
    rintro e U4 ⟨v2, rfl, hv2, hb4⟩
    have hS1 := hS0.trans (hb4.mono hS0.size)
    have hge := get_not f ⟨xk, xn, xu, xb, xs, xt, fl⟩ v2 num U4 hk (hv2.mv (fun _ _ => rfl) (fun b hb => hb.2))
    clear hth hS0 hb4 hv2 k0 k1 k2 k3 k4 k5 k6
    go_wp2_with fail
    refine hge.mono ?_
    rintro e U5 ⟨rfl, hb5⟩
    have hS0 := hS1.trans (hb5.mono hS1.size)
    have k0 := n0 U5 hS0
    have HE := Lib.hid (HWB.out _ hS0)
    clear hge hb5 hS1 hS0
    go_wp2_with fail
    go_ret
    exact ⟨rfl, HE.out⟩
  subst hk
  have hmu := must_msg f xn xu xb xs xt fl v1 U1 HFF.out (depT_wt (by have := HWT.out; omega)) hv1'
  clear hv1'
  go_wp2_with fail
  refine hmu.mono ?_
  rintro e U2 ⟨ma, mc, rfl, hmg, hb2⟩
  rw [HN.out] at hmg ⊢
  have hS0 := hS1.trans (hb2.mono hS1.size)
  have hMC : (U2.alloc (.cells #[.int .i64 xt, .slice ma n mc, .string (mkB xs)] 30)).heap[U2.heap.size]? = some (.cells #[.int .i64 xt, .slice ma n mc, .string (mkB xs)] 30 (0, 0)) := alloc_heap_new _ _
  have hMB : Below U2.heap.size U2 (U2.alloc (.cells #[.int .i64 xt, .slice ma n mc, .string (mkB xs)] 30)) := (Below.refl _ U2).alloc (Nat.le_refl _) _
  have hMS : (U2.alloc (.cells #[.int .i64 xt, .slice ma n mc, .string (mkB xs)] 30)).heap.size = U2.heap.size + 1 := by simp
  have hS2 := hS0.trans (hMB.mono hS0.size)
  clear hmu hb2 hS1 hS0
  go_upto_region 4 with fail
  generalize (U2.alloc (.cells #[.int .i64 xt, .slice ma n mc, .string (mkB xs)] 30)) = U3 at *
  have HMG : Hid (HeldG valS U3 (fun b => b < U3.heap.size) f (.slice ma n mc) fl) := HeldG.mv (fun b hb => hMB.block b hb.2) (fun b hb => by have := hb.2; omega) hmg
  have hS0 : Below U3.heap.size U3 U3.drew := (Below.refl _ _).drew
  have HVU : Hid (∀ W, Below U3.heap.size U3 W → Below V.heap.size V W) := fun W hW => hS2.trans (hW.mono hS2.size)
  have p0 : ∀ W, Below U3.heap.size U3 W → W.cell? ⟨w.heap.size, 0, none⟩ = some (.int .i64 7) := fun W hW => n0 W (HVU.out W hW)
  have p1 : ∀ W, Below U3.heap.size U3 W → W.cell? ⟨w.heap.size, 1, none⟩ = some (.int .i64 xn) := fun W hW => n1 W (HVU.out W hW)
  have p2 : ∀ W, Below U3.heap.size U3 W → W.cell? ⟨w.heap.size, 2, none⟩ = some (.int .u64 xu) := fun W hW => n2 W (HVU.out W hW)
  have p3 : ∀ W, Below U3.heap.size U3 W → W.cell? ⟨w.heap.size, 3, none⟩ = some (.bool xb) := fun W hW => n3 W (HVU.out W hW)
  have p4 : ∀ W, Below U3.heap.size U3 W → W.cell? ⟨w.heap.size, 4, none⟩ = some (.string (mkB xs)) := fun W hW => n4 W (HVU.out W hW)
  have p5 : ∀ W, Below U3.heap.size U3 W → W.cell? ⟨w.heap.size, 5, none⟩ = some (.int .i64 xt) := fun W hW => n5 W (HVU.out W hW)
  have p6 : ∀ W, Below U3.heap.size U3 W → W.cell? ⟨w.heap.size, 6, none⟩ = some (.slice xa n xc) := fun W hW => n6 W (HVU.out W hW)
  have r0 : ∀ W, Below U3.heap.size U3 W → W.cell? ⟨U2.heap.size, 0, none⟩ = some (.int .i64 xt) := fun W hW => (hW.cell (by simp; omega)).trans (cell_at hMC 0 rfl)
  have r1 : ∀ W, Below U3.heap.size U3 W → W.cell? ⟨U2.heap.size, 1, none⟩ = some (.slice ma n mc) := fun W hW => (hW.cell (by simp; omega)).trans (cell_at hMC 1 rfl)
  have r2 : ∀ W, Below U3.heap.size U3 W → W.cell? ⟨U2.heap.size, 2, none⟩ = some (.string (mkB xs)) := fun W hW => (hW.cell (by simp; omega)).trans (cell_at hMC 2 rfl)
  clear hmg hMC hMB hMS hS2
  refine wp_region_held_drew (S := fun W => Below U3.heap.size U3 W) (by kernel_rfl) hS0 (fun _ => ?_)
  refine T_on 0 (.bool false) rfl (by kernel_rfl) (fun _ _ _ h => h) hS0 (fun W hW => by go_simp) ?_
  refine T_on 1 (.pointer (some ⟨w.heap.size, 0, none⟩)) rfl (by kernel_rfl) (fun _ _ _ h => h) hS0 (fun W hW => by go_simp) ?_
  refine T_on 2 (.int .i64 7) rfl (by kernel_rfl) (fun _ _ _ h => h) hS0 (fun W hW => by have c0 := p0 W hW; go_simp) ?_
  refine T_on 3 (.bool false) rfl (by kernel_rfl) (fun _ _ _ h => h) hS0 (fun W hW => by go_simp) ?_
  refine T_on 4 (.bool false) rfl (by kernel_rfl) (fun _ _ _ h => h) hS0 (fun W hW => by go_simp) ?_
  refine T_on 5 (.bool false) rfl (by kernel_rfl) (fun _ _ _ h => h) hS0 (fun W hW => by go_simp) ?_
  refine T_on 6 (.pointer (some ⟨w.heap.size, 0, none⟩)) rfl (by kernel_rfl) (fun _ _ _ h => h) hS0 (fun W hW => by go_simp) ?_
  refine T_on 7 (.int .i64 7) rfl (by kernel_rfl) (fun _ _ _ h => h) hS0 (fun W hW => by have c0 := p0 W hW; go_simp) ?_
  refine T_on 8 (.bool true) rfl (by kernel_rfl) (fun _ _ _ h => h) hS0 (fun W hW => by go_simp) ?_
  refine T_on 9 (.bool true) rfl (by kernel_rfl) (fun _ _ _ h => h) hS0 (fun W hW => by go_simp) ?_
  refine T_on 10 (.agg #[.int .i64 xt, .slice ma n mc, .string (mkB xs)]) rfl (by kernel_rfl) (fun _ _ _ h => h) hS0 (fun W hW => by have c0 := r0 W hW; have c1 := r1 W hW; have c2 := r2 W hW; go_simp) ?_
  refine T_on 11 (.iface 30 (.agg #[.int .i64 xt, .slice ma n mc, .string (mkB xs)])) rfl (by kernel_rfl) (fun _ _ _ h => h) hS0 (fun W hW => by go_simp) ?_
  refine T_on 13 (.agg #[.int .i64 7, .int .i64 xn, .int .u64 xu, .bool xb, .string (mkB xs), .int .i64 xt, .slice xa n xc]) rfl (by kernel_rfl) (fun _ _ _ h => h) hS0 (fun W hW => by have c0 := p0 W hW; have c1 := p1 W hW; have c2 := p2 W hW; have c3 := p3 W hW; have c4 := p4 W hW; have c5 := p5 W hW; have c6 := p6 W hW; go_simp) ?_
  refine T_call 12 (by kernel_rfl) rfl (fun K hK => ?_)
  go_simp
  have hou := oursN_any f ⟨7, xn, xu, xb, xs, xt, fl⟩ (.iface 30 (.agg #[.int .i64 xt, .slice ma n mc, .string (mkB xs)])) _ HFF.out ⟨.slice ma n mc, rfl, fun _ => HeldG.mv (fun b hb => hS0.block b hb) (fun b hb => by have hb' : b < U3.heap.size := hb; have := hS0.size; omega) HMG.out⟩
  refine hou.mono ?_
  rintro e U4 ⟨a0, a1, a2, a3, a4, a5, aa, al, ac, af, rfl, arow, ahg, hb4⟩
  have hS1 := hS0.trans (hb4.mono hS0.size)
  have AROW := Lib.hid arow
  have AHG := Lib.hid ahg
  clear hou hb4 arow ahg
  clear hS0
  have hS0 := hS1
  clear hS1
  dsimp only
  refine hK.out _ _ hS0 (fun _ => ?_)
  clear hK K
  refine T_call 14 (by kernel_rfl) rfl (fun K hK => ?_)
  go_simp
  refine (HCL2.out _ (HVU.out _ hS0)).mono ?_
  rintro e U5 ⟨d0, d1, d2, d3, d4, d5, da, dl, dc, df, rfl, drow, dhg, hb5⟩
  have hS1 := hS0.trans (hb5.mono hS0.size)
  have HSA := Lib.hid (sameO2_any f ⟨7, xn, xu, xb, xs, xt, fl⟩ U5 a0 a1 a2 a3 a4 a5 aa al ac af d0 d1 d2 d3 d4 d5 da dl dc df HFF.out AROW.out (fun h => HeldG.mv (fun b hb => hb5.block b hb.2) (fun b hb => by have := hb.2; have := hb5.size; omega) (AHG.out h)) drow (fun h => HeldG.mv (fun _ _ => rfl) (fun b hb => hb.2) (dhg h)))
  clear hb5 AROW AHG drow dhg
  clear hS0
  have hS0 := hS1
  clear hS1
  dsimp only
  refine hK.out _ _ hS0 (fun _ => ?_)
  clear hK K
  refine T_call 15 (by kernel_rfl) rfl (fun K hK => ?_)
  go_simp
  refine HSA.out.mono ?_
  rintro e U6 ⟨rfl, hb6⟩
  have hS1 := hS0.trans (hb6.mono hS0.size)
  clear hb6 HSA
  clear hS0
  have hS0 := hS1
  clear hS1
  dsimp only
  refine hK.out _ _ hS0 (fun _ => ?_)
  clear hK K
  refine T_on 16 (.bool false) rfl (by kernel_rfl) (fun _ _ _ h => h) hS0 (fun W hW => by go_simp) ?_
  refine T_on 17 (.bool false) rfl (by kernel_rfl) (fun _ _ _ h => h) hS0 (fun W hW => by go_simp) ?_
  refine T_on 18 (.bool false) rfl (by kernel_rfl) (fun _ _ _ h => h) hS0 (fun W hW => by go_simp) ?_
  refine wpAnyH_done (by kernel_rfl) ?_ _
  go_simp
  have hth := HTH2.out U6 (HVU.out _ hS0)
  have k0 := p0 U6 hS0
  have k1 := p1 U6 hS0
  have k2 := p2 U6 hS0
  have k3 := p3 U6 hS0
  have k4 := p4 U6 hS0
  have k5 := p5 U6 hS0
  have k6 := p6 U6 hS0
  go_wp2_with fail
  refine hth.mono ?_
  rintro e U7 ⟨v2, rfl, hv2, hb7⟩
  have hS1 := hS0.trans (hb7.mono hS0.size)
  have hge := getD_any f ⟨7, xn, xu, xb, xs, xt, fl⟩ v2 num U7 rfl HFF.out (depT_wt (by have := HWT.out; omega)) (hv2.mv (fun _ _ => rfl) (fun b hb => hb.2))
  dsimp only at hge
  obtain ⟨L, hL⟩ : ∃ L, (valsF fl num).length = L := ⟨_, rfl⟩
  have HLL := Lib.hid hL
  clear hth hS0 hb7 hv2 k0 k1 k2 k3 k4 k5 k6
  go_wp2_with fail
  refine hge.mono ?_
  rintro e U8 ⟨la, lc, rfl, hlv, hb8⟩
  rw [hL] at hlv ⊢
  have hS0 := hS1.trans (hb8.mono hS1.size)
  have HLV : Hid (ValsG valS U8 (fun b => b < U8.heap.size) (f - 1) (.slice la L lc) (valsF fl num)) := ValsG.mv (fun _ _ => rfl) (fun b hb => hb.2) hlv
  have HS8 := Lib.hid hS0
  have k0 := p0 U8 hS0
  have k6 := p6 U8 hS0
  clear hge hb8 hS1 hlv hL hS0
  go_wp2_with fail
  clear k0 k6
  go_loopw [53] (fun i wr => ∃ j : Nat, i = .int .i64 (j : Int) ∧ j ≤ n ∧ Below U8.heap.size U8 wr ∧ ∀ (k : Nat) (p : Int × List Nd), k < j → fl[k]? = some p → p.1 ≠ num) (fun i _ => n - (intOf i).toNat)
  case atStart => exact ⟨0, rfl, Nat.zero_le _, Below.refl _ _, fun k p hk => absurd hk (Nat.not_lt_zero _)⟩
  case round =>
    generalize wr = w1 at *
    obtain ⟨j, rfl, hj, hbel, hno⟩ := hrel
    have HBE := Lib.hid hbel
    have HNO := Lib.hid hno
    have hS0 := HS8.out.trans (hbel.mono HS8.out.size)
    have hV0 := HVU.out _ hS0
    have HGW := Lib.hid (HG.out w1 hV0)
    have k6 := p6 w1 hS0
    clear hbel hno
    by_cases hjn : j < n
    case neg =>
      have hjn' : ¬ (j : Int) < (n : Int) := by omega
      have hL0 : L = 0 := by
        rw [← HLL.out]
        unfold valsF
        rw [look_no fun k p hp => HNO.out k p (by have h1 := (List.getElem?_eq_some_iff.1 hp).1; have h2 := HN.out; omega) hp]; rfl
      subst hL0
      have HE := Lib.hid (HWB.out _ hV0)
      clear hS0 hV0
      go_wp2_with fail
      go_ret
      exact ⟨rfl, HE.out⟩
    obtain ⟨y, hy⟩ : ∃ y, fl[j]? = some y := ⟨_, List.getElem?_eq_getElem (by have := HN.out; omega)⟩
    obtain ⟨f', g, go, gc, va, vc, hf', hsl, hg, e0, e1, hvals⟩ := HeldG.at HGW.out (W := w1) (fun b hb => rfl) hy
    subst hf'
    rw [HN.out] at hsl
    obtain ⟨rfl, rfl⟩ := slice_two hsl
    obtain ⟨hfl1, hfl2⟩ := HFF.out.2.2 y (List.mem_of_getElem? hy)
    have hn1 : n ≤ 10000 := by have h1 := HFF.out.2.1; have h2 := HN.out; dsimp only at h1; omega
    obtain ⟨ynum, ys⟩ := y
    dsimp only at hvals e0 e1 hfl1 hfl2
    have HYJ := Lib.hid hy
    have hgN : g < w1.heap.size := hg
    have hj0 : (0 : Int) ≤ (j : Int) := by omega
    have hj1 : (j : Int) < (n : Int) := by omega
    have hwq : IntKind.i64.wrap ((j : Int) + 1) = (j : Int) + 1 := by rw [IntKind.wrap_i64]; omega
    clear hsl hy hg
    by_cases hyn : ynum = num
    case neg =>
      have hye : (ynum == num) = false := by simp; exact hyn
      have HNO2 : Hid (∀ (k : Nat) (p : Int × List Nd), k < j + 1 → fl[k]? = some p → p.1 ≠ num) := by
        refine (?_ : ∀ (k : Nat) (p : Int × List Nd), _ → _ → _)
        intro k p hk hp
        by_cases hkj : k < j
        · exact HNO.out k p hkj hp
        · have e : k = j := by omega
          subst e
          rw [HYJ.out] at hp
          have e2 : (ynum, ys) = p := by injection hp
          rw [← e2]; exact hyn
      clear hS0 hV0 hvals hfl2
      go_wp2_with fail
      go_roundw
      case rel => exact ⟨j + 1, by go_num, by omega, HBE.out, HNO2.out⟩
      case measure => simp [intOf]; omega
    subst hyn
    have hLY : valsF fl ynum = ys := by unfold valsF; rw [look_at HYJ.out HNO.out]; rfl
    rw [hLY] at HLV HLL
    have hll := HLL.out
    rw [hll] at e1 hvals hfl1
    have HVA := Lib.hid hvals
    have HFL2 := Lib.hid hfl2
    clear hLY hvals hfl2 hV0
    go_wp2_with fail
    have HE0 := Lib.hid e1
    clear e0 e1 k6
    go_loopw [76] (fun i wr => ∃ p : Nat, i = .int .i64 (p : Int) ∧ p ≤ L ∧ Below w1.heap.size w1 wr) (fun i _ => L - (intOf i).toNat)
    case atStart => exact ⟨0, rfl, Nat.zero_le _, Below.refl _ _⟩
    case round =>
      generalize wr = w2 at *
      obtain ⟨p, rfl, hp, hb2⟩ := hrel
      have HB2 := Lib.hid hb2
      have hw2s := hb2.size
      have hS2 := hS0.trans (hb2.mono hS0.size)
      by_cases hpn : p < L
      case neg =>
        have hpn' : ¬ (p : Int) < (L : Int) := by omega
        have HE := Lib.hid (HWB.out _ (HVU.out _ hS2))
        clear hb2 hS2
        go_wp2_with fail
        go_ret
        exact ⟨rfl, HE.out⟩
      obtain ⟨c, hc⟩ : ∃ c, ys[p]? = some c := ⟨_, List.getElem?_eq_getElem (by rw [hll]; exact hpn)⟩
      obtain ⟨g2, o2, c2, fs2, hsl2, hg2, hcl, hheld⟩ := ValsG.at HVA.out hc
      rw [hll] at hsl2
      obtain ⟨rfl, rfl⟩ := slice_two hsl2
      obtain ⟨g3, o3, c3, fs3, hsl3, hg3, hcl3, hheld3⟩ := ValsG.at HLV.out hc
      rw [hll] at hsl3
      obtain ⟨rfl, rfl⟩ := slice_two hsl3
      have hg2N : g2 < w1.heap.size := hg2
      have hg3N : g3 < U8.heap.size := hg3
      have hU8w : U8.heap.size ≤ w1.heap.size := HBE.out.size
      have hB8 : Below U8.heap.size U8 w2 := HBE.out.trans (hb2.mono HBE.out.size)
      have hcl2 := hcl.old (hb2.block g2 hg2N)
      have hcl4 := hcl3.old (hB8.block g3 hg3N)
      have hraw : HeldG rawS w2 (fun b => b < w2.heap.size) f' fs2 c.fields := HeldG.mv (fun b hb => hb2.block b hb) (fun b hb => by have hb' : b < w1.heap.size := hb; omega) (hheld rfl)
      obtain ⟨ca, cc, rfl⟩ := HeldG.isSl hraw
      have HRAW := Lib.hid hraw
      have HFC := Lib.hid (HFL2.out c (List.mem_of_getElem? hc))
      have y0 : w2.cell? ⟨g3, o3 + p, none⟩ = some (ival c fs3) := by have := hcl4 0 _ rfl; simpa [valS] using this
      have hhv : HeldV w2 (fun b => b < w2.heap.size) f' (ival c fs3) c := ⟨fs3, rfl, fun hk => HeldG.mv (fun b hb => hB8.block b hb) (fun b hb => by have hb' : b < U8.heap.size := hb; omega) (hheld3 (by simp [valS, hk]))⟩
      obtain ⟨v3, hv3⟩ : ∃ v3, ival c fs3 = v3 := ⟨_, rfl⟩
      rw [hv3] at y0 hhv
      have HHV := Lib.hid hhv
      have hp0 : (0 : Int) ≤ (p : Int) := by omega
      have hp1 : (p : Int) < (L : Int) := by omega
      have hwp : IntKind.i64.wrap ((p : Int) + 1) = (p : Int) + 1 := by rw [IntKind.wrap_i64]; omega
      obtain ⟨ck, cn', cu, cb, cs, ct, cf⟩ := c
      obtain ⟨cl, hclen⟩ : ∃ cl, cf.length = cl := ⟨_, rfl⟩
      have HCLN := Lib.hid hclen
      dsimp only at hcl2 HRAW
      rw [hclen] at hcl2 HRAW
      have z0 : ∀ W, Below w2.heap.size w2 W → W.cell? ⟨g3, o3 + p, none⟩ = some v3 := fun W hW => (hW.cell (by simp; omega)).trans y0
      have z1 : ∀ W, Below w2.heap.size w2 W → W.cell? ⟨w.heap.size, 6, none⟩ = some (.slice (some ⟨g, go, none⟩) n xc) := fun W hW => p6 W (hS2.trans (hW.mono hS2.size))
      have z2 : ∀ W, Below w2.heap.size w2 W → W.cell? ⟨g, go + j * 2 + 1, none⟩ = some (.slice (some ⟨g2, o2, none⟩) L vc) := fun W hW => (hW.cell (by simp; omega)).trans ((HB2.out.cell (by simpa using hgN)).trans HE0.out)
      have x0 : ∀ W, Below w2.heap.size w2 W → W.cell? ⟨g2, o2 + p * 7, none⟩ = some (.int .i64 ck) := fun W hW => (hW.cell (by simp; omega)).trans (by have := hcl2 0 _ rfl; simpa [rawS, nrow] using this)
      have x1 : ∀ W, Below w2.heap.size w2 W → W.cell? ⟨g2, o2 + p * 7 + 1, none⟩ = some (.int .i64 cn') := fun W hW => (hW.cell (by simp; omega)).trans (by have := hcl2 1 _ rfl; simpa [rawS, nrow] using this)
      have x2 : ∀ W, Below w2.heap.size w2 W → W.cell? ⟨g2, o2 + p * 7 + 2, none⟩ = some (.int .u64 cu) := fun W hW => (hW.cell (by simp; omega)).trans (by have := hcl2 2 _ rfl; simpa [rawS, nrow] using this)
      have x3 : ∀ W, Below w2.heap.size w2 W → W.cell? ⟨g2, o2 + p * 7 + 3, none⟩ = some (.bool cb) := fun W hW => (hW.cell (by simp; omega)).trans (by have := hcl2 3 _ rfl; simpa [rawS, nrow] using this)
      have x4 : ∀ W, Below w2.heap.size w2 W → W.cell? ⟨g2, o2 + p * 7 + 4, none⟩ = some (.string (mkB cs)) := fun W hW => (hW.cell (by simp; omega)).trans (by have := hcl2 4 _ rfl; simpa [rawS, nrow] using this)
      have x5 : ∀ W, Below w2.heap.size w2 W → W.cell? ⟨g2, o2 + p * 7 + 5, none⟩ = some (.int .i64 ct) := fun W hW => (hW.cell (by simp; omega)).trans (by have := hcl2 5 _ rfl; simpa [rawS, nrow] using this)
      have x6 : ∀ W, Below w2.heap.size w2 W → W.cell? ⟨g2, o2 + p * 7 + 6, none⟩ = some (.slice ca cl cc) := fun W hW => (hW.cell (by simp; omega)).trans (by have := hcl2 6 _ rfl; simpa [rawS, nrow] using this)
      have hS1 : Below w2.heap.size w2 w2.drew := (Below.refl _ w2).drew
      have HS2 := Lib.hid hS2
      clear hsl2 hsl3 hc hg2 hg3 hcl hcl3 hheld hheld3 hcl2 hcl4 hraw hhv y0 hv3 hclen hb2 hS2 hB8
      go_upto_region 17 with fail
      refine wp_region_held_drew (S := fun W => Below w2.heap.size w2 W) (by kernel_rfl) hS1 (fun _ => ?_)
      refine T_on 0 (.slice (some ⟨g3, o3, none⟩) L lc) rfl (by kernel_rfl) (fun _ _ _ h => h) hS1 (fun W hW => by go_simp) ?_
      refine T_on 1 (.int .i64 (p : Int)) rfl (by kernel_rfl) (fun _ _ _ h => h) hS1 (fun W hW => by go_simp) ?_
      refine T_on 2 (.pointer (some ⟨g3, o3 + p, none⟩)) rfl (by kernel_rfl) (fun _ _ _ h => h) hS1 (fun W hW => by go_simp) ?_
      refine T_on 3 (v3) rfl (by kernel_rfl) (fun _ _ _ h => h) hS1 (fun W hW => by have c0 := z0 W hW; go_simp) ?_
      refine T_on 5 (.pointer (some ⟨w.heap.size, 6, none⟩)) rfl (by kernel_rfl) (fun _ _ _ h => h) hS1 (fun W hW => by go_simp) ?_
      refine T_on 6 (.slice (some ⟨g, go, none⟩) n xc) rfl (by kernel_rfl) (fun _ _ _ h => h) hS1 (fun W hW => by have c0 := z1 W hW; go_simp) ?_
      refine T_on 7 (.int .i64 (j : Int)) rfl (by kernel_rfl) (fun _ _ _ h => h) hS1 (fun W hW => by go_simp) ?_
      refine T_on 8 (.pointer (some ⟨g, go + j * 2, none⟩)) rfl (by kernel_rfl) (fun _ _ _ h => h) hS1 (fun W hW => by go_simp) ?_
      refine T_on 9 (.pointer (some ⟨g, go + j * 2 + 1, none⟩)) rfl (by kernel_rfl) (fun _ _ _ h => h) hS1 (fun W hW => by go_simp) ?_
      refine T_on 10 (.slice (some ⟨g2, o2, none⟩) L vc) rfl (by kernel_rfl) (fun _ _ _ h => h) hS1 (fun W hW => by have c0 := z2 W hW; go_simp) ?_
      refine T_on 11 (.int .i64 (p : Int)) rfl (by kernel_rfl) (fun _ _ _ h => h) hS1 (fun W hW => by go_simp) ?_
      refine T_on 12 (.pointer (some ⟨g2, o2 + p * 7, none⟩)) rfl (by kernel_rfl) (fun _ _ _ h => h) hS1 (fun W hW => by go_simp) ?_
      refine T_on 13 (.agg #[.int .i64 ck, .int .i64 cn', .int .u64 cu, .bool cb, .string (mkB cs), .int .i64 ct, .slice ca cl cc]) rfl (by kernel_rfl) (fun _ _ _ h => h) hS1 (fun W hW => by have c0 := x0 W hW; have c1 := x1 W hW; have c2 := x2 W hW; have c3 := x3 W hW; have c4 := x4 W hW; have c5 := x5 W hW; have c6 := x6 W hW; go_simp) ?_
      refine T_call 4 (by kernel_rfl) rfl (fun K hK => ?_)
      go_simp
      have hou := oursN_any f' ⟨ck, cn', cu, cb, cs, ct, cf⟩ v3 _ HFC.out (HHV.out.mv (fun b hb => hS1.block b hb) (fun b hb => by have hb' : b < w2.heap.size := hb; have := hS1.size; omega))
      refine hou.mono ?_
      rintro e T1 ⟨a0, a1, a2, a3, a4, a5, aa, al, ac, af, rfl, arow, ahg, hb4⟩
      have hS3 := hS1.trans (hb4.mono hS1.size)
      have AROW := Lib.hid arow
      have AHG := Lib.hid ahg
      clear hou hb4 arow ahg
      clear hS1
      have hS1 := hS3
      clear hS3
      dsimp only
      refine hK.out _ _ hS1 (fun _ => ?_)
      clear hK K
      refine T_call 14 (by kernel_rfl) rfl (fun K hK => ?_)
      go_simp
      have hclc := clean_any f' ⟨ck, cn', cu, cb, cs, ct, cf⟩ ca cl cc _ HFC.out (HeldG.mv (fun b hb => hS1.block b hb) (fun b hb => by have hb' : b < w2.heap.size := hb; have := hS1.size; omega) HRAW.out)
      refine hclc.mono ?_
      rintro e T2 ⟨d0, d1, d2, d3, d4, d5, da, dl, dc, df, rfl, drow, dhg, hb5⟩
      have hS3 := hS1.trans (hb5.mono hS1.size)
      have HSA := Lib.hid (sameO2_any f' ⟨ck, cn', cu, cb, cs, ct, cf⟩ T2 a0 a1 a2 a3 a4 a5 aa al ac af d0 d1 d2 d3 d4 d5 da dl dc df HFC.out AROW.out (fun h => HeldG.mv (fun b hb => hb5.block b hb.2) (fun b hb => by have := hb.2; have := hb5.size; omega) (AHG.out h)) drow (fun h => HeldG.mv (fun _ _ => rfl) (fun b hb => hb.2) (dhg h)))
      clear hb5 AROW AHG drow dhg hclc
      clear hS1
      have hS1 := hS3
      clear hS3
      dsimp only
      refine hK.out _ _ hS1 (fun _ => ?_)
      clear hK K
      refine T_call 15 (by kernel_rfl) rfl (fun K hK => ?_)
      go_simp
      refine HSA.out.mono ?_
      rintro e T3 ⟨rfl, hb6⟩
      have hS3 := hS1.trans (hb6.mono hS1.size)
      clear hb6 HSA
      clear hS1
      have hS1 := hS3
      clear hS3
      dsimp only
      refine hK.out _ _ hS1 (fun _ => ?_)
      clear hK K
      refine T_on 16 (.bool false) rfl (by kernel_rfl) (fun _ _ _ h => h) hS1 (fun W hW => by go_simp) ?_
      refine wpAnyH_done (by kernel_rfl) ?_ _
      go_simp
      have HB9 := Lib.hid (HB2.out.trans (hS1.mono HB2.out.size))
      clear hS1 HHV HRAW
      go_wp2_with fail
      go_roundw
      case rel => exact ⟨p + 1, by go_num, by omega, HB9.out⟩
      case measure => simp [intOf]; omega
end Go.Proofs.YtknijddlacmelaaDoor
