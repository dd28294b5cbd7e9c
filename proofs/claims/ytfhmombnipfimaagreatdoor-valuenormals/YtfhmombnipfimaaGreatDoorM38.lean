/-
  The walk over the law ValueNormals.
-/
import Derived.Test.YtfhmombnipfimaaGreatDoorM27
import Derived.Test.YtfhmombnipfimaaGreatDoorM35
import Derived.Test.YtfhmombnipfimaaGreatDoorM36
import Derived.Test.YtfhmombnipfimaaGreatDoorM37
namespace Go.Proofs.YtfhmombnipfimaaGreatDoor
set_option linter.unusedVariables false
open Go.ChangeShapes Go.WideShapes Go.ChangeAt Go.RowKit

/-- what Normal answers, in one form -/
def NmV (s : SC) (f : Nat) (t : Int) (x : Nd) (w0 : World) (e : Ending) (w' : World) : Prop :=
  ∃ vv ee, e = .returned (.tuple #[vv, .int .i64 ee]) ∧ ((¬ FitX s f t x ∧ vv = .nilIface ∧ ee = 1) ∨ (FitX s f t x ∧ ee = 0 ∧ HeldV w' (fun b => b < w'.heap.size) f vv (normN s.ms f x))) ∧ Below w0.heap.size w0 w'
theorem nmV_of {s : SC} {f : Nat} {t : Int} {x : Nd} {w0 w : World} {e : Ending} {w' : World} (h : NmAns s f t x w e w') (hb : Below w0.heap.size w0 w) : NmV s f t x w0 e w' := by
  obtain ⟨⟨h1, rfl⟩ | ⟨h1, v, rfl, h2⟩, h3⟩ := h
  · exact ⟨_, _, rfl, .inl ⟨h1, rfl, rfl⟩, hb.trans (h3.mono hb.size)⟩
  · exact ⟨_, _, rfl, .inr ⟨h1, rfl, h2.mv (fun _ _ => rfl) (fun b hb => hb.2)⟩, hb.trans (h3.mono hb.size)⟩
/-- what Ours and the document's Normal answer: a clean node -/
theorem row_cn {x : Nd} {fsr : Value} {a0 a1 a2 : Int} {a3 : Bool} {a4 : ByteArray} {a5 : Int} {sa : Option Addr} {sl sc : Nat} (h : [.int .i64 a0, .int .i64 a1, .int .u64 a2, .bool a3, .string a4, .int .i64 a5, .slice sa sl sc] = clS.row x fsr) :
    a0 = (cn x).kind ∧ a1 = (cn x).n ∧ a2 = (cn x).u ∧ a3 = (cn x).b ∧ a4 = mkB (cn x).s ∧ a5 = (cn x).type ∧ (Value.slice sa sl sc) = if x.kind = 7 then fsr else .slice none 0 0 := by
  have hr : clS.row x fsr = [.int .i64 (cn x).kind, .int .i64 (cn x).n, .int .u64 (cn x).u, .bool (cn x).b, .string (mkB (cn x).s), .int .i64 (cn x).type, if x.kind = 7 then fsr else .slice none 0 0] := rfl
  rw [hr] at h
  simp only [List.cons.injEq, Value.int.injEq, Value.bool.injEq, Value.string.injEq, true_and, and_true] at h
  exact h
theorem sameO_any (f : Nat) (x : Nd) (W : World) (a0 a1 a2 : Int) (a3 : Bool) (a4 : ByteArray) (a5 : Int) (sa : Option Addr) (sl sc : Nat) (fa : Value) (b0 b1 b2 : Int) (b3 : Bool) (b4 : ByteArray) (b5 : Int) (ta : Option Addr) (tl tc : Nat) (fb : Value) (hk : x.kind = 7) (hfit : FitG 100000 10000 f x)
    (ha : [.int .i64 a0, .int .i64 a1, .int .u64 a2, .bool a3, .string a4, .int .i64 a5, .slice sa sl sc] = clS.row x fa) (hga : HeldG clS W (fun b => b < W.heap.size) f fa x.fields)
    (hb : [.int .i64 b0, .int .i64 b1, .int .u64 b2, .bool b3, .string b4, .int .i64 b5, .slice ta tl tc] = clS.row x fb) (hgb : HeldG clS W (fun b => b < W.heap.size) f fb x.fields) :
    Calls Tryz.prog 15 #[.agg #[.int .i64 a0, .int .i64 a1, .int .u64 a2, .bool a3, .string a4, .int .i64 a5, .slice sa sl sc], .agg #[.int .i64 b0, .int .i64 b1, .int .u64 b2, .bool b3, .string b4, .int .i64 b5, .slice ta tl tc]] W fun e w' => e = .returned (.bool true) ∧ Below W.heap.size W w' := by
  obtain ⟨rfl, rfl, rfl, rfl, rfl, rfl, h1⟩ := row_cn ha
  obtain ⟨rfl, rfl, rfl, rfl, rfl, rfl, h2⟩ := row_cn hb
  rw [if_pos hk] at h1 h2
  subst h1 h2
  obtain ⟨_, _, e1⟩ := HeldG.isSl hga
  obtain ⟨_, _, e2⟩ := HeldG.isSl hgb
  obtain ⟨_, rfl, _⟩ := Value.slice.inj e1
  obtain ⟨_, rfl, _⟩ := Value.slice.inj e2
  exact sameN_any f x (cn x) sa ta x.fields.length sc tc W rfl hfit ⟨fun _ => ⟨hga, rfl⟩, fun h => absurd hk h⟩ ⟨fun _ => ⟨hgb, rfl⟩, fun h => absurd hk h⟩
set_option maxHeartbeats 64000000 in
set_option maxRecDepth 20000 in
theorem valueNormals_any (ma ea ta : Option Addr) (nm ne nt mc ec tc : Nat) (s : SC) (t : Int) (f : Nat) (x : Nd) (xa : Option Addr) (xl xc : Nat) (w : World) (hT : Tabs w) (hnm : s.ms.length = nm) (hne : s.es.length = ne) (hnt : s.ts.length = nt) (hbig : BigS s) (hH : HeldSc w (fun b => b < w.heap.size) (.slice ma nm mc) (.slice ea ne ec) (.slice ta nt tc) s) (hG : HeldG rawS w (fun b => b < w.heap.size) f (.slice xa xl xc) x.fields) (hfit : FitG 140737488355328 140737488355328 f x) (hrng : RngG f x) :
    Calls Tryz.prog 3 #[.agg #[.slice ma nm mc, .slice ea ne ec, .slice ta nt tc], .int .i64 t, .agg #[.int .i64 x.kind, .int .i64 x.n, .int .u64 x.u, .bool x.b, .string (mkB x.s), .int .i64 x.type, .slice xa xl xc]] w fun e w' => e = .returned (.bool true) ∧ Below w.heap.size w w' := by
  obtain ⟨Y, hY, hC, hb, hYs⟩ := box_new w #[.slice ma nm mc, .slice ea ne ec, .slice ta nt tc] 26
  obtain ⟨V, hV, hD, hVb, hVs⟩ := box_new Y #[.int .i64 x.kind, .int .i64 x.n, .int .u64 x.u, .bool x.b, .string (mkB x.s), .int .i64 x.type, .slice xa xl xc] 30
  rw [hYs] at hD
  have HY := Lib.hid hY
  have HV := Lib.hid hV
  have hBV := hb.trans (hVb.mono hb.size)
  have HBV := Lib.hid hBV
  have hCV := (hVb.block _ (by omega)).trans hC
  have hVl : w.heap.size + 2 ≤ V.heap.size := by omega
  have HWB : Hid (∀ W, Below V.heap.size V W → Below w.heap.size w W) := fun W hW => hBV.trans (hW.mono hBV.size)
  have HG : Hid (∀ W, Below w.heap.size w W → HeldG rawS W (fun b => b < W.heap.size) f (.slice xa xl xc) x.fields) := fun W hW => HeldG.mv (fun b hb => hW.block b hb) (fun b hb => by have hb' : b < w.heap.size := hb; have := hW.size; omega) hG
  have HA : Hid (∀ W, Below V.heap.size V W → Calls Tryz.prog 9 #[] W fun e w' => e = .returned (.bool true) ∧ Below V.heap.size V w') := fun W hW => (awake9_any W (tabs_below hT (HWB.out W hW))).mono fun e w' ⟨h1, h2⟩ => ⟨h1, hW.trans (h2.mono hW.size)⟩
  have HFW : Hid (∀ W, Below V.heap.size V W → Calls Tryz.prog 10 #[.agg #[.slice ma nm mc, .slice ea ne ec, .slice ta nt tc], .agg #[.int .i64 x.kind, .int .i64 x.n, .int .u64 x.u, .bool x.b, .string (mkB x.s), .int .i64 x.type, .slice xa xl xc]] W fun e w' => FewAns s f x V e w') := fun W hW => (few9_any ma ea ta nm ne nt mc ec tc s f x xa xl xc W hnm hne hnt hbig (heldSc_mv hH (HWB.out W hW)) (HG.out W (HWB.out W hW)) hfit).mono fun e w' ⟨b, h1, h2, h3⟩ => ⟨b, h1, h2, hW.trans (h3.mono hW.size)⟩
  have HTH : Hid (FitG 100000 10000 f x → ∀ W, Below V.heap.size V W → Calls Tryz.prog 12 #[.agg #[.int .i64 x.kind, .int .i64 x.n, .int .u64 x.u, .bool x.b, .string (mkB x.s), .int .i64 x.type, .slice xa xl xc]] W fun e w' => TheirAns f W x e w') := fun hf W hW => theirsN_any f x (.slice xa xl xc) W hf (HG.out W (HWB.out W hW))
  have HCL : Hid (FitG 100000 10000 f x → ∀ W, Below V.heap.size V W → Calls Tryz.prog 14 #[.agg #[.int .i64 x.kind, .int .i64 x.n, .int .u64 x.u, .bool x.b, .string (mkB x.s), .int .i64 x.type, .slice xa xl xc]] W fun e w' => OurAns f W x e w') := fun hf W hW => clean_any f x xa xl xc W hf (HG.out W (HWB.out W hW))
  have HFR : Hid (SmS s → FitG 100000 10000 f x → ∀ (W : World) (z : Nd) (la : Option Addr) (ln lc : Nat), z = cn x → Below V.heap.size V W → (x.kind = 7 → HeldG clS W (fun b => b < W.heap.size) f (.slice la ln lc) x.fields) → Calls Tryz.prog 13 #[.agg #[.slice ma nm mc, .slice ea ne ec, .slice ta nt tc], .int .i64 t, .agg #[.int .i64 z.kind, .int .i64 z.n, .int .u64 z.u, .bool z.b, .string (mkB z.s), .int .i64 z.type, .slice la ln lc]] W fun e w' => FvAns s f t x W e w') := fun hs hf W z la ln lc hz hW hv => fitsRV_any ma ea ta nm ne nt mc ec tc s f t W (tabs_below hT (HWB.out W hW)) hnm hne hnt (fitS_of hs) (heldSc_mv hH (HWB.out W hW)) x z la ln lc hz hv hf
  have HNR : Hid (SmS s → FitG 100000 10000 f x → FitX s f t x → ∀ (W : World) (r0 r1 r2 : Int) (r3 : Bool) (r4 : ByteArray) (r5 : Int) (ra : Option Addr) (rl rc : Nat) (fsr : Value), Below V.heap.size V W → [.int .i64 r0, .int .i64 r1, .int .u64 r2, .bool r3, .string r4, .int .i64 r5, .slice ra rl rc] = clS.row x fsr → (x.kind = 7 → HeldG clS W (fun b => b < W.heap.size) f fsr x.fields) → Calls Tryz.prog 17 #[.agg #[.slice ma nm mc, .slice ea ne ec, .slice ta nt tc], .agg #[.int .i64 r0, .int .i64 r1, .int .u64 r2, .bool r3, .string r4, .int .i64 r5, .slice ra rl rc]] W fun e w' => OurAns f W (normN s.ms f x) e w') := by
    refine (?_ : _ → _ → _ → ∀ (W : World) (r0 r1 r2 : Int) (r3 : Bool) (r4 : ByteArray) (r5 : Int) (ra : Option Addr) (rl rc : Nat) (fsr : Value), _ → _ → _ → _)
    intro hs hf hx W r0 r1 r2 r3 r4 r5 ra rl rc fsr hW hrow hh
    have hgd := good_of_fit (fun m hm y hy => (tyOK_of (fitS_of hs) hx.1 m hm).2 y hy) f 1 t x hx.2.1 hx.2.2.1 hx.2.2.2
    exact normR_of ma ea ta nm ne nt mc ec tc s.ms hnm (tyOK_of (fitS_of hs) hx.1) f x W r0 r1 r2 r3 r4 r5 ra rl rc fsr hgd.1 hgd.2 (heldSc_mv hH (HWB.out W hW)).1 hf hrow (hh hgd.1)
  have HNM : Hid (SmS s → ∀ (y : Nd), FitG 100000 10000 f y → ∀ (W : World) (v : Value), Below V.heap.size V W → HeldV W (fun b => b < W.heap.size) f v y → Calls Tryz.prog 11 #[.agg #[.slice ma nm mc, .slice ea ne ec, .slice ta nt tc], .int .i64 t, v] W fun e w' => NmV s f t y W e w') := fun hs y hf W v hW hv => (normalP_any ma ea ta nm ne nt mc ec tc s f t W (tabs_below hT (HWB.out W hW)) hnm hne hnt (fitS_of hs) (heldSc_mv hH (HWB.out W hW)) v y hv hf).mono fun e w' h => nmV_of h (Below.refl _ _)
  have HFP : Hid (SmS s → ∀ (y : Nd), FitG 100000 10000 f y → ∀ (W : World) (v : Value), Below V.heap.size V W → HeldV W (fun b => b < W.heap.size) f v y → Calls Tryz.prog 18 #[.agg #[.slice ma nm mc, .slice ea ne ec, .slice ta nt tc], .int .i64 t, v] W fun e w' => FvAns s f t y W e w') := fun hs y hf W v hW hv => fitsPV_any ma ea ta nm ne nt mc ec tc s f t W (tabs_below hT (HWB.out W hW)) hnm hne hnt (fitS_of hs) (heldSc_mv hH (HWB.out W hW)) v y hv hf
  have s0 : ∀ W, Below V.heap.size V W → W.cell? ⟨w.heap.size, 0, none⟩ = some (.slice ma nm mc) := fun W hW => (hW.cell (by simp; omega)).trans (cell_at hCV 0 rfl)
  have s1 : ∀ W, Below V.heap.size V W → W.cell? ⟨w.heap.size, 1, none⟩ = some (.slice ea ne ec) := fun W hW => (hW.cell (by simp; omega)).trans (cell_at hCV 1 rfl)
  have s2 : ∀ W, Below V.heap.size V W → W.cell? ⟨w.heap.size, 2, none⟩ = some (.slice ta nt tc) := fun W hW => (hW.cell (by simp; omega)).trans (cell_at hCV 2 rfl)
  have n0 : ∀ W, Below V.heap.size V W → W.cell? ⟨w.heap.size + 1, 0, none⟩ = some (.int .i64 x.kind) := fun W hW => (hW.cell (by simp; omega)).trans (cell_at hD 0 rfl)
  have n1 : ∀ W, Below V.heap.size V W → W.cell? ⟨w.heap.size + 1, 1, none⟩ = some (.int .i64 x.n) := fun W hW => (hW.cell (by simp; omega)).trans (cell_at hD 1 rfl)
  have n2 : ∀ W, Below V.heap.size V W → W.cell? ⟨w.heap.size + 1, 2, none⟩ = some (.int .u64 x.u) := fun W hW => (hW.cell (by simp; omega)).trans (cell_at hD 2 rfl)
  have n3 : ∀ W, Below V.heap.size V W → W.cell? ⟨w.heap.size + 1, 3, none⟩ = some (.bool x.b) := fun W hW => (hW.cell (by simp; omega)).trans (cell_at hD 3 rfl)
  have n4 : ∀ W, Below V.heap.size V W → W.cell? ⟨w.heap.size + 1, 4, none⟩ = some (.string (mkB x.s)) := fun W hW => (hW.cell (by simp; omega)).trans (cell_at hD 4 rfl)
  have n5 : ∀ W, Below V.heap.size V W → W.cell? ⟨w.heap.size + 1, 5, none⟩ = some (.int .i64 x.type) := fun W hW => (hW.cell (by simp; omega)).trans (cell_at hD 5 rfl)
  have n6 : ∀ W, Below V.heap.size V W → W.cell? ⟨w.heap.size + 1, 6, none⟩ = some (.slice xa xl xc) := fun W hW => (hW.cell (by simp; omega)).trans (cell_at hD 6 rfl)
  have hS0 : Below V.heap.size V V := Below.refl _ _
  clear hY hC hb hYs hV hD hVb hVs hBV hCV hH hG hfit hbig hnm hne hnt hT
  go_enter Tryz.func3, Tryz.ntmps3
  go_upto_region 1 with fail
  rw [HY.out, HV.out]
  go_wp2_with fail
  refine (HA.out _ hS0).mono ?_
  rintro e W1 ⟨rfl, hS1⟩
  clear hS0
  have b0 := s0 W1 hS1
  have b1 := s1 W1 hS1
  have b2 := s2 W1 hS1
  have k0 := n0 W1 hS1
  have k1 := n1 W1 hS1
  have k2 := n2 W1 hS1
  have k3 := n3 W1 hS1
  have k4 := n4 W1 hS1
  have k5 := n5 W1 hS1
  have k6 := n6 W1 hS1
  go_wp2_with fail
  refine (HFW.out _ hS1).mono ?_
  rintro e W2 ⟨b, rfl, hsm, hS0⟩
  have HSM := Lib.hid hsm
  clear hS1 hsm b0 b1 b2 k0 k1 k2 k3 k4 k5 k6
  cases b
  case false =>
    go_wp2_with fail
    refine (HA.out _ hS0).mono ?_
    rintro e W3 ⟨rfl, hS1⟩
    have HE := Lib.hid (HWB.out _ hS1)
    go_wp2_with fail
    go_ret
    exact ⟨rfl, HE.out⟩
  obtain ⟨hss, hff, hwt⟩ := HSM.out (by simp)
  have HSS := Lib.hid hss
  have HFF := Lib.hid hff
  have HTH2 := Lib.hid (HTH.out hff)
  have HCL2 := Lib.hid (HCL.out hff)
  have HFR2 := Lib.hid (HFR.out hss hff)
  have HNR2 := Lib.hid (HNR.out hss hff)
  have HNM2 := Lib.hid (HNM.out hss)
  have HFP2 := Lib.hid (HFP.out hss)
  have HFN : Hid (FitG 100000 10000 f (normN s.ms f x)) := norm_fitG s.ms (bs := 100000) (bf := 10000) f x hff
  clear HTH HCL HFR HNR HNM HFP hss hff hwt HSM HA HFW
  go_upto_region 3 with fail
  have hS1 : Below V.heap.size V W2.drew := hS0.drew
  clear hS0
  have hS0 := hS1
  clear hS1
  refine wp_region_held_drew (S := fun W => Below V.heap.size V W) (by kernel_rfl) hS0 (fun _ => ?_)
  refine T_on 0 (.agg #[.slice ma nm mc, .slice ea ne ec, .slice ta nt tc]) rfl (by kernel_rfl) (fun _ _ _ h => h) hS0 (fun W hW => by have c0 := s0 W hW; have c1 := s1 W hW; have c2 := s2 W hW; go_simp) ?_
  refine T_on 1 (.int .i64 t) rfl (by kernel_rfl) (fun _ _ _ h => h) hS0 (fun W hW => by go_simp) ?_
  refine T_on 2 (.agg #[.int .i64 x.kind, .int .i64 x.n, .int .u64 x.u, .bool x.b, .string (mkB x.s), .int .i64 x.type, .slice xa xl xc]) rfl (by kernel_rfl) (fun _ _ _ h => h) hS0 (fun W hW => by have c0 := n0 W hW; have c1 := n1 W hW; have c2 := n2 W hW; have c3 := n3 W hW; have c4 := n4 W hW; have c5 := n5 W hW; have c6 := n6 W hW; go_simp) ?_
  refine T_call 3 (by kernel_rfl) rfl (fun K hK => ?_)
  go_simp
  refine (HTH2.out _ hS0).mono ?_
  rintro e U1 ⟨v1, rfl, hv1, hb1⟩
  have hS1 := hS0.trans (hb1.mono hS0.size)
  clear hb1
  clear hS0
  have hS0 := hS1
  clear hS1
  have HV1 : Hid (HeldV U1 (fun b => b < U1.heap.size) f v1 x) := hv1.mv (fun _ _ => rfl) (fun b hb => hb.2)
  clear hv1
  dsimp only
  refine hK.out _ _ hS0 (fun _ => ?_)
  clear hK K
  refine T_call 4 (by kernel_rfl) rfl (fun K hK => ?_)
  go_simp
  refine (HNM2.out x HFF.out _ _ hS0 HV1.out).mono ?_
  rintro e U2 ⟨vv, ee, rfl, hor, hb2⟩
  have hS1 := hS0.trans (hb2.mono hS0.size)
  clear hb2
  clear hS0
  have hS0 := hS1
  clear hS1
  have HOR := Lib.hid hor
  clear hor
  dsimp only
  refine hK.out _ _ hS0 (fun _ => ?_)
  clear hK K
  refine T_on 5 (.tuple #[vv, .int .i64 ee]) rfl (by kernel_rfl) (fun _ _ _ h => h) hS0 (fun W hW => by go_simp) ?_
  refine T_on 6 (vv) rfl (by kernel_rfl) (fun _ _ _ h => h) hS0 (fun W hW => by go_simp) ?_
  refine T_on 7 (.int .i64 ee) rfl (by kernel_rfl) (fun _ _ _ h => h) hS0 (fun W hW => by go_simp) ?_
  refine T_on 8 (vv) rfl (by kernel_rfl) (fun _ _ _ h => h) hS0 (fun W hW => by go_simp) ?_
  refine T_on 9 (.int .i64 ee) rfl (by kernel_rfl) (fun _ _ _ h => h) hS0 (fun W hW => by go_simp) ?_
  refine wpAnyH_done (by kernel_rfl) ?_ _
  go_simp
  have HVU : Hid (∀ W, Below U2.heap.size U2 W → Below V.heap.size V W) := fun W hW => hS0.trans (hW.mono hS0.size)
  replace s0 : ∀ W, Below U2.heap.size U2 W → W.cell? ⟨w.heap.size, 0, none⟩ = some (.slice ma nm mc) := fun W hW => s0 W (HVU.out W hW)
  replace s1 : ∀ W, Below U2.heap.size U2 W → W.cell? ⟨w.heap.size, 1, none⟩ = some (.slice ea ne ec) := fun W hW => s1 W (HVU.out W hW)
  replace s2 : ∀ W, Below U2.heap.size U2 W → W.cell? ⟨w.heap.size, 2, none⟩ = some (.slice ta nt tc) := fun W hW => s2 W (HVU.out W hW)
  replace n0 : ∀ W, Below U2.heap.size U2 W → W.cell? ⟨w.heap.size + 1, 0, none⟩ = some (.int .i64 x.kind) := fun W hW => n0 W (HVU.out W hW)
  replace n1 : ∀ W, Below U2.heap.size U2 W → W.cell? ⟨w.heap.size + 1, 1, none⟩ = some (.int .i64 x.n) := fun W hW => n1 W (HVU.out W hW)
  replace n2 : ∀ W, Below U2.heap.size U2 W → W.cell? ⟨w.heap.size + 1, 2, none⟩ = some (.int .u64 x.u) := fun W hW => n2 W (HVU.out W hW)
  replace n3 : ∀ W, Below U2.heap.size U2 W → W.cell? ⟨w.heap.size + 1, 3, none⟩ = some (.bool x.b) := fun W hW => n3 W (HVU.out W hW)
  replace n4 : ∀ W, Below U2.heap.size U2 W → W.cell? ⟨w.heap.size + 1, 4, none⟩ = some (.string (mkB x.s)) := fun W hW => n4 W (HVU.out W hW)
  replace n5 : ∀ W, Below U2.heap.size U2 W → W.cell? ⟨w.heap.size + 1, 5, none⟩ = some (.int .i64 x.type) := fun W hW => n5 W (HVU.out W hW)
  replace n6 : ∀ W, Below U2.heap.size U2 W → W.cell? ⟨w.heap.size + 1, 6, none⟩ = some (.slice xa xl xc) := fun W hW => n6 W (HVU.out W hW)
  clear hS0
  go_upto_region 4 with fail
  have hS0 : Below U2.heap.size U2 U2.drew := (Below.refl _ _).drew
  refine wp_region_held_drew (S := fun W => Below U2.heap.size U2 W) (by kernel_rfl) hS0 (fun _ => ?_)
  refine T_on 0 (.agg #[.slice ma nm mc, .slice ea ne ec, .slice ta nt tc]) rfl (by kernel_rfl) (fun _ _ _ h => h) hS0 (fun W hW => by have c0 := s0 W hW; have c1 := s1 W hW; have c2 := s2 W hW; go_simp) ?_
  refine T_on 1 (.int .i64 t) rfl (by kernel_rfl) (fun _ _ _ h => h) hS0 (fun W hW => by go_simp) ?_
  refine T_on 2 (.agg #[.int .i64 x.kind, .int .i64 x.n, .int .u64 x.u, .bool x.b, .string (mkB x.s), .int .i64 x.type, .slice xa xl xc]) rfl (by kernel_rfl) (fun _ _ _ h => h) hS0 (fun W hW => by have c0 := n0 W hW; have c1 := n1 W hW; have c2 := n2 W hW; have c3 := n3 W hW; have c4 := n4 W hW; have c5 := n5 W hW; have c6 := n6 W hW; go_simp) ?_
  refine T_call 3 (by kernel_rfl) rfl (fun K hK => ?_)
  go_simp
  refine (HCL2.out _ (HVU.out _ hS0)).mono ?_
  rintro e U3 ⟨a0, a1, a2, a3, a4, a5, aa, al, ac, af, rfl, arow, ahg, hb3⟩
  have hS1 := hS0.trans (hb3.mono hS0.size)
  have hs3 := hb3.size
  clear hb3
  have HC2 : Hid (Calls Tryz.prog 13 #[.agg #[.slice ma nm mc, .slice ea ne ec, .slice ta nt tc], .int .i64 t, .agg #[.int .i64 a0, .int .i64 a1, .int .u64 a2, .bool a3, .string a4, .int .i64 a5, .slice aa al ac]] U3 fun e w' => FvAns s f t x U3 e w') := by
    refine (?_ : Calls _ _ _ _ _)
    obtain ⟨rfl, rfl, rfl, rfl, rfl, rfl, h7⟩ := row_cn arow
    refine HFR2.out U3 (cn x) aa al ac rfl (HVU.out _ hS1) (fun hk => ?_)
    rw [if_pos hk] at h7
    rw [h7]
    exact HeldG.mv (fun _ _ => rfl) (fun b hb => hb.2) (ahg hk)
  clear arow ahg
  clear hS0
  have hS0 := hS1
  clear hS1
  dsimp only
  refine hK.out _ _ hS0 (fun _ => ?_)
  clear hK K
  refine T_call 4 (by kernel_rfl) rfl (fun K hK => ?_)
  go_simp
  refine HC2.out.mono ?_
  rintro e U4 ⟨p1, rfl, hp1, hb4⟩
  have hS1 := hS0.trans (hb4.mono hS0.size)
  clear hb4
  have HP1 := Lib.hid hp1
  clear hp1
  clear hS0
  have hS0 := hS1
  clear hS1
  dsimp only
  refine hK.out _ _ hS0 (fun _ => ?_)
  clear hK K
  refine T_on 5 (.bool (!p1)) rfl (by kernel_rfl) (fun _ _ _ h => h) hS0 (fun W hW => by go_simp) ?_
  refine wpAnyH_done (by kernel_rfl) ?_ _
  go_simp
  cases p1
  case false =>
    have hnf : ¬ FitX s f t x := fun h => by have := HP1.out.2 h; cases this
    rcases HOR.out with ⟨_, hvv, hee⟩ | ⟨hx, _⟩
    · subst hvv hee
      have HE := Lib.hid (HWB.out _ (HVU.out _ hS0))
      clear HOR hnf
      go_wp2_with fail
      go_ret
      exact ⟨rfl, HE.out⟩
    · exact absurd hx hnf
  case true =>
  have hfx : FitX s f t x := HP1.out.1 rfl
  have HFX := Lib.hid hfx
  rcases HOR.out with ⟨hno, _⟩ | ⟨_, hee, hvv⟩
  · exact absurd hfx hno
  subst hee
  have HVV := Lib.hid hvv
  have hok := tyOK_of (fitS_of HSS.out) hfx.1
  have hgd := good_of_fit (fun m hm y hy => (hok m hm).2 y hy) f 1 t x hfx.2.1 hfx.2.2.1 hfx.2.2.2
  have hk7 : (normN s.ms f x).kind = 7 := by rw [norm_kind]; exact hgd.1
  have HK7 := Lib.hid hk7
  have hfn : FitX s f t (normN s.ms f x) := ⟨hfx.1, hfx.2.1, hfx.2.2.1, norm_fit (numOK_of (fitS_of HSS.out) hfx.1) f 1 t x hfx.2.1 hfx.2.2.1 hfx.2.2.2⟩
  have HFXN := Lib.hid hfn
  have HKT : Hid (KindT f 1 (normN s.ms f x)) := kindT_of f 1 t _ hfn.2.2.2
  have HNN : Hid (normN s.ms f (normN s.ms f x) = normN s.ms f x) := norm_norm s.ms f x
  have HK1 := Lib.hid hgd.1
  have hfv := val_form hvv
  clear HOR HP1 hvv hok hgd hk7 hfn hfx HV1
  have hS1 := hS0.drew
  clear hS0
  have hS0 := hS1
  clear hS1
  have HVM : Hid (∀ W, Below U2.heap.size U2 W → HeldV W (fun b => b < W.heap.size) f vv (normN s.ms f x)) := fun W hW => HVV.out.mv (fun b hb => hW.block b hb) (fun b hb => by have hb' : b < U2.heap.size := hb; have := hW.size; omega)
  obtain ⟨nx, hNX⟩ : ∃ nx, normN s.ms f x = nx := ⟨_, rfl⟩
  have HNXE := Lib.hid hNX
  rw [hNX] at HVM HFN HK7 HFXN HKT HNN
  clear hNX HVV hfv
  go_upto_region 6 with fail
  refine wp_region_held_drew (S := fun W => Below U2.heap.size U2 W) (by kernel_rfl) hS0 (fun _ => ?_)
  refine T_on 0 (.int .i64 0) rfl (by kernel_rfl) (fun _ _ _ h => h) hS0 (fun W hW => by go_simp) ?_
  refine T_on 1 (.bool false) rfl (by kernel_rfl) (fun _ _ _ h => h) hS0 (fun W hW => by go_simp) ?_
  refine T_on 2 (.bool false) rfl (by kernel_rfl) (fun _ _ _ h => h) hS0 (fun W hW => by go_simp) ?_
  refine T_on 3 (vv) rfl (by kernel_rfl) (fun _ _ _ h => h) hS0 (fun W hW => by go_simp) ?_
  refine T_on 5 (.agg #[.slice ma nm mc, .slice ea ne ec, .slice ta nt tc]) rfl (by kernel_rfl) (fun _ _ _ h => h) hS0 (fun W hW => by have c0 := s0 W hW; have c1 := s1 W hW; have c2 := s2 W hW; go_simp) ?_
  refine T_on 6 (.agg #[.int .i64 x.kind, .int .i64 x.n, .int .u64 x.u, .bool x.b, .string (mkB x.s), .int .i64 x.type, .slice xa xl xc]) rfl (by kernel_rfl) (fun _ _ _ h => h) hS0 (fun W hW => by have c0 := n0 W hW; have c1 := n1 W hW; have c2 := n2 W hW; have c3 := n3 W hW; have c4 := n4 W hW; have c5 := n5 W hW; have c6 := n6 W hW; go_simp) ?_
  refine T_call 4 (by kernel_rfl) rfl (fun K hK => ?_)
  go_simp
  refine (oursN_any f nx vv _ HFN.out (HVM.out _ hS0)).mono ?_
  rintro e U5 ⟨o0, o1, o2, o3, o4, o5, oa, ol, oc, of, rfl, orow, ohg, hb5⟩
  have hS1 := hS0.trans (hb5.mono hS0.size)
  have HOROW := Lib.hid orow
  have HOHG : Hid (∀ W, Below U5.heap.size U5 W → HeldG clS W (fun b => b < W.heap.size) f of nx.fields) := fun W hW => HeldG.mv (fun b hb => hW.block b hb.2) (fun b hb => by have := hb.2; have := hW.size; show b < W.heap.size; omega) (ohg HK7.out)
  clear hb5 orow ohg
  clear hS0
  have hS0 := hS1
  clear hS1
  have hR5 : Below U5.heap.size U5 U5 := Below.refl _ _
  dsimp only
  refine hK.out _ _ hS0 (fun _ => ?_)
  clear hK K
  refine T_call 7 (by kernel_rfl) rfl (fun K hK => ?_)
  go_simp
  refine (HCL2.out _ (HVU.out _ hS0)).mono ?_
  rintro e U6 ⟨c0, c1, c2, c3, c4, c5, ca, cl, cc, cf, rfl, crow, chg, hb6⟩
  have hS1 := hS0.trans (hb6.mono hS0.size)
  have hR6 := hR5.trans (hb6.mono hR5.size)
  have HNRC := Lib.hid (HNR2.out HFX.out U6 c0 c1 c2 c3 c4 c5 ca cl cc cf (HVU.out _ hS1) crow (fun hk => HeldG.mv (fun _ _ => rfl) (fun b hb => hb.2) (chg hk)))
  clear hb6 crow chg hR5
  clear hS0
  have hS0 := hS1
  clear hS1
  dsimp only
  refine hK.out _ _ hS0 (fun _ => ?_)
  clear hK K
  refine T_call 8 (by kernel_rfl) rfl (fun K hK => ?_)
  go_simp
  refine HNRC.out.mono ?_
  rw [HNXE.out]
  rintro e U7 ⟨r0, r1, r2, r3, r4, r5, ra, rl, rc, rf, rfl, rrow, rhg, hb7⟩
  have hS1 := hS0.trans (hb7.mono hS0.size)
  have hR7 := hR6.trans (hb7.mono hR6.size)
  have HSMC := Lib.hid (sameO_any f nx U7 o0 o1 o2 o3 o4 o5 oa ol oc of r0 r1 r2 r3 r4 r5 ra rl rc rf HK7.out HFN.out HOROW.out (HOHG.out _ hR7) rrow (HeldG.mv (fun _ _ => rfl) (fun b hb => hb.2) (rhg HK7.out)))
  clear hb7 rrow rhg hR6 hR7 HNRC
  clear hS0
  have hS0 := hS1
  clear hS1
  dsimp only
  refine hK.out _ _ hS0 (fun _ => ?_)
  clear hK K
  refine T_call 9 (by kernel_rfl) rfl (fun K hK => ?_)
  go_simp
  refine HSMC.out.mono ?_
  rintro e U8 ⟨rfl, hb8⟩
  have hS1 := hS0.trans (hb8.mono hS0.size)
  clear hb8 HSMC HOHG HOROW
  clear hS0
  have hS0 := hS1
  clear hS1
  dsimp only
  refine hK.out _ _ hS0 (fun _ => ?_)
  clear hK K
  refine T_on 10 (.bool false) rfl (by kernel_rfl) (fun _ _ _ h => h) hS0 (fun W hW => by go_simp) ?_
  refine T_on 11 (.bool false) rfl (by kernel_rfl) (fun _ _ _ h => h) hS0 (fun W hW => by go_simp) ?_
  refine T_on 12 (.bool false) rfl (by kernel_rfl) (fun _ _ _ h => h) hS0 (fun W hW => by go_simp) ?_
  refine T_on 13 (.agg #[.slice ma nm mc, .slice ea ne ec, .slice ta nt tc]) rfl (by kernel_rfl) (fun _ _ _ h => h) hS0 (fun W hW => by have c0 := s0 W hW; have c1 := s1 W hW; have c2 := s2 W hW; go_simp) ?_
  refine T_on 14 (.int .i64 t) rfl (by kernel_rfl) (fun _ _ _ h => h) hS0 (fun W hW => by go_simp) ?_
  refine T_on 15 (vv) rfl (by kernel_rfl) (fun _ _ _ h => h) hS0 (fun W hW => by go_simp) ?_
  refine T_call 16 (by kernel_rfl) rfl (fun K hK => ?_)
  go_simp
  refine (HFP2.out nx HFN.out _ vv (HVU.out _ hS0) (HVM.out _ hS0)).mono ?_
  rintro e U9 ⟨p9, rfl, hp9, hb9⟩
  have hS1 := hS0.trans (hb9.mono hS0.size)
  have hp9t : p9 = true := hp9.2 HFXN.out
  subst hp9t
  clear hb9 hp9
  clear hS0
  have hS0 := hS1
  clear hS1
  dsimp only
  refine hK.out _ _ hS0 (fun _ => ?_)
  clear hK K
  refine T_on 17 (.bool false) rfl (by kernel_rfl) (fun _ _ _ h => h) hS0 (fun W hW => by go_simp) ?_
  refine T_on 18 (.bool false) rfl (by kernel_rfl) (fun _ _ _ h => h) hS0 (fun W hW => by go_simp) ?_
  refine wpAnyH_done (by kernel_rfl) ?_ _
  go_simp
  obtain ⟨Wn, hWn⟩ : ∃ W, W = (U9 : World) := ⟨_, rfl⟩
  have b0 := s0 U9 hS0
  have b1 := s1 U9 hS0
  have b2 := s2 U9 hS0
  have hnm2 := HNM2.out nx HFN.out U9 vv (HVU.out _ hS0) (HVM.out _ hS0)
  go_wp2_with fail
  refine hnm2.mono ?_
  rintro e U10 ⟨v2, e2, rfl, hor, hb10⟩
  rcases hor with ⟨hno, _⟩ | ⟨_, he2, hv2⟩
  · exact absurd HFXN.out hno
  subst he2
  rw [HNN.out] at hv2
  have hS1 := hS0.trans (hb10.mono hS0.size)
  have hsp := sameV_any f nx v2 vv U10 HFN.out (by rw [HK7.out]; omega) (fun _ => HKT.out) hv2 (HVM.out _ hS1)
  have HE10 := Lib.hid hS1
  clear hnm2 hb10 hv2 hS1 hS0 b0 b1 b2
  go_wp2_with fail
  refine hsp.mono ?_
  rintro e U11 ⟨rfl, hb11⟩
  have HE := Lib.hid (HWB.out _ (HVU.out _ (HE10.out.trans (hb11.mono HE10.out.size))))
  clear hsp hb11
  go_wp2_with fail
  go_ret
  exact ⟨rfl, HE.out⟩
end Go.Proofs.YtfhmombnipfimaaGreatDoor
