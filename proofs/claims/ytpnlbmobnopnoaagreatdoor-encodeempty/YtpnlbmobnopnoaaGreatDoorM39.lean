/-
  The walk over the law EncodeEmpty.
-/
import Derived.Test.YtpnlbmobnopnoaaGreatDoorM34
import Derived.Test.YtpnlbmobnopnoaaGreatDoorM36
import Derived.Test.YtpnlbmobnopnoaaGreatDoorM38
namespace Go.Proofs.YtpnlbmobnopnoaaGreatDoor
set_option linter.unusedVariables false
open Go.ChangeShapes Go.WideShapes Go.ChangeAt Go.RowKit

theorem wire_some {rec : Nd → List Int} {fd : FD} {vs : List Nd} (h : vs ≠ []) : (wireL rec fd vs).flatMap WF.bytes ≠ [] := by
  have hb : ∀ q : WF, q.bytes ≠ [] := fun q e => by
    have := congrArg List.length e
    unfold WF.bytes fbytes at this
    rw [List.length_append, List.length_nil] at this
    have := vint_pos (8 * q.num + q.ty).toNat
    omega
  unfold wireL
  split
  · simp only [List.flatMap_cons, List.flatMap_nil, List.append_nil]
    exact hb _
  · cases vs with
    | nil => exact absurd rfl h
    | cons v vs =>
      intro e
      rw [List.map_cons, List.flatMap_cons, List.append_eq_nil_iff] at e
      exact hb _ e.1
/-- only a normal value without fields has no bytes -/
theorem enc_empty {s : SC} (hf : FitS s) {f : Nat} {t : Int} {x : Nd} (hx : FitX s f t x) (h0 : f = 0 → x.fields = []) : (encB s f x).length = 0 ↔ (normN s.ms f x).fields = [] ∧ (normN s.ms f x).s = [] := by
  have hno := numOK_of hf hx.1
  have hft := norm_fit hno f 1 t x hx.2.1 hx.2.2.1 hx.2.2.2
  have hgd := (good_of_fit (fun m hm y hy => (tyOK_of hf hx.1 m hm).2 y hy) f 1 t _ hx.2.1 hx.2.2.1 hft).2
  have hen := encG_of hno f 1 t _ hx.2.1 hx.2.2.1 hft
  have h0' : f = 0 → (normN s.ms f x).fields = [] := fun h => by subst h; exact h0 rfl
  unfold encB
  generalize normN s.ms f x = y at *
  rw [List.length_eq_zero_iff]
  have hs : ints y.s = [] ↔ y.s = [] := by unfold ints; simp
  cases f with
  | zero => exact ⟨fun h => ⟨h0' rfl, hs.1 h⟩, fun h => hs.2 h.2⟩
  | succ f =>
    unfold msgB
    rw [List.append_eq_nil_iff, hs]
    refine ⟨fun h => ⟨?_, h.2⟩, fun h => ⟨by rw [h.1]; rfl, h.2⟩⟩
    cases hfl : y.fields with
    | nil => rfl
    | cons p l =>
      have h1 := h.1
      rw [hfl, List.flatMap_cons, List.append_eq_nil_iff] at h1
      obtain ⟨fd, hfd, _⟩ := hen.2 p (by rw [hfl]; exact List.mem_cons_self)
      have hne := (hgd.2 p (by rw [hfl]; exact List.mem_cons_self)).2.1
      unfold fldB at h1
      rw [hfd] at h1
      exact absurd h1.1 (wire_some hne)
theorem normR_of (ma ea ta : Option Addr) (nm ne nt mc ec tc : Nat) (ms : List MD) (hnm : ms.length = nm) (hok : TyOK ms) (f : Nat) (x : Nd) (W : World) (r0 r1 r2 : Int) (r3 : Bool) (r4 : ByteArray) (r5 : Int) (ra : Option Addr) (rl rc : Nat) (fsr : Value) (hk : x.kind = 7) (hg : GoodT ms f x) (hM : HeldM W (fun b => b < W.heap.size) (.slice ma nm mc) ms) (hfit : FitG 100000 1000 f x)
    (hrow : [.int .i64 r0, .int .i64 r1, .int .u64 r2, .bool r3, .string r4, .int .i64 r5, .slice ra rl rc] = clS.row x fsr) (hH : HeldG clS W (fun b => b < W.heap.size) f fsr x.fields) :
    Calls Tryz.prog 19 #[.agg #[.slice ma nm mc, .slice ea ne ec, .slice ta nt tc], .agg #[.int .i64 r0, .int .i64 r1, .int .u64 r2, .bool r3, .string r4, .int .i64 r5, .slice ra rl rc]] W fun e w' => OurAns f W (normN ms f x) e w' := by
  have hr : clS.row x fsr = [.int .i64 (cn x).kind, .int .i64 (cn x).n, .int .u64 (cn x).u, .bool (cn x).b, .string (mkB (cn x).s), .int .i64 (cn x).type, if x.kind = 7 then fsr else .slice none 0 0] := rfl
  rw [hr] at hrow
  simp only [List.cons.injEq, Value.int.injEq, Value.bool.injEq, Value.string.injEq, true_and, and_true] at hrow
  obtain ⟨rfl, rfl, rfl, rfl, rfl, rfl, h7⟩ := hrow
  rw [if_pos hk] at h7
  subst h7
  obtain ⟨a, c, he⟩ := HeldG.isSl hH
  have hl : x.fields.length = rl := (Value.slice.inj he).2.1.symm
  exact normR_any ma ea ta nm ne nt mc ec tc ms hnm hok f x (cn x) ra rl rc W rfl hk hg hM hfit hH hl
theorem row_parts {f : Nat} {y : Nd} {W : World} {S : Nat → Prop} {r0 r1 r2 : Int} {r3 : Bool} {r4 : ByteArray} {r5 : Int} {ra : Option Addr} {rl rc : Nat} {fsr : Value} (hk : y.kind = 7)
    (hrow : [.int .i64 r0, .int .i64 r1, .int .u64 r2, .bool r3, .string r4, .int .i64 r5, .slice ra rl rc] = clS.row y fsr) (hH : HeldG clS W S f fsr y.fields) : r4 = mkB y.s ∧ rl = y.fields.length := by
  have hr : clS.row y fsr = [.int .i64 (cn y).kind, .int .i64 (cn y).n, .int .u64 (cn y).u, .bool (cn y).b, .string (mkB (cn y).s), .int .i64 (cn y).type, if y.kind = 7 then fsr else .slice none 0 0] := rfl
  rw [hr] at hrow
  simp only [List.cons.injEq, Value.int.injEq, Value.bool.injEq, Value.string.injEq, true_and, and_true] at hrow
  obtain ⟨_, _, _, _, h4, _, h7⟩ := hrow
  rw [if_pos hk] at h7
  subst h7
  obtain ⟨a, c, he⟩ := HeldG.isSl hH
  refine ⟨?_, (Value.slice.inj he).2.1⟩
  rw [h4, cn_s (.inr (.inr hk))]
set_option maxHeartbeats 64000000 in
set_option maxRecDepth 20000 in
theorem encodeEmpty_any (ma ea ta : Option Addr) (nm ne nt mc ec tc : Nat) (s : SC) (t : Int) (f : Nat) (x : Nd) (xa : Option Addr) (xl xc : Nat) (w : World) (hT : Tabs w) (hnm : s.ms.length = nm) (hne : s.es.length = ne) (hnt : s.ts.length = nt) (hbig : BigS s) (hH : HeldSc w (fun b => b < w.heap.size) (.slice ma nm mc) (.slice ea ne ec) (.slice ta nt tc) s) (hG : HeldG rawS w (fun b => b < w.heap.size) f (.slice xa xl xc) x.fields) (hfit : FitG 140737488355328 140737488355328 f x) (hrng : RngG f x) :
    Calls Tryz.prog 6 #[.agg #[.slice ma nm mc, .slice ea ne ec, .slice ta nt tc], .int .i64 t, .agg #[.int .i64 x.kind, .int .i64 x.n, .int .u64 x.u, .bool x.b, .string (mkB x.s), .int .i64 x.type, .slice xa xl xc]] w fun e w' => e = .returned (.bool true) ∧ Below w.heap.size w w' := by
  obtain ⟨Y, hY, hC, hb, hYs⟩ := box_new w #[.slice ma nm mc, .slice ea ne ec, .slice ta nt tc] 26
  obtain ⟨V, hV, hD, hVb, hVs⟩ := box_new Y #[.int .i64 x.kind, .int .i64 x.n, .int .u64 x.u, .bool x.b, .string (mkB x.s), .int .i64 x.type, .slice xa xl xc] 30
  rw [hYs] at hD
  have HY := Lib.hid hY
  have HV := Lib.hid hV
  have hBV := hb.trans (hVb.mono hb.size)
  have HBV := Lib.hid hBV
  have hCV := (hVb.block _ (by omega)).trans hC
  have hVl : w.heap.size + 2 ≤ V.heap.size := by omega
  have HWB : Hid (∀ W, Below V.heap.size V W → Below w.heap.size w W) := fun W hW => hBV.trans (hW.mono hBV.size)
  have HG : Hid (∀ W, Below w.heap.size w W → HeldG rawS W (fun b => b < W.heap.size) f (.slice xa xl xc) x.fields) := fun W hW => HeldG.mv (fun b hb => hW.block b hb) (fun b hb => by have hb' : b < w.heap.size := hb; have := hW.size; omega) hG
  have HF0 : Hid (f = 0 → x.fields = []) := by
    refine (?_ : _ → _)
    intro h
    subst h
    exact hG.1
  have HA : Hid (∀ W, Below V.heap.size V W → Calls Tryz.prog 7 #[] W fun e w' => e = .returned (.bool true) ∧ Below V.heap.size V w') := fun W hW => (awake10_any W (tabs_below hT (HWB.out W hW))).mono fun e w' ⟨h1, h2⟩ => ⟨h1, hW.trans (h2.mono hW.size)⟩
  have HFW : Hid (∀ W, Below V.heap.size V W → Calls Tryz.prog 8 #[.agg #[.slice ma nm mc, .slice ea ne ec, .slice ta nt tc], .agg #[.int .i64 x.kind, .int .i64 x.n, .int .u64 x.u, .bool x.b, .string (mkB x.s), .int .i64 x.type, .slice xa xl xc]] W fun e w' => FewAns s f x V e w') := fun W hW => (few9_any ma ea ta nm ne nt mc ec tc s f x xa xl xc W hnm hne hnt hbig (heldSc_mv hH (HWB.out W hW)) (HG.out W (HWB.out W hW)) hfit).mono fun e w' ⟨b, h1, h2, h3⟩ => ⟨b, h1, h2, hW.trans (h3.mono hW.size)⟩
  have HTH : Hid (FitG 100000 1000 f x → ∀ W, Below V.heap.size V W → Calls Tryz.prog 10 #[.agg #[.int .i64 x.kind, .int .i64 x.n, .int .u64 x.u, .bool x.b, .string (mkB x.s), .int .i64 x.type, .slice xa xl xc]] W fun e w' => TheirAns f W x e w') := fun hf W hW => theirsN_any f x (.slice xa xl xc) W hf (HG.out W (HWB.out W hW))
  have HCL : Hid (FitG 100000 1000 f x → ∀ W, Below V.heap.size V W → Calls Tryz.prog 12 #[.agg #[.int .i64 x.kind, .int .i64 x.n, .int .u64 x.u, .bool x.b, .string (mkB x.s), .int .i64 x.type, .slice xa xl xc]] W fun e w' => OurAns f W x e w') := fun hf W hW => clean_any f x xa xl xc W hf (HG.out W (HWB.out W hW))
  have HFR : Hid (SmS s → FitG 100000 1000 f x → ∀ (W : World) (z : Nd) (la : Option Addr) (ln lc : Nat), z = cn x → Below V.heap.size V W → (x.kind = 7 → HeldG clS W (fun b => b < W.heap.size) f (.slice la ln lc) x.fields) → Calls Tryz.prog 18 #[.agg #[.slice ma nm mc, .slice ea ne ec, .slice ta nt tc], .int .i64 t, .agg #[.int .i64 z.kind, .int .i64 z.n, .int .u64 z.u, .bool z.b, .string (mkB z.s), .int .i64 z.type, .slice la ln lc]] W fun e w' => FvAns s f t x V e w') := fun hs hf W z la ln lc hz hW hv => (fitsRV_any ma ea ta nm ne nt mc ec tc s f t W (tabs_below hT (HWB.out W hW)) hnm hne hnt (fitS_of hs) (heldSc_mv hH (HWB.out W hW)) x z la ln lc hz hv hf).mono fun e w' ⟨b, h1, h2, h3⟩ => ⟨b, h1, h2, hW.trans (h3.mono hW.size)⟩
  have HNR : Hid (SmS s → FitG 100000 1000 f x → FitX s f t x → ∀ (W : World) (r0 r1 r2 : Int) (r3 : Bool) (r4 : ByteArray) (r5 : Int) (ra : Option Addr) (rl rc : Nat) (fsr : Value), Below V.heap.size V W → [.int .i64 r0, .int .i64 r1, .int .u64 r2, .bool r3, .string r4, .int .i64 r5, .slice ra rl rc] = clS.row x fsr → (x.kind = 7 → HeldG clS W (fun b => b < W.heap.size) f fsr x.fields) → Calls Tryz.prog 19 #[.agg #[.slice ma nm mc, .slice ea ne ec, .slice ta nt tc], .agg #[.int .i64 r0, .int .i64 r1, .int .u64 r2, .bool r3, .string r4, .int .i64 r5, .slice ra rl rc]] W fun e w' => OurAns f W (normN s.ms f x) e w') := by
    refine (?_ : _ → _ → _ → ∀ (W : World) (r0 r1 r2 : Int) (r3 : Bool) (r4 : ByteArray) (r5 : Int) (ra : Option Addr) (rl rc : Nat) (fsr : Value), _ → _ → _ → _)
    intro hs hf hx W r0 r1 r2 r3 r4 r5 ra rl rc fsr hW hrow hh
    have hgd := good_of_fit (fun m hm y hy => (tyOK_of (fitS_of hs) hx.1 m hm).2 y hy) f 1 t x hx.2.1 hx.2.2.1 hx.2.2.2
    exact normR_of ma ea ta nm ne nt mc ec tc s.ms hnm (tyOK_of (fitS_of hs) hx.1) f x W r0 r1 r2 r3 r4 r5 ra rl rc fsr hgd.1 hgd.2 (heldSc_mv hH (HWB.out W hW)).1 hf hrow (hh hgd.1)
  have HSZ : Hid (SmS s → FitG 100000 1000 f x → wtN f x ≤ 400 → ∀ (W : World) (v : Value), Below V.heap.size V W → HeldV W (fun b => b < W.heap.size) f v x → Calls Tryz.prog 13 #[.agg #[.slice ma nm mc, .slice ea ne ec, .slice ta nt tc], .int .i64 t, v] W fun e w' => SzAns s f t x W e w') := by
    refine (?_ : _ → _ → _ → ∀ (W : World) (v : Value), _ → _ → _)
    intro hs hf hwt W v hW hv
    exact size10_any ma ea ta nm ne nt mc ec tc s f t W (tabs_below hT (HWB.out W hW)) hnm hne hnt (fitS_of hs) (heldSc_mv hH (HWB.out W hW)) v x hv hf hrng (by have := bnd_wt f x; omega)
  have s0 : ∀ W, Below V.heap.size V W → W.cell? ⟨w.heap.size, 0, none⟩ = some (.slice ma nm mc) := fun W hW => (hW.cell (by simp; omega)).trans (cell_at hCV 0 rfl)
  have s1 : ∀ W, Below V.heap.size V W → W.cell? ⟨w.heap.size, 1, none⟩ = some (.slice ea ne ec) := fun W hW => (hW.cell (by simp; omega)).trans (cell_at hCV 1 rfl)
  have s2 : ∀ W, Below V.heap.size V W → W.cell? ⟨w.heap.size, 2, none⟩ = some (.slice ta nt tc) := fun W hW => (hW.cell (by simp; omega)).trans (cell_at hCV 2 rfl)
  have n0 : ∀ W, Below V.heap.size V W → W.cell? ⟨w.heap.size + 1, 0, none⟩ = some (.int .i64 x.kind) := fun W hW => (hW.cell (by simp; omega)).trans (cell_at hD 0 rfl)
  have n1 : ∀ W, Below V.heap.size V W → W.cell? ⟨w.heap.size + 1, 1, none⟩ = some (.int .i64 x.n) := fun W hW => (hW.cell (by simp; omega)).trans (cell_at hD 1 rfl)
  have n2 : ∀ W, Below V.heap.size V W → W.cell? ⟨w.heap.size + 1, 2, none⟩ = some (.int .u64 x.u) := fun W hW => (hW.cell (by simp; omega)).trans (cell_at hD 2 rfl)
  have n3 : ∀ W, Below V.heap.size V W → W.cell? ⟨w.heap.size + 1, 3, none⟩ = some (.bool x.b) := fun W hW => (hW.cell (by simp; omega)).trans (cell_at hD 3 rfl)
  have n4 : ∀ W, Below V.heap.size V W → W.cell? ⟨w.heap.size + 1, 4, none⟩ = some (.string (mkB x.s)) := fun W hW => (hW.cell (by simp; omega)).trans (cell_at hD 4 rfl)
  have n5 : ∀ W, Below V.heap.size V W → W.cell? ⟨w.heap.size + 1, 5, none⟩ = some (.int .i64 x.type) := fun W hW => (hW.cell (by simp; omega)).trans (cell_at hD 5 rfl)
  have n6 : ∀ W, Below V.heap.size V W → W.cell? ⟨w.heap.size + 1, 6, none⟩ = some (.slice xa xl xc) := fun W hW => (hW.cell (by simp; omega)).trans (cell_at hD 6 rfl)
  have hS0 : Below V.heap.size V V.drew := (Below.refl _ _).drew
  clear hY hC hb hYs hV hD hVb hVs hBV hCV hH hG hfit hbig hnm hne hnt hT hrng
  go_enter Tryz.func6, Tryz.ntmps6
  go_upto_region 1 with fail
  rw [HY.out, HV.out]
  refine wp_region_held_drew (S := fun W => Below V.heap.size V W) (by kernel_rfl) hS0 (fun _ => ?_)
  refine T_call 0 (by kernel_rfl) rfl (fun K hK => ?_)
  go_simp
  refine (HA.out _ hS0).mono ?_
  rintro e U1 ⟨rfl, hS1⟩
  clear hS0
  have hS0 := hS1
  clear hS1
  dsimp only
  refine hK.out _ _ hS0 (fun _ => ?_)
  clear hK K
  refine T_on 1 (.bool false) rfl (by kernel_rfl) (fun _ _ _ h => h) hS0 (fun W hW => by go_simp) ?_
  refine T_on 2 (.bool false) rfl (by kernel_rfl) (fun _ _ _ h => h) hS0 (fun W hW => by go_simp) ?_
  refine T_on 3 (.agg #[.slice ma nm mc, .slice ea ne ec, .slice ta nt tc]) rfl (by kernel_rfl) (fun _ _ _ h => h) hS0 (fun W hW => by have c0 := s0 W hW; have c1 := s1 W hW; have c2 := s2 W hW; go_simp) ?_
  refine T_on 4 (.agg #[.int .i64 x.kind, .int .i64 x.n, .int .u64 x.u, .bool x.b, .string (mkB x.s), .int .i64 x.type, .slice xa xl xc]) rfl (by kernel_rfl) (fun _ _ _ h => h) hS0 (fun W hW => by have c0 := n0 W hW; have c1 := n1 W hW; have c2 := n2 W hW; have c3 := n3 W hW; have c4 := n4 W hW; have c5 := n5 W hW; have c6 := n6 W hW; go_simp) ?_
  refine T_call 5 (by kernel_rfl) rfl (fun K hK => ?_)
  go_simp
  refine (HFW.out _ hS0).mono ?_
  rintro e U2 ⟨b, rfl, hsm, hS1⟩
  have HSM := Lib.hid hsm
  clear hsm
  clear hS0
  have hS0 := hS1
  clear hS1
  dsimp only
  refine hK.out _ _ hS0 (fun _ => ?_)
  clear hK K
  cases b
  case false =>
    refine T_on 6 (.bool true) rfl (by kernel_rfl) (fun _ _ _ h => h) hS0 (fun W hW => by go_simp) ?_
    refine T_on 7 (.bool true) rfl (by kernel_rfl) (fun _ _ _ h => h) hS0 (fun W hW => by go_simp) ?_
    refine T_on 8 (.bool true) rfl (by kernel_rfl) (fun _ _ _ h => h) hS0 (fun W hW => by go_simp) ?_
    refine T_off 9 rfl (by kernel_rfl) (fun _ _ _ h => h) hS0 ?_
    refine T_off 10 rfl (by kernel_rfl) (fun _ _ _ h => h) hS0 ?_
    refine T_off 11 rfl (by kernel_rfl) (fun _ _ _ h => h) hS0 ?_
    refine T_off 12 rfl (by kernel_rfl) (fun _ _ _ h => h) hS0 ?_
    refine T_off 13 rfl (by kernel_rfl) (fun _ _ _ h => h) hS0 ?_
    refine T_off 14 rfl (by kernel_rfl) (fun _ _ _ h => h) hS0 ?_
    refine T_on 15 (.bool true) rfl (by kernel_rfl) (fun _ _ _ h => h) hS0 (fun W hW => by go_simp) ?_
    refine wpAnyH_done (by kernel_rfl) ?_ _
    go_simp
    go_wp2_with fail
    refine (HA.out _ hS0).mono ?_
    rintro e W3 ⟨rfl, hS1⟩
    have HE := Lib.hid (HWB.out _ hS1)
    go_wp2_with fail
    go_ret
    exact ⟨rfl, HE.out⟩
  obtain ⟨hss, hff, hwt⟩ := HSM.out (by simp)
  have HSS := Lib.hid hss
  have HTH2 := Lib.hid (HTH.out hff)
  have HCL2 := Lib.hid (HCL.out hff)
  have HFR2 := Lib.hid (HFR.out hss hff)
  have HNR2 := Lib.hid (HNR.out hss hff)
  have HSZ2 := Lib.hid (HSZ.out hss hff hwt)
  clear HTH HCL HFR HNR HSZ hss hff hwt HSM HFW
  refine T_on 6 (.bool false) rfl (by kernel_rfl) (fun _ _ _ h => h) hS0 (fun W hW => by go_simp) ?_
  refine T_on 7 (.bool false) rfl (by kernel_rfl) (fun _ _ _ h => h) hS0 (fun W hW => by go_simp) ?_
  refine T_on 8 (.bool false) rfl (by kernel_rfl) (fun _ _ _ h => h) hS0 (fun W hW => by go_simp) ?_
  refine T_on 9 (.agg #[.slice ma nm mc, .slice ea ne ec, .slice ta nt tc]) rfl (by kernel_rfl) (fun _ _ _ h => h) hS0 (fun W hW => by have c0 := s0 W hW; have c1 := s1 W hW; have c2 := s2 W hW; go_simp) ?_
  refine T_on 10 (.int .i64 t) rfl (by kernel_rfl) (fun _ _ _ h => h) hS0 (fun W hW => by go_simp) ?_
  refine T_on 11 (.agg #[.int .i64 x.kind, .int .i64 x.n, .int .u64 x.u, .bool x.b, .string (mkB x.s), .int .i64 x.type, .slice xa xl xc]) rfl (by kernel_rfl) (fun _ _ _ h => h) hS0 (fun W hW => by have c0 := n0 W hW; have c1 := n1 W hW; have c2 := n2 W hW; have c3 := n3 W hW; have c4 := n4 W hW; have c5 := n5 W hW; have c6 := n6 W hW; go_simp) ?_
  refine T_call 12 (by kernel_rfl) rfl (fun K hK => ?_)
  go_simp
  refine (HCL2.out _ hS0).mono ?_
  rintro e U3 ⟨a0, a1, a2, a3, a4, a5, aa, al, ac, af, rfl, arow, ahg, hb3⟩
  have hS1 := hS0.trans (hb3.mono hS0.size)
  clear hb3
  have HC2 : Hid (Calls Tryz.prog 18 #[.agg #[.slice ma nm mc, .slice ea ne ec, .slice ta nt tc], .int .i64 t, .agg #[.int .i64 a0, .int .i64 a1, .int .u64 a2, .bool a3, .string a4, .int .i64 a5, .slice aa al ac]] U3 fun e w' => FvAns s f t x V e w') := by
    refine (?_ : Calls _ _ _ _ _)
    have hr : clS.row x af = [.int .i64 (cn x).kind, .int .i64 (cn x).n, .int .u64 (cn x).u, .bool (cn x).b, .string (mkB (cn x).s), .int .i64 (cn x).type, if x.kind = 7 then af else .slice none 0 0] := rfl
    rw [hr] at arow
    simp only [List.cons.injEq, Value.int.injEq, Value.bool.injEq, Value.string.injEq, true_and, and_true] at arow
    obtain ⟨rfl, rfl, rfl, rfl, rfl, rfl, h7⟩ := arow
    refine HFR2.out U3 (cn x) aa al ac rfl hS1 (fun hk => ?_)
    rw [if_pos hk] at h7
    rw [h7]
    exact HeldG.mv (fun _ _ => rfl) (fun b hb => hb.2) (ahg hk)
  clear arow ahg
  clear hS0
  have hS0 := hS1
  clear hS1
  dsimp only
  refine hK.out _ _ hS0 (fun _ => ?_)
  clear hK K
  refine T_call 13 (by kernel_rfl) rfl (fun K hK => ?_)
  go_simp
  refine HC2.out.mono ?_
  rintro e U4 ⟨p1, rfl, hp1, hS1⟩
  have HP1 := Lib.hid hp1
  clear hp1
  clear hS0
  have hS0 := hS1
  clear hS1
  dsimp only
  refine hK.out _ _ hS0 (fun _ => ?_)
  clear hK K
  refine T_on 14 (.bool (!p1)) rfl (by kernel_rfl) (fun _ _ _ h => h) hS0 (fun W hW => by go_simp) ?_
  refine T_on 15 (.bool (!p1)) rfl (by kernel_rfl) (fun _ _ _ h => h) hS0 (fun W hW => by go_simp) ?_
  refine wpAnyH_done (by kernel_rfl) ?_ _
  go_simp
  cases p1
  case false =>
    go_wp2_with fail
    refine (HA.out _ hS0).mono ?_
    rintro e W3 ⟨rfl, hS1⟩
    have HE := Lib.hid (HWB.out _ hS1)
    go_wp2_with fail
    go_ret
    exact ⟨rfl, HE.out⟩
  have hx : FitX s f t x := HP1.out.1 rfl
  have HX := Lib.hid hx
  have HNR3 := Lib.hid (HNR2.out hx)
  have HEE := Lib.hid (enc_empty (fitS_of HSS.out) hx HF0.out)
  have HNK : Hid ((normN s.ms f x).kind = 7) := by
    refine (?_ : _ = _)
    rw [norm_kind]
    exact (good_of_fit (fun m hm y hy => (tyOK_of (fitS_of HSS.out) hx.1 m hm).2 y hy) f 1 t x hx.2.1 hx.2.2.1 hx.2.2.2).1
  clear hx HA HC2 HP1 HFR2 HNR2
  generalize normN s.ms f x = y at *
  go_upto_region 3 with fail
  generalize U4 = U at *
  have HUV := Lib.hid hS0
  go_cut [7] (fun v wx => ∃ (D : Nat) (r0 r1 r2 : Int) (r3 : Bool) (r5 : Int) (ra : Option Addr) (rc : Nat), v = .pointer (some ⟨D, 0, none⟩) ∧ wx.heap[D]? = some (.cells #[.int .i64 r0, .int .i64 r1, .int .u64 r2, .bool r3, .string (mkB y.s), .int .i64 r5, .slice ra y.fields.length rc] 30 (0, 0)) ∧ Below V.heap.size V wx)
  case first =>
    have hS1 : Below V.heap.size V U.drew := hS0.drew
    clear hS0
    have hS0 := hS1
    clear hS1
    refine wp_region_held_drew (S := fun W => Below V.heap.size V W) (by kernel_rfl) hS0 (fun _ => ?_)
    refine T_on 0 (.agg #[.slice ma nm mc, .slice ea ne ec, .slice ta nt tc]) rfl (by kernel_rfl) (fun _ _ _ h => h) hS0 (fun W hW => by have c0 := s0 W hW; have c1 := s1 W hW; have c2 := s2 W hW; go_simp) ?_
    refine T_on 1 (.agg #[.int .i64 x.kind, .int .i64 x.n, .int .u64 x.u, .bool x.b, .string (mkB x.s), .int .i64 x.type, .slice xa xl xc]) rfl (by kernel_rfl) (fun _ _ _ h => h) hS0 (fun W hW => by have c0 := n0 W hW; have c1 := n1 W hW; have c2 := n2 W hW; have c3 := n3 W hW; have c4 := n4 W hW; have c5 := n5 W hW; have c6 := n6 W hW; go_simp) ?_
    refine T_two 2 4 (by kernel_rfl) rfl rfl (fun K hK => ?_) (fun K hK => ?_)
    · skip
      go_simp
      refine (HCL2.out _ hS0).mono ?_
      rintro e U5 ⟨a0, a1, a2, a3, a4, a5, aa, al, ac, af, rfl, arow, ahg, hb3⟩
      have hT1 := hS0.trans (hb3.mono hS0.size)
      have hcn := HNR3.out U5 a0 a1 a2 a3 a4 a5 aa al ac af hT1 arow (fun hk => HeldG.mv (fun _ _ => rfl) (fun b hb => hb.2) (ahg hk))
      have HAR := Lib.hid arow
      have HAG : Hid (x.kind = 7 → HeldG clS (U5.alloc (.cells #[.int .i64 0, .int .i64 0, .int .u64 0, .bool false, .string ⟨#[]⟩, .int .i64 0, .slice none 0 0] 30)) (fun b => b < (U5.alloc (.cells #[.int .i64 0, .int .i64 0, .int .u64 0, .bool false, .string ⟨#[]⟩, .int .i64 0, .slice none 0 0] 30)).heap.size) f af x.fields) := fun hk => HeldG.mv (fun b hb => alloc_heap_old _ _ _ hb.2) (fun b hb => by have := hb.2; simp; omega) (ahg hk)
      clear arow ahg hb3
      dsimp only
      refine hK.out _ _ hT1 (fun _ => ?_)
      clear hK K
      refine T_two 3 4 (by kernel_rfl) rfl rfl (fun K hK => ?_) (fun K hK => ?_)
      · go_simp
        refine hcn.mono ?_
        rintro e U6 ⟨r0, r1, r2, r3, r4, r5, ra, rl, rc, rf, rfl, rrow, rhg, hb4⟩
        obtain ⟨hr4, hrl⟩ := row_parts HNK.out rrow (rhg HNK.out)
        subst hr4 hrl
        have hT2 := hT1.trans (hb4.mono hT1.size)
        have hU6 := hT2.size
        clear rrow rhg hb4 hcn
        dsimp only
        refine hK.out _ _ hT2 (fun _ => ?_)
        clear hK K
        refine T_call 4 (by kernel_rfl) rfl (fun K hK => ?_)
        go_simp
        have hT3 : Below V.heap.size V (U6.alloc (.cells #[.int .i64 0, .int .i64 0, .int .u64 0, .bool false, .string ⟨#[]⟩, .int .i64 0, .slice none 0 0] 30)) := hT2.alloc hT2.size _
        refine hK.out _ _ hT3 (fun _ => ?_)
        clear hK K
        have hA := alloc_heap_new U6 (.cells #[.int .i64 0, .int .i64 0, .int .u64 0, .bool false, .string ⟨#[]⟩, .int .i64 0, .slice none 0 0] 30)
        generalize U6.alloc (.cells #[.int .i64 0, .int .i64 0, .int .u64 0, .bool false, .string ⟨#[]⟩, .int .i64 0, .slice none 0 0] 30) = WA at *
        have k0 : WA.cell? ⟨U6.heap.size, 0, none⟩ = some (.int .i64 0) := cell_at hA 0 rfl
        have kf0 : WA.frozen? ⟨U6.heap.size, 0, none⟩ = false := frz_at hA 0
        have k1 : WA.cell? ⟨U6.heap.size, 1, none⟩ = some (.int .i64 0) := cell_at hA 1 rfl
        have kf1 : WA.frozen? ⟨U6.heap.size, 1, none⟩ = false := frz_at hA 1
        have k2 : WA.cell? ⟨U6.heap.size, 2, none⟩ = some (.int .u64 0) := cell_at hA 2 rfl
        have kf2 : WA.frozen? ⟨U6.heap.size, 2, none⟩ = false := frz_at hA 2
        have k3 : WA.cell? ⟨U6.heap.size, 3, none⟩ = some (.bool false) := cell_at hA 3 rfl
        have kf3 : WA.frozen? ⟨U6.heap.size, 3, none⟩ = false := frz_at hA 3
        have k4 : WA.cell? ⟨U6.heap.size, 4, none⟩ = some (.string ⟨#[]⟩) := cell_at hA 4 rfl
        have kf4 : WA.frozen? ⟨U6.heap.size, 4, none⟩ = false := frz_at hA 4
        have k5 : WA.cell? ⟨U6.heap.size, 5, none⟩ = some (.int .i64 0) := cell_at hA 5 rfl
        have kf5 : WA.frozen? ⟨U6.heap.size, 5, none⟩ = false := frz_at hA 5
        have k6 : WA.cell? ⟨U6.heap.size, 6, none⟩ = some (.slice none 0 0) := cell_at hA 6 rfl
        have kf6 : WA.frozen? ⟨U6.heap.size, 6, none⟩ = false := frz_at hA 6
        obtain ⟨Qw, hQ, hQc, _, _, hQb⟩ := set7_all hA (.int .i64 r0) (.int .i64 r1) (.int .u64 r2) (.bool r3) (.string (mkB y.s)) (.int .i64 r5) (.slice ra y.fields.length rc)
        have hS9 : Below V.heap.size V Qw := hT3.trans (hQb.mono (by omega))
        have HQ := Lib.hid hQ
        clear hQ hA
        refine T_call 5 (by kernel_rfl) rfl (fun K hK => ?_)
        go_simp
        rw [HQ.out]
        refine hK.out _ _ hS9 (fun _ => ?_)
        clear hK K
        refine wpAnyH_done (by kernel_rfl) ?_ _
        go_simp
        go_wp2_with fail
        go_meet
        exact ⟨U6.heap.size, r0, r1, r2, r3, r5, ra, rc, rfl, hQc, hS9⟩
      · go_simp
        have hT3 : Below V.heap.size V (U5.alloc (.cells #[.int .i64 0, .int .i64 0, .int .u64 0, .bool false, .string ⟨#[]⟩, .int .i64 0, .slice none 0 0] 30)) := hT1.alloc hT1.size _
        have hA := alloc_heap_new U5 (.cells #[.int .i64 0, .int .i64 0, .int .u64 0, .bool false, .string ⟨#[]⟩, .int .i64 0, .slice none 0 0] 30)
        have hAs : (U5.alloc (.cells #[.int .i64 0, .int .i64 0, .int .u64 0, .bool false, .string ⟨#[]⟩, .int .i64 0, .slice none 0 0] 30)).heap.size = U5.heap.size + 1 := by simp
        have hU5 := hT1.size
        have hcn2 : Calls Tryz.prog 19 #[.agg #[.slice ma nm mc, .slice ea ne ec, .slice ta nt tc], .agg #[.int .i64 a0, .int .i64 a1, .int .u64 a2, .bool a3, .string a4, .int .i64 a5, .slice aa al ac]] (U5.alloc (.cells #[.int .i64 0, .int .i64 0, .int .u64 0, .bool false, .string ⟨#[]⟩, .int .i64 0, .slice none 0 0] 30)) fun e w' => OurAns f (U5.alloc (.cells #[.int .i64 0, .int .i64 0, .int .u64 0, .bool false, .string ⟨#[]⟩, .int .i64 0, .slice none 0 0] 30)) y e w' := HNR3.out _ a0 a1 a2 a3 a4 a5 aa al ac af hT3 HAR.out (fun hk => HAG.out hk)
        refine hK.out _ _ hT3 (fun _ => ?_)
        clear hK K hcn
        generalize U5.alloc (.cells #[.int .i64 0, .int .i64 0, .int .u64 0, .bool false, .string ⟨#[]⟩, .int .i64 0, .slice none 0 0] 30) = WA at *
        have hcn := hcn2
        clear hcn2
        refine T_call 3 (by kernel_rfl) rfl (fun K hK => ?_)
        go_simp
        refine hcn.mono ?_
        rintro e U6 ⟨r0, r1, r2, r3, r4, r5, ra, rl, rc, rf, rfl, rrow, rhg, hb4⟩
        obtain ⟨hr4, hrl⟩ := row_parts HNK.out rrow (rhg HNK.out)
        subst hr4 hrl
        have hT2 := hT3.trans (hb4.mono hT3.size)
        have hA2 := (hb4.block U5.heap.size (by omega)).trans hA
        clear rrow rhg hb4 hcn hA
        dsimp only
        refine hK.out _ _ hT2 (fun _ => ?_)
        clear hK K
        have k0 : U6.cell? ⟨U5.heap.size, 0, none⟩ = some (.int .i64 0) := cell_at hA2 0 rfl
        have kf0 : U6.frozen? ⟨U5.heap.size, 0, none⟩ = false := frz_at hA2 0
        have k1 : U6.cell? ⟨U5.heap.size, 1, none⟩ = some (.int .i64 0) := cell_at hA2 1 rfl
        have kf1 : U6.frozen? ⟨U5.heap.size, 1, none⟩ = false := frz_at hA2 1
        have k2 : U6.cell? ⟨U5.heap.size, 2, none⟩ = some (.int .u64 0) := cell_at hA2 2 rfl
        have kf2 : U6.frozen? ⟨U5.heap.size, 2, none⟩ = false := frz_at hA2 2
        have k3 : U6.cell? ⟨U5.heap.size, 3, none⟩ = some (.bool false) := cell_at hA2 3 rfl
        have kf3 : U6.frozen? ⟨U5.heap.size, 3, none⟩ = false := frz_at hA2 3
        have k4 : U6.cell? ⟨U5.heap.size, 4, none⟩ = some (.string ⟨#[]⟩) := cell_at hA2 4 rfl
        have kf4 : U6.frozen? ⟨U5.heap.size, 4, none⟩ = false := frz_at hA2 4
        have k5 : U6.cell? ⟨U5.heap.size, 5, none⟩ = some (.int .i64 0) := cell_at hA2 5 rfl
        have kf5 : U6.frozen? ⟨U5.heap.size, 5, none⟩ = false := frz_at hA2 5
        have k6 : U6.cell? ⟨U5.heap.size, 6, none⟩ = some (.slice none 0 0) := cell_at hA2 6 rfl
        have kf6 : U6.frozen? ⟨U5.heap.size, 6, none⟩ = false := frz_at hA2 6
        obtain ⟨Qw, hQ, hQc, _, _, hQb⟩ := set7_all hA2 (.int .i64 r0) (.int .i64 r1) (.int .u64 r2) (.bool r3) (.string (mkB y.s)) (.int .i64 r5) (.slice ra y.fields.length rc)
        have hS9 : Below V.heap.size V Qw := hT2.trans (hQb.mono (by omega))
        have HQ := Lib.hid hQ
        clear hQ hA2
        refine T_call 5 (by kernel_rfl) rfl (fun K hK => ?_)
        go_simp
        rw [HQ.out]
        refine hK.out _ _ hS9 (fun _ => ?_)
        clear hK K
        refine wpAnyH_done (by kernel_rfl) ?_ _
        go_simp
        go_wp2_with fail
        go_meet
        exact ⟨U5.heap.size, r0, r1, r2, r3, r5, ra, rc, rfl, hQc, hS9⟩
    · go_simp
      have hT3 : Below V.heap.size V ((U.alloc (.cells #[.int .i64 0, .int .i64 0, .int .u64 0, .bool false, .string ⟨#[]⟩, .int .i64 0, .slice none 0 0] 30)).drew) := (HUV.out.alloc HUV.out.size _).drew
      have hA : ((U.alloc (.cells #[.int .i64 0, .int .i64 0, .int .u64 0, .bool false, .string ⟨#[]⟩, .int .i64 0, .slice none 0 0] 30)).drew).heap[U.heap.size]? = some (.cells #[.int .i64 0, .int .i64 0, .int .u64 0, .bool false, .string ⟨#[]⟩, .int .i64 0, .slice none 0 0] 30 (0, 0)) := alloc_heap_new U (.cells #[.int .i64 0, .int .i64 0, .int .u64 0, .bool false, .string ⟨#[]⟩, .int .i64 0, .slice none 0 0] 30)
      have hAs : ((U.alloc (.cells #[.int .i64 0, .int .i64 0, .int .u64 0, .bool false, .string ⟨#[]⟩, .int .i64 0, .slice none 0 0] 30)).drew).heap.size = U.heap.size + 1 := by simp
      have hU := HUV.out.size
      refine hK.out _ _ hT3 (fun _ => ?_)
      clear hK K
      generalize (U.alloc (.cells #[.int .i64 0, .int .i64 0, .int .u64 0, .bool false, .string ⟨#[]⟩, .int .i64 0, .slice none 0 0] 30)).drew = WA at *
      refine T_call 2 (by kernel_rfl) rfl (fun K hK => ?_)
      go_simp
      refine (HCL2.out _ hT3).mono ?_
      rintro e U5 ⟨a0, a1, a2, a3, a4, a5, aa, al, ac, af, rfl, arow, ahg, hb3⟩
      have hT1 := hT3.trans (hb3.mono hT3.size)
      have hcn := HNR3.out U5 a0 a1 a2 a3 a4 a5 aa al ac af hT1 arow (fun hk => HeldG.mv (fun _ _ => rfl) (fun b hb => hb.2) (ahg hk))
      have hA1 := (hb3.block U.heap.size (by omega)).trans hA
      have hU5 := hb3.size
      clear arow ahg hb3 hA
      dsimp only
      refine hK.out _ _ hT1 (fun _ => ?_)
      clear hK K
      refine T_call 3 (by kernel_rfl) rfl (fun K hK => ?_)
      go_simp
      refine hcn.mono ?_
      rintro e U6 ⟨r0, r1, r2, r3, r4, r5, ra, rl, rc, rf, rfl, rrow, rhg, hb4⟩
      obtain ⟨hr4, hrl⟩ := row_parts HNK.out rrow (rhg HNK.out)
      subst hr4 hrl
      have hT2 := hT1.trans (hb4.mono hT1.size)
      have hA2 := (hb4.block U.heap.size (by omega)).trans hA1
      clear rrow rhg hb4 hcn hA1
      dsimp only
      refine hK.out _ _ hT2 (fun _ => ?_)
      clear hK K
      have k0 : U6.cell? ⟨U.heap.size, 0, none⟩ = some (.int .i64 0) := cell_at hA2 0 rfl
      have kf0 : U6.frozen? ⟨U.heap.size, 0, none⟩ = false := frz_at hA2 0
      have k1 : U6.cell? ⟨U.heap.size, 1, none⟩ = some (.int .i64 0) := cell_at hA2 1 rfl
      have kf1 : U6.frozen? ⟨U.heap.size, 1, none⟩ = false := frz_at hA2 1
      have k2 : U6.cell? ⟨U.heap.size, 2, none⟩ = some (.int .u64 0) := cell_at hA2 2 rfl
      have kf2 : U6.frozen? ⟨U.heap.size, 2, none⟩ = false := frz_at hA2 2
      have k3 : U6.cell? ⟨U.heap.size, 3, none⟩ = some (.bool false) := cell_at hA2 3 rfl
      have kf3 : U6.frozen? ⟨U.heap.size, 3, none⟩ = false := frz_at hA2 3
      have k4 : U6.cell? ⟨U.heap.size, 4, none⟩ = some (.string ⟨#[]⟩) := cell_at hA2 4 rfl
      have kf4 : U6.frozen? ⟨U.heap.size, 4, none⟩ = false := frz_at hA2 4
      have k5 : U6.cell? ⟨U.heap.size, 5, none⟩ = some (.int .i64 0) := cell_at hA2 5 rfl
      have kf5 : U6.frozen? ⟨U.heap.size, 5, none⟩ = false := frz_at hA2 5
      have k6 : U6.cell? ⟨U.heap.size, 6, none⟩ = some (.slice none 0 0) := cell_at hA2 6 rfl
      have kf6 : U6.frozen? ⟨U.heap.size, 6, none⟩ = false := frz_at hA2 6
      obtain ⟨Qw, hQ, hQc, _, _, hQb⟩ := set7_all hA2 (.int .i64 r0) (.int .i64 r1) (.int .u64 r2) (.bool r3) (.string (mkB y.s)) (.int .i64 r5) (.slice ra y.fields.length rc)
      have hS9 : Below V.heap.size V Qw := hT2.trans (hQb.mono (by omega))
      have HQ := Lib.hid hQ
      clear hQ hA2
      refine T_call 5 (by kernel_rfl) rfl (fun K hK => ?_)
      go_simp
      rw [HQ.out]
      refine hK.out _ _ hS9 (fun _ => ?_)
      clear hK K
      refine wpAnyH_done (by kernel_rfl) ?_ _
      go_simp
      go_wp2_with fail
      go_meet
      exact ⟨U.heap.size, r0, r1, r2, r3, r5, ra, rc, rfl, hQc, hS9⟩
  case rest =>
  obtain ⟨D, r0, r1, r2, r3, r5, ra, rc, rfl, hDq, hS1⟩ := hcut
  generalize wc = Z at *
  have c4 : Z.cell? ⟨D, 4, none⟩ = some (.string (mkB y.s)) := cell_at hDq 4 rfl
  have c6 : Z.cell? ⟨D, 6, none⟩ = some (.slice ra y.fields.length rc) := cell_at hDq 6 rfl
  obtain ⟨ys, hys⟩ : ∃ l, y.s = l := ⟨_, rfl⟩
  obtain ⟨yn, hyn⟩ : ∃ n, y.fields.length = n := ⟨_, rfl⟩
  rw [hys] at c4
  rw [hyn] at c6
  obtain ⟨L, hL⟩ : ∃ n, (encB s f x).length = n := ⟨_, rfl⟩
  obtain ⟨E, hE⟩ : ∃ E, ((L : Int) == 0) = E := ⟨_, rfl⟩
  have HLE : Hid (E = true ↔ yn = 0 ∧ ys = []) := by
    refine (?_ : _ ↔ _)
    have h1 := HEE.out
    rw [hL, hys, ← List.length_eq_zero_iff, hyn] at h1
    rw [← h1, ← hE, beq_iff_eq]
    omega
  have HSZ3 : Hid (∀ (W : World) (v : Value), Below V.heap.size V W → HeldV W (fun b => b < W.heap.size) f v x → Calls Tryz.prog 13 #[.agg #[.slice ma nm mc, .slice ea ne ec, .slice ta nt tc], .int .i64 t, v] W fun e w' => e = .returned (.int .i64 (L : Int)) ∧ Below W.heap.size W w') := fun W v hW hv => (HSZ2.out W v hW hv).mono fun e w' h => by
    obtain ⟨⟨hno, _⟩ | ⟨_, rfl⟩, h3⟩ := h
    · exact absurd HX.out hno
    · exact ⟨by rw [hL], h3⟩
  have HS1 := Lib.hid hS1
  clear hDq hS1 hS0 HEE HNR3 HCL2 HSZ2 hys hyn hL HUV
  go_upto_region 4 with fail
  go_cut [8] (fun v wx => v = .bool E ∧ wx = Z)
  case first =>
    by_cases h1 : yn = 0
    · subst h1
      by_cases h2 : ys = []
      · subst h2
        have e : E = true := HLE.out.2 ⟨rfl, rfl⟩
        subst e
        have hz' := isEmptyN
        go_wp2_with fail
        go_meet
        exact ⟨rfl, rfl⟩
      · have e : E = false := by
          cases E
          · rfl
          · exact absurd (HLE.out.1 rfl).2 h2
        subst e
        have hz' := notEmpty h2
        go_wp2_with fail
        go_meet
        exact ⟨rfl, rfl⟩
    · have e : E = false := by
        cases E
        · rfl
        · exact absurd (HLE.out.1 rfl).1 h1
      subst e
      have hz' : ((yn : Int) == 0) = false := beq_eq_false_iff_ne.2 (by omega)
      go_wp2_with fail
      go_meet
      exact ⟨rfl, rfl⟩
  case rest =>
  obtain ⟨rfl, hwc⟩ := hcut
  subst hwc
  clear c4 c6 HLE
  have hS0 : Below V.heap.size V wc.drew := HS1.out.drew
  go_upto_region 5 with fail
  refine wp_region_held_drew (S := fun W => Below V.heap.size V W) (by kernel_rfl) hS0 (fun _ => ?_)
  refine T_on 0 (.agg #[.slice ma nm mc, .slice ea ne ec, .slice ta nt tc]) rfl (by kernel_rfl) (fun _ _ _ h => h) hS0 (fun W hW => by have c0 := s0 W hW; have c1 := s1 W hW; have c2 := s2 W hW; go_simp) ?_
  refine T_on 1 (.int .i64 t) rfl (by kernel_rfl) (fun _ _ _ h => h) hS0 (fun W hW => by go_simp) ?_
  refine T_on 2 (.agg #[.int .i64 x.kind, .int .i64 x.n, .int .u64 x.u, .bool x.b, .string (mkB x.s), .int .i64 x.type, .slice xa xl xc]) rfl (by kernel_rfl) (fun _ _ _ h => h) hS0 (fun W hW => by have c0 := n0 W hW; have c1 := n1 W hW; have c2 := n2 W hW; have c3 := n3 W hW; have c4 := n4 W hW; have c5 := n5 W hW; have c6 := n6 W hW; go_simp) ?_
  refine T_on 6 (.bool E) rfl (by kernel_rfl) (fun _ _ _ h => h) hS0 (fun W hW => by go_simp) ?_
  refine T_call 3 (by kernel_rfl) rfl (fun K hK => ?_)
  go_simp
  refine (HTH2.out _ hS0).mono ?_
  rintro e U8 ⟨v1, rfl, hv1, hb1⟩
  have hS1 := hS0.trans (hb1.mono hS0.size)
  have HVv1 : Hid (HeldV U8 (fun b => b < U8.heap.size) f v1 x) := hv1.mv (fun _ _ => rfl) (fun b hb => hb.2)
  clear hv1 hb1
  clear hS0
  have hS0 := hS1
  clear hS1
  dsimp only
  refine hK.out _ _ hS0 (fun _ => ?_)
  clear hK K
  refine T_call 4 (by kernel_rfl) rfl (fun K hK => ?_)
  go_simp
  refine (HSZ3.out _ _ hS0 HVv1.out).mono ?_
  rintro e U9 ⟨rfl, hb1⟩
  have hS1 := hS0.trans (hb1.mono hS0.size)
  clear hb1
  clear hS0
  have hS0 := hS1
  clear hS1
  dsimp only
  refine hK.out _ _ hS0 (fun _ => ?_)
  clear hK K
  refine T_on 5 (.bool E) rfl (by kernel_rfl) (fun _ _ _ h => h) hS0 (fun W hW => by go_simp) ?_
  refine T_on 7 (.bool true) rfl (by kernel_rfl) (fun _ _ _ h => h) hS0 (fun W hW => by go_simp) ?_
  refine T_on 8 (.bool true) rfl (by kernel_rfl) (fun _ _ _ h => h) hS0 (fun W hW => by go_simp) ?_
  refine wpAnyH_done (by kernel_rfl) ?_ _
  go_simp
  have HE := Lib.hid (HWB.out _ hS0)
  go_wp2_with fail
  go_ret
  exact ⟨rfl, HE.out⟩
end Go.Proofs.YtpnlbmobnopnoaaGreatDoor
