/-
  The walk over the law DecodeJoins.
-/
import Derived.Test.YtnopnjklcdcckaaGreatDoorM44
import Derived.Test.YtnopnjklcdcckaaGreatDoorM46
namespace Go.Proofs.YtnopnjklcdcckaaGreatDoor
set_option linter.unusedVariables false
open Go.ChangeShapes Go.WideShapes Go.ChangeAt Go.RowKit

theorem bin_ownE {w : World} {base : Nat} {v : Value} {xs : List Int} (h : OwnE w base v xs) (hb : ∀ z ∈ xs, 0 ≤ z ∧ z ≤ 255) (hm : xs.length ≤ 140737488355328) : ∃ a c, v = .slice a xs.length c ∧ BIn w (fun b => base ≤ b ∧ b < w.heap.size) a c xs := by
  rcases h with h | ⟨rfl, g, rfl⟩
  · exact own_BIn h hb hm
  · exact ⟨some ⟨g, 0, none⟩, 0, rfl, by simp, (fun h => by cases h), .inl rfl, by simp, by omega⟩
theorem vals_le {bs bf f : Nat} {x : Nd} {num : Int} (hf : FitG bs bf f x) (hd : DpN f x) : (valsF x.fields num).length ≤ bf := by
  unfold valsF
  cases hl : lookF x.fields num with
  | none => exact Nat.zero_le _
  | some vs =>
    have hm := look_mem hl
    cases f with
    | zero => have h0 : x.fields = [] := hd; rw [h0] at hm; cases hm
    | succ f => exact (hf.2.2 _ hm).1
theorem bin_ok {w : World} {S : Nat → Prop} {a : Option Addr} {c : Nat} {zs : List Int} (h : BIn w S a c zs) : ∀ z ∈ zs, 0 ≤ z ∧ z ≤ 255 := fun z hz => isB_bytes h.isB z hz
set_option maxHeartbeats 64000000 in
set_option maxRecDepth 20000 in
theorem decodeJoins_any (ma ea ta : Option Addr) (nm ne nt mc ec tc : Nat) (s : SC) (t : Int) (f1 : Nat) (x1 : Nd) (xa : Option Addr) (xl xc : Nat) (f2 : Nat) (x2 : Nd) (ya : Option Addr) (yl yc : Nat) (w : World) (hT : Tabs w) (hnm : s.ms.length = nm) (hne : s.es.length = ne) (hnt : s.ts.length = nt) (hbig : BigS s) (hH : HeldSc w (fun b => b < w.heap.size) (.slice ma nm mc) (.slice ea ne ec) (.slice ta nt tc) s) (hG1 : HeldG rawS w (fun b => b < w.heap.size) f1 (.slice xa xl xc) x1.fields) (hfit1 : FitG 140737488355328 140737488355328 f1 x1) (hrng1 : RngG f1 x1) (hG2 : HeldG rawS w (fun b => b < w.heap.size) f2 (.slice ya yl yc) x2.fields) (hfit2 : FitG 140737488355328 140737488355328 f2 x2) (hrng2 : RngG f2 x2) :
    Calls Tryz.prog 5 #[.agg #[.slice ma nm mc, .slice ea ne ec, .slice ta nt tc], .int .i64 t, .agg #[.int .i64 x1.kind, .int .i64 x1.n, .int .u64 x1.u, .bool x1.b, .string (mkB x1.s), .int .i64 x1.type, .slice xa xl xc], .agg #[.int .i64 x2.kind, .int .i64 x2.n, .int .u64 x2.u, .bool x2.b, .string (mkB x2.s), .int .i64 x2.type, .slice ya yl yc]] w fun e w' => e = .returned (.bool true) ∧ Below w.heap.size w w' := by
  obtain ⟨Y, hY, hC, hb, hYs⟩ := box_new w #[.slice ma nm mc, .slice ea ne ec, .slice ta nt tc] 26
  obtain ⟨V1, hV1, hD1, hVb1, hVs1⟩ := box_new Y #[.int .i64 x1.kind, .int .i64 x1.n, .int .u64 x1.u, .bool x1.b, .string (mkB x1.s), .int .i64 x1.type, .slice xa xl xc] 44
  obtain ⟨V, hV, hD2, hVb, hVs⟩ := box_new V1 #[.int .i64 x2.kind, .int .i64 x2.n, .int .u64 x2.u, .bool x2.b, .string (mkB x2.s), .int .i64 x2.type, .slice ya yl yc] 44
  rw [hYs] at hD1
  rw [hVs1, hYs] at hD2
  have HY := Lib.hid hY
  have HV1 := Lib.hid hV1
  have HV := Lib.hid hV
  have hBV1 := hb.trans (hVb1.mono hb.size)
  have hBV := hBV1.trans (hVb.mono hBV1.size)
  have hCV := (hVb.block _ (by omega)).trans ((hVb1.block _ (by omega)).trans hC)
  have hDV1 := (hVb.block _ (by omega)).trans hD1
  have hVl : w.heap.size + 3 ≤ V.heap.size := by omega
  have HWB : Hid (∀ W, Below V.heap.size V W → Below w.heap.size w W) := fun W hW => hBV.trans (hW.mono hBV.size)
  have HA : Hid (∀ W, Below V.heap.size V W → Calls Tryz.prog 6 #[] W fun e w' => e = .returned (.bool true) ∧ Below V.heap.size V w') := fun W hW => (awake11_any W (tabs_below hT (HWB.out W hW))).mono fun e w' ⟨h1, h2⟩ => ⟨h1, hW.trans (h2.mono hW.size)⟩
  have HG1 : Hid (∀ W, Below w.heap.size w W → HeldG rawS W (fun b => b < W.heap.size) f1 (.slice xa xl xc) x1.fields) := fun W hW => HeldG.mv (fun b hb => hW.block b hb) (fun b hb => by have hb' : b < w.heap.size := hb; have := hW.size; omega) hG1
  have HFW1 : Hid (∀ W, Below V.heap.size V W → Calls Tryz.prog 13 #[.agg #[.slice ma nm mc, .slice ea ne ec, .slice ta nt tc], .agg #[.int .i64 x1.kind, .int .i64 x1.n, .int .u64 x1.u, .bool x1.b, .string (mkB x1.s), .int .i64 x1.type, .slice xa xl xc]] W fun e w' => FewAns s f1 x1 V e w') := fun W hW => (few9_any ma ea ta nm ne nt mc ec tc s f1 x1 xa xl xc W hnm hne hnt hbig (heldSc_mv hH (HWB.out W hW)) (HG1.out W (HWB.out W hW)) hfit1).mono fun e w' ⟨b, h1, h2, h3⟩ => ⟨b, h1, h2, hW.trans (h3.mono hW.size)⟩
  have HTH1 : Hid (FitG 100000 10000 f1 x1 → ∀ W, Below V.heap.size V W → Calls Tryz.prog 14 #[.agg #[.int .i64 x1.kind, .int .i64 x1.n, .int .u64 x1.u, .bool x1.b, .string (mkB x1.s), .int .i64 x1.type, .slice xa xl xc]] W fun e w' => TheirAns f1 W x1 e w') := fun hf W hW => theirsN_any f1 x1 (.slice xa xl xc) W hf (HG1.out W (HWB.out W hW))
  have HEN1 : Hid (SmS s → FitG 100000 10000 f1 x1 → wtN f1 x1 ≤ 400 → ∀ (W : World) (v : Value), Below V.heap.size V W → HeldV W (fun b => b < W.heap.size) f1 v x1 → Calls Tryz.prog 12 #[.agg #[.slice ma nm mc, .slice ea ne ec, .slice ta nt tc], .int .i64 t, v] W fun e w' => EnU s f1 t x1 V W e w') := by
    refine (?_ : _ → _ → _ → ∀ (W : World) (v : Value), _ → _ → _)
    intro hs hf hwt W v hW hv
    have hbn : bndN f1 x1 ≤ 1000000000 := by have := bnd_wt f1 x1; omega
    exact (encode_any ma ea ta nm ne nt mc ec tc s f1 t W (tabs_below hT (HWB.out W hW)) hnm hne hnt (fitS_of hs) (heldSc_mv hH (HWB.out W hW)) v x1 hv hf hrng1 hbn).mono fun e w' h => enU_of h hW
  have HG2 : Hid (∀ W, Below w.heap.size w W → HeldG rawS W (fun b => b < W.heap.size) f2 (.slice ya yl yc) x2.fields) := fun W hW => HeldG.mv (fun b hb => hW.block b hb) (fun b hb => by have hb' : b < w.heap.size := hb; have := hW.size; omega) hG2
  have HFW2 : Hid (∀ W, Below V.heap.size V W → Calls Tryz.prog 13 #[.agg #[.slice ma nm mc, .slice ea ne ec, .slice ta nt tc], .agg #[.int .i64 x2.kind, .int .i64 x2.n, .int .u64 x2.u, .bool x2.b, .string (mkB x2.s), .int .i64 x2.type, .slice ya yl yc]] W fun e w' => FewAns s f2 x2 V e w') := fun W hW => (few9_any ma ea ta nm ne nt mc ec tc s f2 x2 ya yl yc W hnm hne hnt hbig (heldSc_mv hH (HWB.out W hW)) (HG2.out W (HWB.out W hW)) hfit2).mono fun e w' ⟨b, h1, h2, h3⟩ => ⟨b, h1, h2, hW.trans (h3.mono hW.size)⟩
  have HTH2 : Hid (FitG 100000 10000 f2 x2 → ∀ W, Below V.heap.size V W → Calls Tryz.prog 14 #[.agg #[.int .i64 x2.kind, .int .i64 x2.n, .int .u64 x2.u, .bool x2.b, .string (mkB x2.s), .int .i64 x2.type, .slice ya yl yc]] W fun e w' => TheirAns f2 W x2 e w') := fun hf W hW => theirsN_any f2 x2 (.slice ya yl yc) W hf (HG2.out W (HWB.out W hW))
  have HEN2 : Hid (SmS s → FitG 100000 10000 f2 x2 → wtN f2 x2 ≤ 400 → ∀ (W : World) (v : Value), Below V.heap.size V W → HeldV W (fun b => b < W.heap.size) f2 v x2 → Calls Tryz.prog 12 #[.agg #[.slice ma nm mc, .slice ea ne ec, .slice ta nt tc], .int .i64 t, v] W fun e w' => EnU s f2 t x2 V W e w') := by
    refine (?_ : _ → _ → _ → ∀ (W : World) (v : Value), _ → _ → _)
    intro hs hf hwt W v hW hv
    have hbn : bndN f2 x2 ≤ 1000000000 := by have := bnd_wt f2 x2; omega
    exact (encode_any ma ea ta nm ne nt mc ec tc s f2 t W (tabs_below hT (HWB.out W hW)) hnm hne hnt (fitS_of hs) (heldSc_mv hH (HWB.out W hW)) v x2 hv hf hrng2 hbn).mono fun e w' h => enU_of h hW
  have HDC : Hid (SmS s → ∀ (z : Nd) (zs : List Int) (a : Option Addr) (c : Nat) (W : World), GoodM s t → zs.length ≤ 4096 → decM s.ms 16 t zs = .ok z → Below V.heap.size V W → BIn W (fun b => b < W.heap.size) a c zs → Calls Tryz.prog 8 #[.agg #[.slice ma nm mc, .slice ea ne ec, .slice ta nt tc], .int .i64 t, .slice a zs.length c] W fun e w' => BkAns 16 (normN s.ms 16 z) V W e w') := by
    refine (?_ : _ → ∀ (z : Nd) (zs : List Int) (a : Option Addr) (c : Nat) (W : World), _ → _ → _ → _ → _ → _)
    intro hs z zs a c W hg hl hz hW hB
    exact (decodeP_any ma ea ta nm ne nt mc ec tc s t a zs.length c zs W (tabs_below hT (HWB.out W hW)) hnm hne hnt (fitS_of hs) (heldSc_mv hH (HWB.out W hW)) hB.isB hB.2.2.2.1 hB.2.2.2.2 (fun _ => valC_of (tabs_below hT (HWB.out W hW)))).mono fun e w' h => bk_of (Nat.le_refl _) hg hl hz rfl h hW
  have HJA : Hid (SmS s → wtN f1 x1 ≤ 400 → wtN f2 x2 ≤ 400 → FitX s f1 t x1 → FitX s f2 t x2 → (encB s f1 x1 ++ encB s f2 x2).length ≤ 4096 → ∃ z, decM s.ms 16 t (encB s f1 x1 ++ encB s f2 x2) = .ok z ∧ ∀ fd ∈ fieldsOf s.ms t, fd.rep = true → (valsF (normN s.ms 16 z).fields fd.num).length = (valsF x1.fields fd.num).length + (valsF x2.fields fd.num).length) := fun hs hw1 hw2 hx1 hx2 hl => join_all (fitS_of hs) hx1 hrng1 (by have := bnd_wt f1 x1; omega) (dp_of hG1) hx2 hrng2 (by have := bnd_wt f2 x2; omega) (dp_of hG2) hl
  have HNM := Lib.hid hnm
  have HDP1 : Hid (DpN f1 x1) := dp_of hG1
  have HDP2 : Hid (DpN f2 x2) := dp_of hG2
  have HHM : Hid (HeldM w (fun b => b < w.heap.size) (.slice ma nm mc) s.ms) := hH.1
  have s0 : ∀ W, Below V.heap.size V W → W.cell? ⟨w.heap.size, 0, none⟩ = some (.slice ma nm mc) := fun W hW => (hW.cell (by simp; omega)).trans (cell_at hCV 0 rfl)
  have s1 : ∀ W, Below V.heap.size V W → W.cell? ⟨w.heap.size, 1, none⟩ = some (.slice ea ne ec) := fun W hW => (hW.cell (by simp; omega)).trans (cell_at hCV 1 rfl)
  have s2 : ∀ W, Below V.heap.size V W → W.cell? ⟨w.heap.size, 2, none⟩ = some (.slice ta nt tc) := fun W hW => (hW.cell (by simp; omega)).trans (cell_at hCV 2 rfl)
  have n0 : ∀ W, Below V.heap.size V W → W.cell? ⟨w.heap.size + 1, 0, none⟩ = some (.int .i64 x1.kind) := fun W hW => (hW.cell (by simp; omega)).trans (cell_at hDV1 0 rfl)
  have n1 : ∀ W, Below V.heap.size V W → W.cell? ⟨w.heap.size + 1, 1, none⟩ = some (.int .i64 x1.n) := fun W hW => (hW.cell (by simp; omega)).trans (cell_at hDV1 1 rfl)
  have n2 : ∀ W, Below V.heap.size V W → W.cell? ⟨w.heap.size + 1, 2, none⟩ = some (.int .u64 x1.u) := fun W hW => (hW.cell (by simp; omega)).trans (cell_at hDV1 2 rfl)
  have n3 : ∀ W, Below V.heap.size V W → W.cell? ⟨w.heap.size + 1, 3, none⟩ = some (.bool x1.b) := fun W hW => (hW.cell (by simp; omega)).trans (cell_at hDV1 3 rfl)
  have n4 : ∀ W, Below V.heap.size V W → W.cell? ⟨w.heap.size + 1, 4, none⟩ = some (.string (mkB x1.s)) := fun W hW => (hW.cell (by simp; omega)).trans (cell_at hDV1 4 rfl)
  have n5 : ∀ W, Below V.heap.size V W → W.cell? ⟨w.heap.size + 1, 5, none⟩ = some (.int .i64 x1.type) := fun W hW => (hW.cell (by simp; omega)).trans (cell_at hDV1 5 rfl)
  have n6 : ∀ W, Below V.heap.size V W → W.cell? ⟨w.heap.size + 1, 6, none⟩ = some (.slice xa xl xc) := fun W hW => (hW.cell (by simp; omega)).trans (cell_at hDV1 6 rfl)
  have m0 : ∀ W, Below V.heap.size V W → W.cell? ⟨w.heap.size + 2, 0, none⟩ = some (.int .i64 x2.kind) := fun W hW => (hW.cell (by simp; omega)).trans (cell_at hD2 0 rfl)
  have m1 : ∀ W, Below V.heap.size V W → W.cell? ⟨w.heap.size + 2, 1, none⟩ = some (.int .i64 x2.n) := fun W hW => (hW.cell (by simp; omega)).trans (cell_at hD2 1 rfl)
  have m2 : ∀ W, Below V.heap.size V W → W.cell? ⟨w.heap.size + 2, 2, none⟩ = some (.int .u64 x2.u) := fun W hW => (hW.cell (by simp; omega)).trans (cell_at hD2 2 rfl)
  have m3 : ∀ W, Below V.heap.size V W → W.cell? ⟨w.heap.size + 2, 3, none⟩ = some (.bool x2.b) := fun W hW => (hW.cell (by simp; omega)).trans (cell_at hD2 3 rfl)
  have m4 : ∀ W, Below V.heap.size V W → W.cell? ⟨w.heap.size + 2, 4, none⟩ = some (.string (mkB x2.s)) := fun W hW => (hW.cell (by simp; omega)).trans (cell_at hD2 4 rfl)
  have m5 : ∀ W, Below V.heap.size V W → W.cell? ⟨w.heap.size + 2, 5, none⟩ = some (.int .i64 x2.type) := fun W hW => (hW.cell (by simp; omega)).trans (cell_at hD2 5 rfl)
  have m6 : ∀ W, Below V.heap.size V W → W.cell? ⟨w.heap.size + 2, 6, none⟩ = some (.slice ya yl yc) := fun W hW => (hW.cell (by simp; omega)).trans (cell_at hD2 6 rfl)
  have hS0 : Below V.heap.size V V := Below.refl _ _
  clear hY hC hb hYs hV1 hD1 hVb1 hVs1 hV hD2 hVb hVs hBV1 hBV hCV hDV1 hH hG1 hG2 hfit1 hfit2 hbig hnm hne hnt hT hrng1 hrng2
  go_enter Tryz.func5, Tryz.ntmps5
  go_upto_region 1 with fail
  rw [HY.out, HV1.out, HV.out]
  go_wp2_with fail
  refine (HA.out _ hS0).mono ?_
  rintro e W1 ⟨rfl, hS1⟩
  clear hS0
  have b0 := s0 W1 hS1
  have b1 := s1 W1 hS1
  have b2 := s2 W1 hS1
  have k0 := n0 W1 hS1
  have k1 := n1 W1 hS1
  have k2 := n2 W1 hS1
  have k3 := n3 W1 hS1
  have k4 := n4 W1 hS1
  have k5 := n5 W1 hS1
  have k6 := n6 W1 hS1
  go_wp2_with fail
  refine (HFW1.out _ hS1).mono ?_
  rintro e W2 ⟨b, rfl, hsm, hS0⟩
  have HSM1 := Lib.hid hsm
  clear hS1 hsm b0 b1 b2 k0 k1 k2 k3 k4 k5 k6
  cases b
  case false =>
    go_wp2_with fail
    refine (HA.out _ hS0).mono ?_
    rintro e W9 ⟨rfl, hS1⟩
    have HE := Lib.hid (HWB.out _ hS1)
    go_wp2_with fail
    go_ret
    exact ⟨rfl, HE.out⟩
  have b0 := s0 W2 hS0
  have b1 := s1 W2 hS0
  have b2 := s2 W2 hS0
  have k0 := m0 W2 hS0
  have k1 := m1 W2 hS0
  have k2 := m2 W2 hS0
  have k3 := m3 W2 hS0
  have k4 := m4 W2 hS0
  have k5 := m5 W2 hS0
  have k6 := m6 W2 hS0
  go_wp2_with fail
  refine (HFW2.out _ hS0).mono ?_
  rintro e W3 ⟨b, rfl, hsm, hS1⟩
  have HSM2 := Lib.hid hsm
  clear hS0 hsm b0 b1 b2 k0 k1 k2 k3 k4 k5 k6
  have hS0 := hS1
  clear hS1
  cases b
  case false =>
    go_wp2_with fail
    refine (HA.out _ hS0).mono ?_
    rintro e W9 ⟨rfl, hS1⟩
    have HE := Lib.hid (HWB.out _ hS1)
    go_wp2_with fail
    go_ret
    exact ⟨rfl, HE.out⟩
  obtain ⟨hss, hff1, hwt1⟩ := HSM1.out (by simp)
  obtain ⟨_, hff2, hwt2⟩ := HSM2.out (by simp)
  have HSS := Lib.hid hss
  have HF1 := Lib.hid hff1
  have HF2 := Lib.hid hff2
  have HTHa := Lib.hid (HTH1.out hff1)
  have HTHb := Lib.hid (HTH2.out hff2)
  have HENa := Lib.hid (HEN1.out hss hff1 hwt1)
  have HENb := Lib.hid (HEN2.out hss hff2 hwt2)
  have HDC2 := Lib.hid (HDC.out hss)
  have HJA2 := Lib.hid (HJA.out hss hwt1 hwt2)
  clear HTH1 HTH2 HEN1 HEN2 HDC HJA hss hff1 hff2 hwt1 hwt2 HSM1 HSM2 HA HFW1 HFW2
  go_upto_region 3 with fail
  have hS1 : Below V.heap.size V W3.drew := hS0.drew
  clear hS0
  have hS0 := hS1
  clear hS1
  refine wp_region_held_drew (S := fun W => Below V.heap.size V W) (by kernel_rfl) hS0 (fun _ => ?_)
  refine T_on 0 (.agg #[.slice ma nm mc, .slice ea ne ec, .slice ta nt tc]) rfl (by kernel_rfl) (fun _ _ _ h => h) hS0 (fun W hW => by have c0 := s0 W hW; have c1 := s1 W hW; have c2 := s2 W hW; go_simp) ?_
  refine T_on 1 (.int .i64 t) rfl (by kernel_rfl) (fun _ _ _ h => h) hS0 (fun W hW => by go_simp) ?_
  refine T_on 2 (.agg #[.int .i64 x1.kind, .int .i64 x1.n, .int .u64 x1.u, .bool x1.b, .string (mkB x1.s), .int .i64 x1.type, .slice xa xl xc]) rfl (by kernel_rfl) (fun _ _ _ h => h) hS0 (fun W hW => by have c0 := n0 W hW; have c1 := n1 W hW; have c2 := n2 W hW; have c3 := n3 W hW; have c4 := n4 W hW; have c5 := n5 W hW; have c6 := n6 W hW; go_simp) ?_
  refine T_call 3 (by kernel_rfl) rfl (fun K hK => ?_)
  go_simp
  refine (HTHa.out _ hS0).mono ?_
  rintro e U1 ⟨va, rfl, hv1, hb1⟩
  have hbX : Below W3.heap.size W3 U1 := (Below.refl _ W3).drew.trans hb1
  have hS1 := hS0.trans (hb1.mono hS0.size)
  clear hb1 hbX
  clear hS0
  have hS0 := hS1
  clear hS1
  have HV9 : Hid (HeldV U1 (fun b => b < U1.heap.size) f1 va x1) := hv1.mv (fun _ _ => rfl) (fun b hb => hb.2)
  clear hv1
  dsimp only
  refine hK.out _ _ hS0 (fun _ => ?_)
  clear hK K
  refine T_call 4 (by kernel_rfl) rfl (fun K hK => ?_)
  go_simp
  refine (HENa.out _ _ hS0 HV9.out).mono ?_
  rintro e U2 ⟨ab, zb, cb, eb, rfl, hbi, hsp, hS1, hb2⟩
  clear hb2 HV9
  clear hS0
  have hS0 := hS1
  clear hS1
  have HBIzb := Lib.hid hbi
  have HSPzb := Lib.hid hsp
  clear hbi hsp
  dsimp only
  refine hK.out _ _ hS0 (fun _ => ?_)
  clear hK K
  refine T_on 5 (.tuple #[.slice ab zb.length cb, .int .i64 eb]) rfl (by kernel_rfl) (fun _ _ _ h => h) hS0 (fun W hW => by go_simp) ?_
  refine T_on 6 (.slice ab zb.length cb) rfl (by kernel_rfl) (fun _ _ _ h => h) hS0 (fun W hW => by go_simp) ?_
  refine T_on 7 (.int .i64 eb) rfl (by kernel_rfl) (fun _ _ _ h => h) hS0 (fun W hW => by go_simp) ?_
  refine T_on 8 (.slice ab zb.length cb) rfl (by kernel_rfl) (fun _ _ _ h => h) hS0 (fun W hW => by go_simp) ?_
  refine T_on 9 (.int .i64 eb) rfl (by kernel_rfl) (fun _ _ _ h => h) hS0 (fun W hW => by go_simp) ?_
  refine wpAnyH_done (by kernel_rfl) ?_ _
  go_simp
  go_upto_region 4 with fail
  have hS1 : Below V.heap.size V U2.drew := hS0.drew
  clear hS0
  have hS0 := hS1
  clear hS1
  refine wp_region_held_drew (S := fun W => Below V.heap.size V W) (by kernel_rfl) hS0 (fun _ => ?_)
  refine T_on 0 (.agg #[.slice ma nm mc, .slice ea ne ec, .slice ta nt tc]) rfl (by kernel_rfl) (fun _ _ _ h => h) hS0 (fun W hW => by have c0 := s0 W hW; have c1 := s1 W hW; have c2 := s2 W hW; go_simp) ?_
  refine T_on 1 (.int .i64 t) rfl (by kernel_rfl) (fun _ _ _ h => h) hS0 (fun W hW => by go_simp) ?_
  refine T_on 2 (.agg #[.int .i64 x2.kind, .int .i64 x2.n, .int .u64 x2.u, .bool x2.b, .string (mkB x2.s), .int .i64 x2.type, .slice ya yl yc]) rfl (by kernel_rfl) (fun _ _ _ h => h) hS0 (fun W hW => by have c0 := m0 W hW; have c1 := m1 W hW; have c2 := m2 W hW; have c3 := m3 W hW; have c4 := m4 W hW; have c5 := m5 W hW; have c6 := m6 W hW; go_simp) ?_
  refine T_call 3 (by kernel_rfl) rfl (fun K hK => ?_)
  go_simp
  refine (HTHb.out _ hS0).mono ?_
  rintro e U3 ⟨va, rfl, hv1, hb1⟩
  have hbX : Below U2.heap.size U2 U3 := (Below.refl _ U2).drew.trans hb1
  have HBI3 : Hid (BIn U3 (fun b => b < U3.heap.size) ab cb zb) := HBIzb.out.mv (fun b hb => hbX.block b hb) (fun b hb => by have hb' : b < U2.heap.size := hb; have := hbX.size; omega)
  clear HBIzb
  have hS1 := hS0.trans (hb1.mono hS0.size)
  clear hb1 hbX
  clear hS0
  have hS0 := hS1
  clear hS1
  have HV9 : Hid (HeldV U3 (fun b => b < U3.heap.size) f2 va x2) := hv1.mv (fun _ _ => rfl) (fun b hb => hb.2)
  clear hv1
  dsimp only
  refine hK.out _ _ hS0 (fun _ => ?_)
  clear hK K
  refine T_call 4 (by kernel_rfl) rfl (fun K hK => ?_)
  go_simp
  refine (HENb.out _ _ hS0 HV9.out).mono ?_
  rintro e U4 ⟨ac, zc, cc, ec2, rfl, hbi, hsp, hS1, hb2⟩
  have HBI4 : Hid (BIn U4 (fun b => b < U4.heap.size) ab cb zb) := HBI3.out.mv (fun b hb => hb2.block b hb) (fun b hb => by have hb' : b < U3.heap.size := hb; have := hb2.size; omega)
  clear HBI3
  clear hb2 HV9
  clear hS0
  have hS0 := hS1
  clear hS1
  have HBIzc := Lib.hid hbi
  have HSPzc := Lib.hid hsp
  clear hbi hsp
  dsimp only
  refine hK.out _ _ hS0 (fun _ => ?_)
  clear hK K
  refine T_on 5 (.tuple #[.slice ac zc.length cc, .int .i64 ec2]) rfl (by kernel_rfl) (fun _ _ _ h => h) hS0 (fun W hW => by go_simp) ?_
  refine T_on 6 (.slice ac zc.length cc) rfl (by kernel_rfl) (fun _ _ _ h => h) hS0 (fun W hW => by go_simp) ?_
  refine T_on 7 (.int .i64 ec2) rfl (by kernel_rfl) (fun _ _ _ h => h) hS0 (fun W hW => by go_simp) ?_
  refine T_on 8 (.slice ac zc.length cc) rfl (by kernel_rfl) (fun _ _ _ h => h) hS0 (fun W hW => by go_simp) ?_
  refine T_on 9 (.int .i64 ec2) rfl (by kernel_rfl) (fun _ _ _ h => h) hS0 (fun W hW => by go_simp) ?_
  refine wpAnyH_done (by kernel_rfl) ?_ _
  go_simp
  by_cases he1 : eb = 0
  case neg =>
    have hne1 : (eb == 0) = false := by simp; exact he1
    have HE := Lib.hid (HWB.out _ hS0)
    clear HSPzb HSPzc HBI4 HBIzc HENa HENb HTHa HTHb HDC2 HJA2
    go_wp2_with fail
    go_ret
    exact ⟨rfl, HE.out⟩
  by_cases he2 : ec2 = 0
  case neg =>
    have hne2 : (ec2 == 0) = false := by simp; exact he2
    subst he1
    have HE := Lib.hid (HWB.out _ hS0)
    clear HSPzb HSPzc HBI4 HBIzc HENa HENb HTHa HTHb HDC2 HJA2
    go_wp2_with fail
    go_ret
    exact ⟨rfl, HE.out⟩
  by_cases hl : zb.length + zc.length ≤ 4096
  case neg =>
    subst he1 he2
    have hwl : IntKind.i64.wrap ((zb.length : Int) + (zc.length : Int)) = (zb.length : Int) + (zc.length : Int) := by rw [IntKind.wrap_i64]; have h1 := HBI4.out.1; have h2 := HBIzc.out.1; omega
    have hL2 : (4096 : Int) < (zb.length : Int) + (zc.length : Int) := by omega
    have HE := Lib.hid (HWB.out _ hS0)
    clear HSPzb HSPzc HBI4 HBIzc HENa HENb HTHa HTHb HDC2 HJA2
    go_wp2_with fail
    go_ret
    exact ⟨rfl, HE.out⟩
  have fx : ∀ {f : Nat} {x : Nd} {zs : List Int} {e : Int}, ((¬ FitX s f t x ∧ zs = [] ∧ e = 1) ∨ (FitX s f t x ∧ zs = encLz s f x ∧ e = encE s f x)) → e = 0 → FitX s f t x ∧ zs = encB s f x := fun {f x zs e} h he0 => by
    rcases h with ⟨_, _, h⟩ | ⟨h0, h1, h2⟩
    · rw [h] at he0; exact absurd he0 (by decide)
    · unfold encE at h2
      unfold encLz at h1
      split at h2
      · rename_i hn; rw [if_pos hn] at h1; exact ⟨h0, h1⟩
      · rw [h2] at he0; exact absurd he0 (by decide)
  obtain ⟨hx1, hz1⟩ := fx HSPzb.out he1
  obtain ⟨hx2, hz2⟩ := fx HSPzc.out he2
  subst he1 he2
  obtain ⟨z, hz, hlens⟩ := HJA2.out hx1 hx2 (by rw [← hz1, ← hz2, List.length_append]; exact hl)
  rw [← hz1, ← hz2] at hz
  have HZ := Lib.hid hz
  have HLENS := Lib.hid hlens
  have HX1 := Lib.hid hx1
  have HX2 := Lib.hid hx2
  have hDY : DecY s t (normN s.ms 16 z) := decY_of (fitS_of HSS.out) ⟨hx1.1, hx1.2.1, hx1.2.2.1⟩ (fun q hq => by
    rcases List.mem_append.1 hq with hq | hq
    · exact bin_ok HBI4.out q hq
    · exact bin_ok HBIzc.out q hq) (by rw [List.length_append]; exact hl) hz
  have HDY := Lib.hid hDY
  obtain ⟨q, hq⟩ : ∃ q : Nat, t = (q : Int) := ⟨t.toNat, by have := hx1.2.1; omega⟩
  have HKT1 := Lib.hid (kindT_of f1 1 t x1 hx1.2.2.2)
  have HKT2 := Lib.hid (kindT_of f2 1 t x2 hx2.2.2.2)
  have hs71 : x1.kind = 7 := by have h := hx1.2.2.2; rw [fitP_eq, topP, Bool.and_eq_true, decide_eq_true_eq] at h; exact h.1.1
  have hs72 : x2.kind = 7 := by have h := hx2.2.2.2; rw [fitP_eq, topP, Bool.and_eq_true, decide_eq_true_eq] at h; exact h.1.1
  have HS71 := Lib.hid hs71
  have HS72 := Lib.hid hs72
  have HL4 := Lib.hid hl
  have HOKb := Lib.hid (bin_ok HBI4.out)
  have HOKc := Lib.hid (bin_ok HBIzc.out)
  subst hq
  have hwl : IntKind.i64.wrap ((zb.length : Int) + (zc.length : Int)) = (zb.length : Int) + (zc.length : Int) := by rw [IntKind.wrap_i64]; omega
  have hnl : ¬ (4096 : Int) < (zb.length : Int) + (zc.length : Int) := by omega
  clear fx hz1 hz2 hz hlens hx1 hx2 hDY hs71 hs72 HJA2 HENa HENb HSPzb HSPzc hl
  go_upto_region 7 with fail
  have HU4 := Lib.hid hS0
  have hS1 : Below V.heap.size V U4.drew := hS0.drew
  clear hS0
  have hS0 := hS1
  clear hS1
  refine wp_region_held_drew (S := fun W => Below V.heap.size V W) (by kernel_rfl) hS0 (fun _ => ?_)
  refine T_on 0 (.agg #[.slice ma nm mc, .slice ea ne ec, .slice ta nt tc]) rfl (by kernel_rfl) (fun _ _ _ h => h) hS0 (fun W hW => by have c0 := s0 W hW; have c1 := s1 W hW; have c2 := s2 W hW; go_simp) ?_
  refine T_on 1 (.int .i64 (q : Int)) rfl (by kernel_rfl) (fun _ _ _ h => h) hS0 (fun W hW => by go_simp) ?_
  refine T_on 3 (.slice ab zb.length cb) rfl (by kernel_rfl) (fun _ _ _ h => h) hS0 (fun W hW => by go_simp) ?_
  refine T_on 5 (.slice ac zc.length cc) rfl (by kernel_rfl) (fun _ _ _ h => h) hS0 (fun W hW => by go_simp) ?_
  refine T_call 2 (by kernel_rfl) rfl (fun K hK => ?_)
  go_simp
  have hbX : Below U4.heap.size U4 (U4.alloc (Obj.cells #[] 5)).drew := ((Below.refl _ U4).alloc (Nat.le_refl _) _).drew
  have hS1 : Below V.heap.size V (U4.alloc (Obj.cells #[] 5)).drew := HU4.out.trans (hbX.mono HU4.out.size)
  have hXs : U4.heap.size + 1 ≤ (U4.alloc (Obj.cells #[] 5)).drew.heap.size := by show _ ≤ (U4.alloc (Obj.cells #[] 5)).heap.size; simp
  refine hK.out _ _ hS1 (fun _ => ?_)
  clear hK K
  generalize (U4.alloc (Obj.cells #[] 5)).drew = X0 at *
  clear hS0
  have hS0 := hS1
  clear hS1
  have HBI5 : Hid (BIn X0 (fun b => b < X0.heap.size) ab cb zb) := HBI4.out.mv (fun b hb => hbX.block b hb) (fun b hb => by have hb' : b < U4.heap.size := hb; have := hbX.size; omega)
  have HBI6 : Hid (BIn X0 (fun b => b < X0.heap.size) ac cc zc) := HBIzc.out.mv (fun b hb => hbX.block b hb) (fun b hb => by have hb' : b < U4.heap.size := hb; have := hbX.size; omega)
  have hl1 : zb.length ≤ 4096 := by have := HL4.out; omega
  have hl2 : zc.length ≤ 4096 := by have := HL4.out; omega
  clear HBI4 HBIzc hbX
  refine T_call 4 (by kernel_rfl) rfl (fun K hK => ?_)
  refine stepE_append rfl (.tmp 69) (.tmp 70) rfl X0.heap.size (.slice (some ⟨U4.heap.size, 0, none⟩) 0 0) [] rfl (.inr ⟨rfl, _, rfl⟩) ab zb.length cb zb rfl HBI5.out.isB HBI5.out.2.1 (by simp; omega) (Nat.le_refl _) ?_
  intro v5 X1 hown5 hb5
  rw [List.nil_append] at hown5
  have hS1 := hS0.trans (hb5.mono hS0.size)
  have hX1 := hb5.size
  refine hK.out _ _ hS1 (fun _ => ?_)
  clear hK K HBI5
  clear hS0
  have hS0 := hS1
  clear hS1
  have HBI7 : Hid (BIn X1 (fun b => b < X1.heap.size) ac cc zc) := HBI6.out.mv (fun b hb => hb5.block b hb) (fun b hb => by have hb' : b < X0.heap.size := hb; have := hb5.size; omega)
  clear hb5 HBI6
  refine T_call 6 (by kernel_rfl) rfl (fun K hK => ?_)
  refine stepE_append rfl (.tmp 71) (.tmp 72) rfl X0.heap.size v5 zb rfl hown5 ac zc.length cc zc rfl HBI7.out.isB HBI7.out.2.1 (by omega) hX1 ?_
  intro v6 X2 hown6 hb6
  have hS1 : Below V.heap.size V X2 := hS0.trans (hb6.mono (by have := HU4.out.size; omega))
  refine hK.out _ _ hS1 (fun _ => ?_)
  clear hK K hown5 hb6
  clear hS0
  have hS0 := hS1
  clear hS1
  obtain ⟨zj, hzj⟩ : ∃ zj, zb ++ zc = zj := ⟨_, rfl⟩
  have hlj : zj.length ≤ 4096 := by rw [← hzj, List.length_append]; exact HL4.out
  have hbj : ∀ q ∈ zj, 0 ≤ q ∧ q ≤ 255 := fun q hq => by
    rw [← hzj] at hq
    rcases List.mem_append.1 hq with hq | hq
    · exact HOKb.out q hq
    · exact HOKc.out q hq
  rw [hzj] at hown6 HZ
  obtain ⟨ad, cd, rfl, hbi⟩ := bin_ownE hown6 hbj (by omega)
  have hdc := HDC2.out z zj ad cd X2 ⟨HX1.out.1, HX1.out.2.1, HX1.out.2.2.1⟩ hlj HZ.out hS0 (hbi.mv (fun _ _ => rfl) (fun b hb => hb.2))
  clear hown6 hzj hbj hbi HBI7 hlj hX1 hXs HDC2 HZ
  refine T_call 7 (by kernel_rfl) rfl (fun K hK => ?_)
  go_simp
  refine hdc.mono ?_
  rintro e U5 ⟨vv, rfl, hvv, hS1, _⟩
  have HVV := Lib.hid hvv
  clear hdc hvv
  clear hS0
  have hS0 := hS1
  clear hS1
  dsimp only
  refine hK.out _ _ hS0 (fun _ => ?_)
  clear hK K
  refine T_on 8 (.tuple #[vv, .int .i64 0]) rfl (by kernel_rfl) (fun _ _ _ h => h) hS0 (fun W hW => by go_simp) ?_
  refine T_on 9 (vv) rfl (by kernel_rfl) (fun _ _ _ h => h) hS0 (fun W hW => by go_simp) ?_
  refine T_on 10 (.int .i64 0) rfl (by kernel_rfl) (fun _ _ _ h => h) hS0 (fun W hW => by go_simp) ?_
  refine T_on 11 (vv) rfl (by kernel_rfl) (fun _ _ _ h => h) hS0 (fun W hW => by go_simp) ?_
  refine T_on 12 (.int .i64 0) rfl (by kernel_rfl) (fun _ _ _ h => h) hS0 (fun W hW => by go_simp) ?_
  refine wpAnyH_done (by kernel_rfl) ?_ _
  go_simp
  have hqn : q < nm := by have := HX1.out.2.2.1; rw [HNM.out] at this; omega
  obtain ⟨md, hmd⟩ : ∃ md, s.ms[q]? = some md := ⟨_, List.getElem?_eq_getElem (by rw [HNM.out]; exact hqn)⟩
  obtain ⟨g, oo, c0, ka, kc, hsl, hg, e0, e1, hrow⟩ := HeldN.at HHM.out (W := w) (fun b hb => rfl) hmd
  rw [HNM.out] at hsl
  obtain ⟨rfl, rfl⟩ := slice_two hsl
  have hgN : g < w.heap.size := hg
  have hfo : fieldsOf s.ms (q : Int) = md.fields := by unfold fieldsOf; rw [Int.toNat_natCast, hmd]
  have hfl : md.fields.length ≤ 100000 := (tyOK_of (fitS_of HSS.out) HX1.out.1 md (List.mem_of_getElem? hmd)).1
  rw [hfo] at HLENS
  obtain ⟨mname, mfs⟩ := md
  dsimp only at hrow e0 e1 hfl HLENS
  obtain ⟨nf, hnf⟩ : ∃ n, mfs.length = n := ⟨_, rfl⟩
  rw [hnf] at hrow e1 hfl
  have HNF := Lib.hid hnf
  have HROW := Lib.hid hrow
  have d0 : U5.cell? ⟨g, oo + q * 2, none⟩ = some (.string (mkB mname)) := ((HWB.out U5 hS0).cell (by simpa using hgN)).trans e0
  have d1 : U5.cell? ⟨g, oo + q * 2 + 1, none⟩ = some (.slice ka nf kc) := ((HWB.out U5 hS0).cell (by simpa using hgN)).trans e1
  have hq0 : (0 : Int) ≤ (q : Int) := by omega
  have hq1 : (q : Int) < (nm : Int) := by omega
  have hqa : ¬ (q : Int) < 0 := by omega
  have hqb : ¬ (nm : Int) ≤ (q : Int) := by omega
  have b0 := s0 U5 hS0
  have hC : (U5.alloc (.cells #[.string (mkB mname), .slice ka nf kc] 50)).heap[U5.heap.size]? = some (.cells #[.string (mkB mname), .slice ka nf kc] 50 (0, 0)) := alloc_heap_new _ _
  have hCb : Below U5.heap.size U5 (U5.alloc (.cells #[.string (mkB mname), .slice ka nf kc] 50)) := (Below.refl _ U5).alloc (Nat.le_refl _) _
  have hCs : (U5.alloc (.cells #[.string (mkB mname), .slice ka nf kc] 50)).heap.size = U5.heap.size + 1 := by simp
  clear hsl hg e0 e1 hrow hmd hnf hfo
  go_upto_region 11 with fail
  generalize (U5.alloc (.cells #[.string (mkB mname), .slice ka nf kc] 50)) = X at *
  have u1 : X.cell? ⟨U5.heap.size, 1, none⟩ = some (.slice ka nf kc) := cell_at hC 1 rfl
  have HCX := Lib.hid hC
  have HBX := Lib.hid hCb
  have HSX := Lib.hid (hS0.trans (hCb.mono hS0.size))
  clear hC hCb d0 d1 b0 hS0
  go_wp2_with fail
  clear u1
  go_loopw [98] (fun i wr => ∃ k : Nat, i = .int .i64 (k : Int) ∧ k ≤ nf ∧ Below X.heap.size X wr) (fun i _ => nf - (intOf i).toNat)
  case atStart => exact ⟨0, rfl, Nat.zero_le _, Below.refl _ _⟩
  case round =>
    generalize wr = w1 at *
    obtain ⟨k, rfl, hk, hbel⟩ := hrel
    have HBE := Lib.hid hbel
    have hS0 := HSX.out.trans (hbel.mono HSX.out.size)
    have u1 : w1.cell? ⟨U5.heap.size, 1, none⟩ = some (.slice ka nf kc) := (hbel.cell (by simp; omega)).trans (cell_at HCX.out 1 rfl)
    have hws := hbel.size
    clear hbel
    by_cases hkn : k < nf
    · obtain ⟨fd, hfd⟩ : ∃ fd, mfs[k]? = some fd := ⟨_, List.getElem?_eq_getElem (by have := HNF.out; omega)⟩
      obtain ⟨g3, o3, c3, hsl, hg3, a0, a1, a2, a3, a4⟩ := fd_at HROW.out (W := w1) (fun b hb => (HWB.out w1 hS0).block b hb) hfd
      rw [HNF.out] at hsl
      obtain ⟨rfl, rfl⟩ := slice_two hsl
      have hlen := HLENS.out fd (List.mem_of_getElem? hfd)
      obtain ⟨fnum, fname, fkind, frep, ftype⟩ := fd
      dsimp only at a0 a3 hlen
      obtain ⟨L1, hL1⟩ : ∃ L, (valsF (normN s.ms 16 z).fields fnum).length = L := ⟨_, rfl⟩
      obtain ⟨L2, hL2⟩ : ∃ L, (valsF x1.fields fnum).length = L := ⟨_, rfl⟩
      obtain ⟨L3, hL3⟩ : ∃ L, (valsF x2.fields fnum).length = L := ⟨_, rfl⟩
      rw [hL1, hL2, hL3] at hlen
      have hb2 : L2 ≤ 10000 := by rw [← hL2]; exact vals_le HF1.out HDP1.out
      have hb3 : L3 ≤ 10000 := by rw [← hL3]; exact vals_le HF2.out HDP2.out
      have HGA : Hid (∀ W, Below U5.heap.size U5 W → Calls Tryz.prog 15 #[vv, .int .i64 fnum] W fun e w' => ∃ a c, e = .returned (.slice a L1 c) ∧ Below W.heap.size W w') := by
        refine (?_ : ∀ W, _ → _)
        intro W hW
        refine (get_any 16 (normN s.ms 16 z) vv fnum W HDY.out.seven HDY.out.fitG HDY.out.kt (HVV.out.mv (fun b hb => hW.block b hb) (fun b hb => by have hb' : b < U5.heap.size := hb; have := hW.size; omega))).mono ?_
        rintro e w' ⟨a, c, he, _, hb⟩
        rw [hL1] at he
        exact ⟨a, c, he, hb⟩
      have HGB : Hid (∀ W v, HeldV W (fun b => b < W.heap.size) f1 v x1 → Calls Tryz.prog 15 #[v, .int .i64 fnum] W fun e w' => ∃ a c, e = .returned (.slice a L2 c) ∧ Below W.heap.size W w') := by
        refine (?_ : ∀ W v, _ → _)
        intro W v hv
        refine (get_any f1 x1 v fnum W HS71.out HF1.out HKT1.out hv).mono ?_
        rintro e w' ⟨a, c, he, _, hb⟩
        rw [hL2] at he
        exact ⟨a, c, he, hb⟩
      have HGC : Hid (∀ W v, HeldV W (fun b => b < W.heap.size) f2 v x2 → Calls Tryz.prog 15 #[v, .int .i64 fnum] W fun e w' => ∃ a c, e = .returned (.slice a L3 c) ∧ Below W.heap.size W w') := by
        refine (?_ : ∀ W v, _ → _)
        intro W v hv
        refine (get_any f2 x2 v fnum W HS72.out HF2.out HKT2.out hv).mono ?_
        rintro e w' ⟨a, c, he, _, hb⟩
        rw [hL3] at he
        exact ⟨a, c, he, hb⟩
      have HLEN := Lib.hid hlen
      have HA3 := Lib.hid a3
      have hg3N : g3 < w.heap.size := hg3
      have hk0 : (0 : Int) ≤ (k : Int) := by omega
      have hk1 : (k : Int) < (nf : Int) := by omega
      have hwk : IntKind.i64.wrap ((k : Int) + 1) = (k : Int) + 1 := by rw [IntKind.wrap_i64]; omega
      have hwl2 : IntKind.i64.wrap ((L2 : Int) + (L3 : Int)) = (L2 : Int) + (L3 : Int) := by rw [IntKind.wrap_i64]; omega
      clear hsl hfd hg3 hlen hL1 hL2 hL3 a1 a2 a4
      go_upto_region 15 with fail
      have HU1 := Lib.hid u1
      have hR0 : Below w1.heap.size w1 w1.drew := (Below.refl _ w1).drew
      have hS1 : Below V.heap.size V w1.drew := hS0.drew
      clear hS0
      have hS0 := hS1
      clear hS1
      clear a0 a3 u1
      refine wp_region_held_drew (S := fun W => Below V.heap.size V W) (by kernel_rfl) hS0 (fun _ => ?_)
      refine T_on 0 (vv) rfl (by kernel_rfl) (fun _ _ _ h => h) hS0 (fun W hW => by go_simp) ?_
      refine T_on 1 (.int .i64 fnum) rfl (by kernel_rfl) (fun _ _ _ h => h) hS0 (fun W hW => by go_simp) ?_
      refine T_on 3 (.agg #[.int .i64 x1.kind, .int .i64 x1.n, .int .u64 x1.u, .bool x1.b, .string (mkB x1.s), .int .i64 x1.type, .slice xa xl xc]) rfl (by kernel_rfl) (fun _ _ _ h => h) hS0 (fun W hW => by have c0 := n0 W hW; have c1 := n1 W hW; have c2 := n2 W hW; have c3 := n3 W hW; have c4 := n4 W hW; have c5 := n5 W hW; have c6 := n6 W hW; go_simp) ?_
      refine T_on 5 (.int .i64 fnum) rfl (by kernel_rfl) (fun _ _ _ h => h) hS0 (fun W hW => by go_simp) ?_
      refine T_on 7 (.agg #[.int .i64 x2.kind, .int .i64 x2.n, .int .u64 x2.u, .bool x2.b, .string (mkB x2.s), .int .i64 x2.type, .slice ya yl yc]) rfl (by kernel_rfl) (fun _ _ _ h => h) hS0 (fun W hW => by have c0 := m0 W hW; have c1 := m1 W hW; have c2 := m2 W hW; have c3 := m3 W hW; have c4 := m4 W hW; have c5 := m5 W hW; have c6 := m6 W hW; go_simp) ?_
      refine T_on 9 (.int .i64 fnum) rfl (by kernel_rfl) (fun _ _ _ h => h) hS0 (fun W hW => by go_simp) ?_
      refine T_call 2 (by kernel_rfl) rfl (fun K hK => ?_)
      go_simp
      refine (HGA.out _ (HBX.out.trans ((HBE.out.trans (hR0.mono HBE.out.size)).mono HBX.out.size))).mono ?_
      rintro e T1 ⟨ga, gc, rfl, hb1⟩
      have hS1 := hS0.trans (hb1.mono hS0.size)
      have hR1 := hR0.trans (hb1.mono hR0.size)
      clear hb1 hR0
      clear hS0
      have hS0 := hS1
      clear hS1
      have hR0 := hR1
      clear hR1
      dsimp only
      refine hK.out _ _ hS0 (fun _ => ?_)
      clear hK K
      refine T_call 4 (by kernel_rfl) rfl (fun K hK => ?_)
      go_simp
      refine (HTHa.out _ hS0).mono ?_
      rintro e T2 ⟨v2, rfl, hv2, hb1⟩
      have hS1 := hS0.trans (hb1.mono hS0.size)
      have hR1 := hR0.trans (hb1.mono hR0.size)
      have HV2 : Hid (HeldV T2 (fun b => b < T2.heap.size) f1 v2 x1) := hv2.mv (fun _ _ => rfl) (fun b hb => hb.2)
      clear hv2
      clear hb1 hR0
      clear hS0
      have hS0 := hS1
      clear hS1
      have hR0 := hR1
      clear hR1
      dsimp only
      refine hK.out _ _ hS0 (fun _ => ?_)
      clear hK K
      refine T_call 6 (by kernel_rfl) rfl (fun K hK => ?_)
      go_simp
      refine (HGB.out _ _ HV2.out).mono ?_
      rintro e T3 ⟨gb, gd, rfl, hb1⟩
      have hS1 := hS0.trans (hb1.mono hS0.size)
      have hR1 := hR0.trans (hb1.mono hR0.size)
      clear hb1 hR0
      clear hS0
      have hS0 := hS1
      clear hS1
      have hR0 := hR1
      clear hR1
      dsimp only
      refine hK.out _ _ hS0 (fun _ => ?_)
      clear hK K
      refine T_call 8 (by kernel_rfl) rfl (fun K hK => ?_)
      go_simp
      refine (HTHb.out _ hS0).mono ?_
      rintro e T4 ⟨v3, rfl, hv3, hb1⟩
      have hS1 := hS0.trans (hb1.mono hS0.size)
      have hR1 := hR0.trans (hb1.mono hR0.size)
      have HV3 : Hid (HeldV T4 (fun b => b < T4.heap.size) f2 v3 x2) := hv3.mv (fun _ _ => rfl) (fun b hb => hb.2)
      clear hv3
      clear hb1 hR0
      clear hS0
      have hS0 := hS1
      clear hS1
      have hR0 := hR1
      clear hR1
      dsimp only
      refine hK.out _ _ hS0 (fun _ => ?_)
      clear hK K
      refine T_call 10 (by kernel_rfl) rfl (fun K hK => ?_)
      go_simp
      refine (HGC.out _ _ HV3.out).mono ?_
      rintro e T5 ⟨gg, ge, rfl, hb1⟩
      have hS1 := hS0.trans (hb1.mono hS0.size)
      have hR1 := hR0.trans (hb1.mono hR0.size)
      clear hb1 hR0
      clear hS0
      have hS0 := hS1
      clear hS1
      have hR0 := hR1
      clear hR1
      dsimp only
      refine hK.out _ _ hS0 (fun _ => ?_)
      clear hK K
      refine T_on 11 (.slice ga L1 gc) rfl (by kernel_rfl) (fun _ _ _ h => h) hS0 (fun W hW => by go_simp) ?_
      refine T_on 12 (.slice gb L2 gd) rfl (by kernel_rfl) (fun _ _ _ h => h) hS0 (fun W hW => by go_simp) ?_
      refine T_on 13 (.slice gg L3 ge) rfl (by kernel_rfl) (fun _ _ _ h => h) hS0 (fun W hW => by go_simp) ?_
      refine wpAnyH_done (by kernel_rfl) ?_ _
      go_simp
      have u5 : T5.cell? ⟨U5.heap.size, 1, none⟩ = some (.slice (some ⟨g3, o3, none⟩) nf kc) := (hR0.cell (by simp; omega)).trans HU1.out
      have a5 : T5.cell? ⟨g3, o3 + k * 5 + 3, none⟩ = some (.bool frep) := (hR0.cell (by have := (HWB.out _ HSX.out).size; simp; omega)).trans HA3.out
      have HB5 := Lib.hid (HBE.out.trans (hR0.mono HBE.out.size))
      clear hS0 hR0 HV2 HV3 HGA HGB HGC HU1 HA3
      cases frep
      case false =>
        go_wp2_with fail
        go_roundw
        case rel => exact ⟨k + 1, by go_num, by omega, HB5.out⟩
        case measure => simp [intOf]; omega
      case true =>
        have hLe : ((L1 : Int) == (L2 : Int) + (L3 : Int)) = true := by have := HLEN.out rfl; simp; omega
        go_wp2_with fail
        go_roundw
        case rel => exact ⟨k + 1, by go_num, by omega, HB5.out⟩
        case measure => simp [intOf]; omega
    · have hkn' : ¬ (k : Int) < (nf : Int) := by omega
      have HE := Lib.hid (HWB.out _ hS0)
      clear u1 hS0
      go_wp2_with fail
      go_ret
      exact ⟨rfl, HE.out⟩
end Go.Proofs.YtnopnjklcdcckaaGreatDoor
