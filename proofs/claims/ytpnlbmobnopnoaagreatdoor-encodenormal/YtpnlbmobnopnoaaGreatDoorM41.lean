/-
  The walk over the law EncodeNormal.
-/
import Derived.Test.YtpnlbmobnopnoaaGreatDoorM39
import Derived.Test.YtpnlbmobnopnoaaGreatDoorM40
namespace Go.Proofs.YtpnlbmobnopnoaaGreatDoor
set_option linter.unusedVariables false
open Go.ChangeShapes Go.WideShapes Go.ChangeAt Go.RowKit

/-- what Normal and Encode answer, in one form -/
def NmU (s : SC) (f : Nat) (t : Int) (x : Nd) (w0 : World) (e : Ending) (w' : World) : Prop :=
  ∃ vv ee, e = .returned (.tuple #[vv, .int .i64 ee]) ∧ ((¬ FitX s f t x ∧ vv = .nilIface ∧ ee = 1) ∨ (FitX s f t x ∧ ee = 0 ∧ HeldV w' (fun b => b < w'.heap.size) f vv (normN s.ms f x))) ∧ Below w0.heap.size w0 w'
def EnU (s : SC) (f : Nat) (t : Int) (x : Nd) (w0 w : World) (e : Ending) (w' : World) : Prop :=
  ∃ a zs c ee, e = .returned (.tuple #[.slice a zs.length c, .int .i64 ee]) ∧ BIn w' (fun b => b < w'.heap.size) a c zs ∧ ((¬ FitX s f t x ∧ zs = [] ∧ ee = 1) ∨ (FitX s f t x ∧ zs = encLz s f x ∧ ee = encE s f x)) ∧ Below w0.heap.size w0 w' ∧ Below w.heap.size w w'
theorem nmU_of {s : SC} {f : Nat} {t : Int} {x : Nd} {w0 w : World} {e : Ending} {w' : World} (h : NmAns s f t x w e w') (hb : Below w0.heap.size w0 w) : NmU s f t x w0 e w' := by
  obtain ⟨⟨h1, rfl⟩ | ⟨h1, v, rfl, h2⟩, h3⟩ := h
  · exact ⟨_, _, rfl, .inl ⟨h1, rfl, rfl⟩, hb.trans (h3.mono hb.size)⟩
  · exact ⟨_, _, rfl, .inr ⟨h1, rfl, h2.mv (fun _ _ => rfl) (fun b hb => hb.2)⟩, hb.trans (h3.mono hb.size)⟩
theorem enU_of {s : SC} {f : Nat} {t : Int} {x : Nd} {w0 w : World} {e : Ending} {w' : World} (h : EncAns s f t x w e w') (hb : Below w0.heap.size w0 w) : EnU s f t x w0 w e w' := by
  obtain ⟨⟨h1, rfl⟩ | ⟨h1, a, c, rfl, h2⟩, h3⟩ := h
  · exact ⟨none, [], 0, 1, rfl, BIn.nil _ _, .inl ⟨h1, rfl, rfl⟩, hb.trans (h3.mono hb.size), h3⟩
  · exact ⟨a, _, c, _, rfl, h2.mv (fun _ _ => rfl) (fun b hb => hb.2), .inr ⟨h1, rfl, rfl⟩, hb.trans (h3.mono hb.size), h3⟩
/-- what is normal has the bytes of its normal value -/
theorem encB_norm (s : SC) (f : Nat) (x : Nd) : encB s f (normN s.ms f x) = encB s f x := by unfold encB; rw [norm_norm]
theorem encLz_norm (s : SC) (f : Nat) (x : Nd) : encLz s f (normN s.ms f x) = encLz s f x := by unfold encLz; rw [encB_norm]
theorem encE_norm (s : SC) (f : Nat) (x : Nd) : encE s f (normN s.ms f x) = encE s f x := by unfold encE; rw [encB_norm]
theorem fitX_norm {s : SC} {f : Nat} {t : Int} {x : Nd} (hf : FitS s) (h : FitX s f t x) : FitX s f t (normN s.ms f x) := ⟨h.1, h.2.1, h.2.2.1, norm_fit (numOK_of hf h.1) f 1 t x h.2.1 h.2.2.1 h.2.2.2⟩
set_option maxHeartbeats 32000000 in
set_option maxRecDepth 20000 in
theorem encodeNormal_any (ma ea ta : Option Addr) (nm ne nt mc ec tc : Nat) (s : SC) (t : Int) (f : Nat) (x : Nd) (xa : Option Addr) (xl xc : Nat) (w : World) (hT : Tabs w) (hnm : s.ms.length = nm) (hne : s.es.length = ne) (hnt : s.ts.length = nt) (hbig : BigS s) (hH : HeldSc w (fun b => b < w.heap.size) (.slice ma nm mc) (.slice ea ne ec) (.slice ta nt tc) s) (hG : HeldG rawS w (fun b => b < w.heap.size) f (.slice xa xl xc) x.fields) (hfit : FitG 140737488355328 140737488355328 f x) (hrng : RngG f x) :
    Calls Tryz.prog 4 #[.agg #[.slice ma nm mc, .slice ea ne ec, .slice ta nt tc], .int .i64 t, .agg #[.int .i64 x.kind, .int .i64 x.n, .int .u64 x.u, .bool x.b, .string (mkB x.s), .int .i64 x.type, .slice xa xl xc]] w fun e w' => e = .returned (.bool true) ∧ Below w.heap.size w w' := by
  obtain ⟨Y, hY, hC, hb, hYs⟩ := box_new w #[.slice ma nm mc, .slice ea ne ec, .slice ta nt tc] 26
  obtain ⟨V, hV, hD, hVb, hVs⟩ := box_new Y #[.int .i64 x.kind, .int .i64 x.n, .int .u64 x.u, .bool x.b, .string (mkB x.s), .int .i64 x.type, .slice xa xl xc] 30
  rw [hYs] at hD
  have HY := Lib.hid hY
  have HV := Lib.hid hV
  have hBV := hb.trans (hVb.mono hb.size)
  have HBV := Lib.hid hBV
  have hCV := (hVb.block _ (by omega)).trans hC
  have hVl : w.heap.size + 2 ≤ V.heap.size := by omega
  have HWB : Hid (∀ W, Below V.heap.size V W → Below w.heap.size w W) := fun W hW => hBV.trans (hW.mono hBV.size)
  have HG : Hid (∀ W, Below w.heap.size w W → HeldG rawS W (fun b => b < W.heap.size) f (.slice xa xl xc) x.fields) := fun W hW => HeldG.mv (fun b hb => hW.block b hb) (fun b hb => by have hb' : b < w.heap.size := hb; have := hW.size; omega) hG
  have HA : Hid (∀ W, Below V.heap.size V W → Calls Tryz.prog 7 #[] W fun e w' => e = .returned (.bool true) ∧ Below V.heap.size V w') := fun W hW => (awake10_any W (tabs_below hT (HWB.out W hW))).mono fun e w' ⟨h1, h2⟩ => ⟨h1, hW.trans (h2.mono hW.size)⟩
  have HFW : Hid (∀ W, Below V.heap.size V W → Calls Tryz.prog 8 #[.agg #[.slice ma nm mc, .slice ea ne ec, .slice ta nt tc], .agg #[.int .i64 x.kind, .int .i64 x.n, .int .u64 x.u, .bool x.b, .string (mkB x.s), .int .i64 x.type, .slice xa xl xc]] W fun e w' => FewAns s f x V e w') := fun W hW => (few9_any ma ea ta nm ne nt mc ec tc s f x xa xl xc W hnm hne hnt hbig (heldSc_mv hH (HWB.out W hW)) (HG.out W (HWB.out W hW)) hfit).mono fun e w' ⟨b, h1, h2, h3⟩ => ⟨b, h1, h2, hW.trans (h3.mono hW.size)⟩
  have HTH : Hid (FitG 100000 1000 f x → ∀ W, Below V.heap.size V W → Calls Tryz.prog 10 #[.agg #[.int .i64 x.kind, .int .i64 x.n, .int .u64 x.u, .bool x.b, .string (mkB x.s), .int .i64 x.type, .slice xa xl xc]] W fun e w' => TheirAns f W x e w') := fun hf W hW => theirsN_any f x (.slice xa xl xc) W hf (HG.out W (HWB.out W hW))
  have HNO : Hid (SmS s → FitG 100000 1000 f x → ∀ (W : World) (v : Value), Below V.heap.size V W → HeldV W (fun b => b < W.heap.size) f v x → Calls Tryz.prog 15 #[.agg #[.slice ma nm mc, .slice ea ne ec, .slice ta nt tc], .int .i64 t, v] W fun e w' => NmU s f t x V e w') := fun hs hf W v hW hv => (normalP_any ma ea ta nm ne nt mc ec tc s f t W (tabs_below hT (HWB.out W hW)) hnm hne hnt (fitS_of hs) (heldSc_mv hH (HWB.out W hW)) v x hv hf).mono fun e w' h => nmU_of h hW
  have HEN : Hid (SmS s → FitG 100000 1000 f x → wtN f x ≤ 400 → ∀ (z : Nd) (W : World) (v : Value), (z = x ∨ z = normN s.ms f x) → Below V.heap.size V W → HeldV W (fun b => b < W.heap.size) f v z → Calls Tryz.prog 9 #[.agg #[.slice ma nm mc, .slice ea ne ec, .slice ta nt tc], .int .i64 t, v] W fun e w' => EnU s f t z V W e w') := by
    refine (?_ : _ → _ → _ → ∀ (z : Nd) (W : World) (v : Value), _ → _ → _ → _)
    intro hs hf hwt z W v hz hW hv
    have hbn : bndN f x ≤ 1000000000 := by have := bnd_wt f x; omega
    have hfz : FitG 100000 1000 f z := by
      rcases hz with rfl | rfl
      · exact hf
      · exact norm_fitG s.ms f x hf
    have hrz : RngG f z := by
      rcases hz with rfl | rfl
      · exact hrng
      · exact norm_rng s.ms f x hrng
    have hbz : bndN f z ≤ 1000000000 := by
      rcases hz with rfl | rfl
      · exact hbn
      · have := norm_bnd s.ms f x; omega
    exact (encode_any ma ea ta nm ne nt mc ec tc s f t W (tabs_below hT (HWB.out W hW)) hnm hne hnt (fitS_of hs) (heldSc_mv hH (HWB.out W hW)) v z hv hfz hrz hbz).mono fun e w' h => enU_of h hW
  have s0 : ∀ W, Below V.heap.size V W → W.cell? ⟨w.heap.size, 0, none⟩ = some (.slice ma nm mc) := fun W hW => (hW.cell (by simp; omega)).trans (cell_at hCV 0 rfl)
  have s1 : ∀ W, Below V.heap.size V W → W.cell? ⟨w.heap.size, 1, none⟩ = some (.slice ea ne ec) := fun W hW => (hW.cell (by simp; omega)).trans (cell_at hCV 1 rfl)
  have s2 : ∀ W, Below V.heap.size V W → W.cell? ⟨w.heap.size, 2, none⟩ = some (.slice ta nt tc) := fun W hW => (hW.cell (by simp; omega)).trans (cell_at hCV 2 rfl)
  have n0 : ∀ W, Below V.heap.size V W → W.cell? ⟨w.heap.size + 1, 0, none⟩ = some (.int .i64 x.kind) := fun W hW => (hW.cell (by simp; omega)).trans (cell_at hD 0 rfl)
  have n1 : ∀ W, Below V.heap.size V W → W.cell? ⟨w.heap.size + 1, 1, none⟩ = some (.int .i64 x.n) := fun W hW => (hW.cell (by simp; omega)).trans (cell_at hD 1 rfl)
  have n2 : ∀ W, Below V.heap.size V W → W.cell? ⟨w.heap.size + 1, 2, none⟩ = some (.int .u64 x.u) := fun W hW => (hW.cell (by simp; omega)).trans (cell_at hD 2 rfl)
  have n3 : ∀ W, Below V.heap.size V W → W.cell? ⟨w.heap.size + 1, 3, none⟩ = some (.bool x.b) := fun W hW => (hW.cell (by simp; omega)).trans (cell_at hD 3 rfl)
  have n4 : ∀ W, Below V.heap.size V W → W.cell? ⟨w.heap.size + 1, 4, none⟩ = some (.string (mkB x.s)) := fun W hW => (hW.cell (by simp; omega)).trans (cell_at hD 4 rfl)
  have n5 : ∀ W, Below V.heap.size V W → W.cell? ⟨w.heap.size + 1, 5, none⟩ = some (.int .i64 x.type) := fun W hW => (hW.cell (by simp; omega)).trans (cell_at hD 5 rfl)
  have n6 : ∀ W, Below V.heap.size V W → W.cell? ⟨w.heap.size + 1, 6, none⟩ = some (.slice xa xl xc) := fun W hW => (hW.cell (by simp; omega)).trans (cell_at hD 6 rfl)
  have hS0 : Below V.heap.size V V := Below.refl _ _
  clear hY hC hb hYs hV hD hVb hVs hBV hCV hH hG hfit hbig hnm hne hnt hT hrng
  go_enter Tryz.func4, Tryz.ntmps4
  go_upto_region 1 with fail
  rw [HY.out, HV.out]
  go_wp2_with fail
  refine (HA.out _ hS0).mono ?_
  rintro e W1 ⟨rfl, hS1⟩
  clear hS0
  have b0 := s0 W1 hS1
  have b1 := s1 W1 hS1
  have b2 := s2 W1 hS1
  have k0 := n0 W1 hS1
  have k1 := n1 W1 hS1
  have k2 := n2 W1 hS1
  have k3 := n3 W1 hS1
  have k4 := n4 W1 hS1
  have k5 := n5 W1 hS1
  have k6 := n6 W1 hS1
  go_wp2_with fail
  refine (HFW.out _ hS1).mono ?_
  rintro e W2 ⟨b, rfl, hsm, hS0⟩
  have HSM := Lib.hid hsm
  clear hS1 hsm b0 b1 b2 k0 k1 k2 k3 k4 k5 k6
  cases b
  case false =>
    go_wp2_with fail
    refine (HA.out _ hS0).mono ?_
    rintro e W3 ⟨rfl, hS1⟩
    have HE := Lib.hid (HWB.out _ hS1)
    go_wp2_with fail
    go_ret
    exact ⟨rfl, HE.out⟩
  obtain ⟨hss, hff, hwt⟩ := HSM.out (by simp)
  have HSS := Lib.hid hss
  have HTH2 := Lib.hid (HTH.out hff)
  have HNO2 := Lib.hid (HNO.out hss hff)
  have HEN2 := Lib.hid (HEN.out hss hff hwt)
  clear HTH HNO HEN hss hff hwt HSM HA HFW
  go_upto_region 3 with fail
  have hS1 : Below V.heap.size V W2.drew := hS0.drew
  clear hS0
  have hS0 := hS1
  clear hS1
  refine wp_region_held_drew (S := fun W => Below V.heap.size V W) (by kernel_rfl) hS0 (fun _ => ?_)
  refine T_on 0 (.agg #[.slice ma nm mc, .slice ea ne ec, .slice ta nt tc]) rfl (by kernel_rfl) (fun _ _ _ h => h) hS0 (fun W hW => by have c0 := s0 W hW; have c1 := s1 W hW; have c2 := s2 W hW; go_simp) ?_
  refine T_on 1 (.int .i64 t) rfl (by kernel_rfl) (fun _ _ _ h => h) hS0 (fun W hW => by go_simp) ?_
  refine T_on 2 (.agg #[.int .i64 x.kind, .int .i64 x.n, .int .u64 x.u, .bool x.b, .string (mkB x.s), .int .i64 x.type, .slice xa xl xc]) rfl (by kernel_rfl) (fun _ _ _ h => h) hS0 (fun W hW => by have c0 := n0 W hW; have c1 := n1 W hW; have c2 := n2 W hW; have c3 := n3 W hW; have c4 := n4 W hW; have c5 := n5 W hW; have c6 := n6 W hW; go_simp) ?_
  refine T_call 3 (by kernel_rfl) rfl (fun K hK => ?_)
  go_simp
  refine (HTH2.out _ hS0).mono ?_
  rintro e U1 ⟨v1, rfl, hv1, hb1⟩
  have hS1 := hS0.trans (hb1.mono hS0.size)
  clear hS0 hb1
  have hS0 := hS1
  clear hS1
  have HVv1 : Hid (HeldV U1 (fun b => b < U1.heap.size) f v1 x) := hv1.mv (fun _ _ => rfl) (fun b hb => hb.2)
  clear hv1
  dsimp only
  refine hK.out _ _ hS0 (fun _ => ?_)
  clear hK K
  refine T_call 4 (by kernel_rfl) rfl (fun K hK => ?_)
  go_simp
  refine (HNO2.out _ _ hS0 HVv1.out).mono ?_
  rintro e U2 ⟨vv, ee, rfl, hsp, hS1⟩
  clear hS0
  have hS0 := hS1
  clear hS1
  have HSP := Lib.hid hsp
  clear hsp
  dsimp only
  refine hK.out _ _ hS0 (fun _ => ?_)
  clear hK K
  refine T_on 5 (.tuple #[vv, .int .i64 ee]) rfl (by kernel_rfl) (fun _ _ _ h => h) hS0 (fun W hW => by go_simp) ?_
  refine T_on 6 (vv) rfl (by kernel_rfl) (fun _ _ _ h => h) hS0 (fun W hW => by go_simp) ?_
  refine T_on 7 (.int .i64 ee) rfl (by kernel_rfl) (fun _ _ _ h => h) hS0 (fun W hW => by go_simp) ?_
  refine T_on 8 (vv) rfl (by kernel_rfl) (fun _ _ _ h => h) hS0 (fun W hW => by go_simp) ?_
  refine T_on 9 (.int .i64 ee) rfl (by kernel_rfl) (fun _ _ _ h => h) hS0 (fun W hW => by go_simp) ?_
  refine wpAnyH_done (by kernel_rfl) ?_ _
  go_simp
  rcases HSP.out with ⟨hno, h1, h2⟩ | ⟨hx, h2, hhv⟩
  · subst h1 h2
    have HE := Lib.hid (HWB.out _ hS0)
    clear HSP hno HEN2 HTH2 HNO2
    go_wp2_with fail
    go_ret
    exact ⟨rfl, HE.out⟩
  subst h2
  have HX := Lib.hid hx
  have hen := HEN2.out (normN s.ms f x) U2 vv (.inr rfl) hS0 hhv
  have b0 := s0 U2 hS0
  have b1 := s1 U2 hS0
  have b2 := s2 U2 hS0
  clear HSP hx hhv HNO2 hS0 HVv1
  go_upto_region 7 with (refine hen.mono ?_; rintro e U3 ⟨ab, zb, cb, eb, rfl, hbi, hsp, hS1, _⟩)
  have HBI := Lib.hid hbi
  obtain ⟨hzb, heb⟩ : zb = encLz s f x ∧ eb = encE s f x := by
    rcases hsp with ⟨h, _⟩ | ⟨_, h1, h2⟩
    · exact absurd (fitX_norm (fitS_of HSS.out) HX.out) h
    · rw [encLz_norm] at h1; rw [encE_norm] at h2; exact ⟨h1, h2⟩
  have HZB := Lib.hid hzb
  have HEB := Lib.hid heb
  have HU3 := Lib.hid hS1
  have hS0 : Below V.heap.size V U3.drew := hS1.drew
  clear hen hbi hsp b0 b1 b2 hzb heb hS1
  refine wp_region_held_drew (S := fun W => Below V.heap.size V W) (by kernel_rfl) hS0 (fun _ => ?_)
  refine T_on 0 (.agg #[.slice ma nm mc, .slice ea ne ec, .slice ta nt tc]) rfl (by kernel_rfl) (fun _ _ _ h => h) hS0 (fun W hW => by have c0 := s0 W hW; have c1 := s1 W hW; have c2 := s2 W hW; go_simp) ?_
  refine T_on 1 (.int .i64 t) rfl (by kernel_rfl) (fun _ _ _ h => h) hS0 (fun W hW => by go_simp) ?_
  refine T_on 2 (.agg #[.int .i64 x.kind, .int .i64 x.n, .int .u64 x.u, .bool x.b, .string (mkB x.s), .int .i64 x.type, .slice xa xl xc]) rfl (by kernel_rfl) (fun _ _ _ h => h) hS0 (fun W hW => by have c0 := n0 W hW; have c1 := n1 W hW; have c2 := n2 W hW; have c3 := n3 W hW; have c4 := n4 W hW; have c5 := n5 W hW; have c6 := n6 W hW; go_simp) ?_
  refine T_call 3 (by kernel_rfl) rfl (fun K hK => ?_)
  go_simp
  refine (HTH2.out _ hS0).mono ?_
  rintro e U4 ⟨v2, rfl, hv1, hb1⟩
  have HX4 : Hid (Below U3.heap.size U3 U4) := (Below.refl _ U3).drew.trans hb1
  have hS1 := hS0.trans (hb1.mono hS0.size)
  clear hS0 hb1
  have hS0 := hS1
  clear hS1
  have HVv2 : Hid (HeldV U4 (fun b => b < U4.heap.size) f v2 x) := hv1.mv (fun _ _ => rfl) (fun b hb => hb.2)
  have HBI4 : Hid (BIn U4 (fun b => b < U4.heap.size) ab cb zb) := HBI.out.mv (fun b hb => HX4.out.block b hb) (fun b hb => by have hb' : b < U3.heap.size := hb; have := HX4.out.size; omega)
  clear hv1
  dsimp only
  refine hK.out _ _ hS0 (fun _ => ?_)
  clear hK K
  refine T_call 4 (by kernel_rfl) rfl (fun K hK => ?_)
  go_simp
  refine (HEN2.out x U4 v2 (.inl rfl) hS0 HVv2.out).mono ?_
  rintro e U5 ⟨ac, zc, cc, ec', rfl, hbi, hsp, hS1, hb5⟩
  clear hS0
  have hS0 := hS1
  clear hS1
  have HBC := Lib.hid hbi
  have HSP := Lib.hid hsp
  have HBI5 : Hid (BIn U5 (fun b => b < U5.heap.size) ab cb zb) := HBI4.out.mv (fun b hb => hb5.block b hb) (fun b hb => by have hb' : b < U4.heap.size := hb; have := hb5.size; omega)
  clear hbi hsp hb5
  dsimp only
  refine hK.out _ _ hS0 (fun _ => ?_)
  clear hK K
  refine T_on 5 (.tuple #[.slice ac zc.length cc, .int .i64 ec']) rfl (by kernel_rfl) (fun _ _ _ h => h) hS0 (fun W hW => by go_simp) ?_
  refine T_on 6 (.slice ac zc.length cc) rfl (by kernel_rfl) (fun _ _ _ h => h) hS0 (fun W hW => by go_simp) ?_
  refine T_on 7 (.int .i64 ec') rfl (by kernel_rfl) (fun _ _ _ h => h) hS0 (fun W hW => by go_simp) ?_
  refine T_on 8 (.slice ac zc.length cc) rfl (by kernel_rfl) (fun _ _ _ h => h) hS0 (fun W hW => by go_simp) ?_
  refine T_on 9 (.int .i64 ec') rfl (by kernel_rfl) (fun _ _ _ h => h) hS0 (fun W hW => by go_simp) ?_
  refine wpAnyH_done (by kernel_rfl) ?_ _
  go_simp
  obtain ⟨hzc, hec⟩ : zc = encLz s f x ∧ ec' = encE s f x := by
    rcases HSP.out with ⟨h, _⟩ | ⟨_, h1, h2⟩
    · exact absurd HX.out h
    · exact ⟨h1, h2⟩
  have HE := Lib.hid (HWB.out _ hS0)
  have hz : zc = zb := hzc.trans HZB.out.symm
  have hee : ec' = eb := hec.trans HEB.out.symm
  subst hz hee
  have hc1 := run_str U5 ab zc.length cb zc HBI5.out.isB
  have hc2 := run_str U5 ac zc.length cc zc HBC.out.isB
  generalize strOfNums zc = st at hc1 hc2
  clear hzc hec HSP HZB HEB hS0 HBI HBC HBI5 HBI4
  go_wp2_with fail
  go_ret
  exact ⟨rfl, HE.out⟩
end Go.Proofs.YtpnlbmobnopnoaaGreatDoor
