/-
  The walk over the law EncodeFields.
-/
import Derived.Test.YtpnlbmobnopnoaaGreatDoorM41
import Derived.Test.YtpnlbmobnopnoaaGreatDoorM28
import Derived.Test.YtpnlbmobnopnoaaGreatDoorM42
namespace Go.Proofs.YtpnlbmobnopnoaaGreatDoor
set_option linter.unusedVariables false
open Go.ChangeShapes Go.WideShapes Go.ChangeAt Go.RowKit

set_option maxHeartbeats 32000000 in
set_option maxRecDepth 20000 in
theorem encodeFields_any (ma ea ta : Option Addr) (nm ne nt mc ec tc : Nat) (s : SC) (t : Int) (f : Nat) (x : Nd) (xa : Option Addr) (xl xc : Nat) (w : World) (hT : Tabs w) (hnm : s.ms.length = nm) (hne : s.es.length = ne) (hnt : s.ts.length = nt) (hbig : BigS s) (hH : HeldSc w (fun b => b < w.heap.size) (.slice ma nm mc) (.slice ea ne ec) (.slice ta nt tc) s) (hG : HeldG rawS w (fun b => b < w.heap.size) f (.slice xa xl xc) x.fields) (hfit : FitG 140737488355328 140737488355328 f x) (hrng : RngG f x) :
    Calls Tryz.prog 5 #[.agg #[.slice ma nm mc, .slice ea ne ec, .slice ta nt tc], .int .i64 t, .agg #[.int .i64 x.kind, .int .i64 x.n, .int .u64 x.u, .bool x.b, .string (mkB x.s), .int .i64 x.type, .slice xa xl xc]] w fun e w' => e = .returned (.bool true) ∧ Below w.heap.size w w' := by
  obtain ⟨Y, hY, hC, hb, hYs⟩ := box_new w #[.slice ma nm mc, .slice ea ne ec, .slice ta nt tc] 26
  obtain ⟨V, hV, hD, hVb, hVs⟩ := box_new Y #[.int .i64 x.kind, .int .i64 x.n, .int .u64 x.u, .bool x.b, .string (mkB x.s), .int .i64 x.type, .slice xa xl xc] 30
  rw [hYs] at hD
  have HY := Lib.hid hY
  have HV := Lib.hid hV
  have hBV := hb.trans (hVb.mono hb.size)
  have HBV := Lib.hid hBV
  have hCV := (hVb.block _ (by omega)).trans hC
  have hVl : w.heap.size + 2 ≤ V.heap.size := by omega
  have HWB : Hid (∀ W, Below V.heap.size V W → Below w.heap.size w W) := fun W hW => hBV.trans (hW.mono hBV.size)
  have HG : Hid (∀ W, Below w.heap.size w W → HeldG rawS W (fun b => b < W.heap.size) f (.slice xa xl xc) x.fields) := fun W hW => HeldG.mv (fun b hb => hW.block b hb) (fun b hb => by have hb' : b < w.heap.size := hb; have := hW.size; omega) hG
  have HA : Hid (∀ W, Below V.heap.size V W → Calls Tryz.prog 7 #[] W fun e w' => e = .returned (.bool true) ∧ Below V.heap.size V w') := fun W hW => (awake10_any W (tabs_below hT (HWB.out W hW))).mono fun e w' ⟨h1, h2⟩ => ⟨h1, hW.trans (h2.mono hW.size)⟩
  have HFW : Hid (∀ W, Below V.heap.size V W → Calls Tryz.prog 8 #[.agg #[.slice ma nm mc, .slice ea ne ec, .slice ta nt tc], .agg #[.int .i64 x.kind, .int .i64 x.n, .int .u64 x.u, .bool x.b, .string (mkB x.s), .int .i64 x.type, .slice xa xl xc]] W fun e w' => FewAns s f x V e w') := fun W hW => (few9_any ma ea ta nm ne nt mc ec tc s f x xa xl xc W hnm hne hnt hbig (heldSc_mv hH (HWB.out W hW)) (HG.out W (HWB.out W hW)) hfit).mono fun e w' ⟨b, h1, h2, h3⟩ => ⟨b, h1, h2, hW.trans (h3.mono hW.size)⟩
  have HTH : Hid (FitG 100000 1000 f x → ∀ W, Below V.heap.size V W → Calls Tryz.prog 10 #[.agg #[.int .i64 x.kind, .int .i64 x.n, .int .u64 x.u, .bool x.b, .string (mkB x.s), .int .i64 x.type, .slice xa xl xc]] W fun e w' => TheirAns f W x e w') := fun hf W hW => theirsN_any f x (.slice xa xl xc) W hf (HG.out W (HWB.out W hW))
  have HEN : Hid (SmS s → FitG 100000 1000 f x → wtN f x ≤ 400 → ∀ (W : World) (v : Value), Below V.heap.size V W → HeldV W (fun b => b < W.heap.size) f v x → Calls Tryz.prog 9 #[.agg #[.slice ma nm mc, .slice ea ne ec, .slice ta nt tc], .int .i64 t, v] W fun e w' => EnU s f t x V W e w') := by
    refine (?_ : _ → _ → _ → ∀ (W : World) (v : Value), _ → _ → _)
    intro hs hf hwt W v hW hv
    have hbn : bndN f x ≤ 1000000000 := by have := bnd_wt f x; omega
    exact (encode_any ma ea ta nm ne nt mc ec tc s f t W (tabs_below hT (HWB.out W hW)) hnm hne hnt (fitS_of hs) (heldSc_mv hH (HWB.out W hW)) v x hv hf hrng hbn).mono fun e w' h => enU_of h hW
  have HSE : Hid (SmS s → wtN f x ≤ 400 → FitX s f t x → ∀ md, s.ms[t.toNat]? = some md → ∃ D, split (encB s f x) = some D ∧ okRun (knownR md.fields) 0 (D.map numTy) = true) := by
    refine (?_ : _ → _ → _ → ∀ md, _ → _)
    intro hs hwt hx md hmd
    exact split_enc (fitS_of hs) hx hrng (by have := bnd_wt f x; omega) hmd
  have HHM : Hid (∀ W, Below w.heap.size w W → HeldM W (fun b => b < W.heap.size) (.slice ma nm mc) s.ms) := fun W hW => (heldSc_mv hH hW).1
  have HNM := Lib.hid hnm
  have s0 : ∀ W, Below V.heap.size V W → W.cell? ⟨w.heap.size, 0, none⟩ = some (.slice ma nm mc) := fun W hW => (hW.cell (by simp; omega)).trans (cell_at hCV 0 rfl)
  have s1 : ∀ W, Below V.heap.size V W → W.cell? ⟨w.heap.size, 1, none⟩ = some (.slice ea ne ec) := fun W hW => (hW.cell (by simp; omega)).trans (cell_at hCV 1 rfl)
  have s2 : ∀ W, Below V.heap.size V W → W.cell? ⟨w.heap.size, 2, none⟩ = some (.slice ta nt tc) := fun W hW => (hW.cell (by simp; omega)).trans (cell_at hCV 2 rfl)
  have n0 : ∀ W, Below V.heap.size V W → W.cell? ⟨w.heap.size + 1, 0, none⟩ = some (.int .i64 x.kind) := fun W hW => (hW.cell (by simp; omega)).trans (cell_at hD 0 rfl)
  have n1 : ∀ W, Below V.heap.size V W → W.cell? ⟨w.heap.size + 1, 1, none⟩ = some (.int .i64 x.n) := fun W hW => (hW.cell (by simp; omega)).trans (cell_at hD 1 rfl)
  have n2 : ∀ W, Below V.heap.size V W → W.cell? ⟨w.heap.size + 1, 2, none⟩ = some (.int .u64 x.u) := fun W hW => (hW.cell (by simp; omega)).trans (cell_at hD 2 rfl)
  have n3 : ∀ W, Below V.heap.size V W → W.cell? ⟨w.heap.size + 1, 3, none⟩ = some (.bool x.b) := fun W hW => (hW.cell (by simp; omega)).trans (cell_at hD 3 rfl)
  have n4 : ∀ W, Below V.heap.size V W → W.cell? ⟨w.heap.size + 1, 4, none⟩ = some (.string (mkB x.s)) := fun W hW => (hW.cell (by simp; omega)).trans (cell_at hD 4 rfl)
  have n5 : ∀ W, Below V.heap.size V W → W.cell? ⟨w.heap.size + 1, 5, none⟩ = some (.int .i64 x.type) := fun W hW => (hW.cell (by simp; omega)).trans (cell_at hD 5 rfl)
  have n6 : ∀ W, Below V.heap.size V W → W.cell? ⟨w.heap.size + 1, 6, none⟩ = some (.slice xa xl xc) := fun W hW => (hW.cell (by simp; omega)).trans (cell_at hD 6 rfl)
  have hS0 : Below V.heap.size V V := Below.refl _ _
  clear hY hC hb hYs hV hD hVb hVs hBV hCV hH hG hfit hbig hnm hne hnt hT hrng
  go_enter Tryz.func5, Tryz.ntmps5
  go_upto_region 1 with fail
  rw [HY.out, HV.out]
  go_wp2_with fail
  refine (HA.out _ hS0).mono ?_
  rintro e W1 ⟨rfl, hS1⟩
  clear hS0
  have b0 := s0 W1 hS1
  have b1 := s1 W1 hS1
  have b2 := s2 W1 hS1
  have k0 := n0 W1 hS1
  have k1 := n1 W1 hS1
  have k2 := n2 W1 hS1
  have k3 := n3 W1 hS1
  have k4 := n4 W1 hS1
  have k5 := n5 W1 hS1
  have k6 := n6 W1 hS1
  go_wp2_with fail
  refine (HFW.out _ hS1).mono ?_
  rintro e W2 ⟨b, rfl, hsm, hS0⟩
  have HSM := Lib.hid hsm
  clear hS1 hsm b0 b1 b2 k0 k1 k2 k3 k4 k5 k6
  cases b
  case false =>
    go_wp2_with fail
    refine (HA.out _ hS0).mono ?_
    rintro e W3 ⟨rfl, hS1⟩
    have HE := Lib.hid (HWB.out _ hS1)
    go_wp2_with fail
    go_ret
    exact ⟨rfl, HE.out⟩
  obtain ⟨hss, hff, hwt⟩ := HSM.out (by simp)
  have HSS := Lib.hid hss
  have HTH2 := Lib.hid (HTH.out hff)
  have HEN2 := Lib.hid (HEN.out hss hff hwt)
  have HSE2 := Lib.hid (HSE.out hss hwt)
  clear HTH HEN HSE hss hff hwt HSM HA HFW
  go_upto_region 3 with fail
  have hS1 : Below V.heap.size V W2.drew := hS0.drew
  clear hS0
  have hS0 := hS1
  clear hS1
  refine wp_region_held_drew (S := fun W => Below V.heap.size V W) (by kernel_rfl) hS0 (fun _ => ?_)
  refine T_on 0 (.agg #[.slice ma nm mc, .slice ea ne ec, .slice ta nt tc]) rfl (by kernel_rfl) (fun _ _ _ h => h) hS0 (fun W hW => by have c0 := s0 W hW; have c1 := s1 W hW; have c2 := s2 W hW; go_simp) ?_
  refine T_on 1 (.int .i64 t) rfl (by kernel_rfl) (fun _ _ _ h => h) hS0 (fun W hW => by go_simp) ?_
  refine T_on 2 (.agg #[.int .i64 x.kind, .int .i64 x.n, .int .u64 x.u, .bool x.b, .string (mkB x.s), .int .i64 x.type, .slice xa xl xc]) rfl (by kernel_rfl) (fun _ _ _ h => h) hS0 (fun W hW => by have c0 := n0 W hW; have c1 := n1 W hW; have c2 := n2 W hW; have c3 := n3 W hW; have c4 := n4 W hW; have c5 := n5 W hW; have c6 := n6 W hW; go_simp) ?_
  refine T_call 3 (by kernel_rfl) rfl (fun K hK => ?_)
  go_simp
  refine (HTH2.out _ hS0).mono ?_
  rintro e U1 ⟨v1, rfl, hv1, hb1⟩
  have hS1 := hS0.trans (hb1.mono hS0.size)
  clear hS0 hb1
  have hS0 := hS1
  clear hS1
  have HVv1 : Hid (HeldV U1 (fun b => b < U1.heap.size) f v1 x) := hv1.mv (fun _ _ => rfl) (fun b hb => hb.2)
  clear hv1
  dsimp only
  refine hK.out _ _ hS0 (fun _ => ?_)
  clear hK K
  refine T_call 4 (by kernel_rfl) rfl (fun K hK => ?_)
  go_simp
  refine (HEN2.out _ _ hS0 HVv1.out).mono ?_
  rintro e U2 ⟨ab, zb, cb, eb, rfl, hbi, hsp, hS1, _⟩
  clear hS0
  have hS0 := hS1
  clear hS1
  have HSP := Lib.hid hsp
  have HBI := Lib.hid hbi
  clear hsp hbi
  dsimp only
  refine hK.out _ _ hS0 (fun _ => ?_)
  clear hK K
  refine T_on 5 (.tuple #[.slice ab zb.length cb, .int .i64 eb]) rfl (by kernel_rfl) (fun _ _ _ h => h) hS0 (fun W hW => by go_simp) ?_
  refine T_on 6 (.slice ab zb.length cb) rfl (by kernel_rfl) (fun _ _ _ h => h) hS0 (fun W hW => by go_simp) ?_
  refine T_on 7 (.int .i64 eb) rfl (by kernel_rfl) (fun _ _ _ h => h) hS0 (fun W hW => by go_simp) ?_
  refine T_on 8 (.slice ab zb.length cb) rfl (by kernel_rfl) (fun _ _ _ h => h) hS0 (fun W hW => by go_simp) ?_
  refine T_on 9 (.int .i64 eb) rfl (by kernel_rfl) (fun _ _ _ h => h) hS0 (fun W hW => by go_simp) ?_
  refine wpAnyH_done (by kernel_rfl) ?_ _
  go_simp
  have HE := Lib.hid (HWB.out _ hS0)
  by_cases hok : FitX s f t x ∧ (encB s f x).length ≤ 4096
  case neg =>
    obtain ⟨hzb, heb⟩ : zb = [] ∧ (eb = 1 ∨ eb = 4) := by
      rcases HSP.out with ⟨_, h1, h2⟩ | ⟨hx, h1, h2⟩
      · exact ⟨h1, .inl h2⟩
      · have hl : ¬ (encB s f x).length ≤ 4096 := fun h => hok ⟨hx, h⟩
        unfold encLz at h1
        unfold encE at h2
        rw [if_neg hl] at h1 h2
        exact ⟨h1, .inr h2⟩
    subst hzb
    clear hok HSP HBI HSE2 HEN2 HTH2 hS0
    rcases heb with rfl | rfl
    · go_wp2_with fail
      go_ret
      exact ⟨rfl, HE.out⟩
    · go_wp2_with fail
      go_ret
      exact ⟨rfl, HE.out⟩
  obtain ⟨hx, hl⟩ := hok
  obtain ⟨hzb, heb⟩ : zb = encB s f x ∧ eb = 0 := by
    rcases HSP.out with ⟨hno, _⟩ | ⟨_, h1, h2⟩
    · exact absurd hx hno
    · unfold encLz at h1
      unfold encE at h2
      rw [if_pos hl] at h1 h2
      exact ⟨h1, h2⟩
  subst heb
  obtain ⟨q, hq⟩ : ∃ q : Nat, t = (q : Int) := ⟨t.toNat, by have := hx.2.1; omega⟩
  subst hq
  have hqn : q < nm := by have := hx.2.2.1; rw [HNM.out] at this; omega
  obtain ⟨md, hmd⟩ : ∃ md, s.ms[q]? = some md := ⟨_, List.getElem?_eq_getElem (by rw [HNM.out]; exact hqn)⟩
  obtain ⟨D, hD, hrun⟩ := HSE2.out hx md (by rw [Int.toNat_natCast]; exact hmd)
  rw [← hzb] at hD
  have hzl : zb.length ≤ 4096 := by rw [hzb]; exact hl
  have hDl : D.length ≤ 4096 := by
    have h1 := spl_len _ zb D (by rcases HBI.out.2.2.1 with h | ⟨b, off, _, _, h⟩
                                  · rw [h]; intro z hz; cases hz
                                  · exact h.2) hD
    omega
  have HRUN := Lib.hid hrun
  have hfl : md.fields.length ≤ 100000 := (tyOK_of (fitS_of HSS.out) hx.1 md (List.mem_of_getElem? hmd)).1
  have hsp := splitR_any ab zb.length cb zb U2 HBI.out.isB HBI.out.2.2.2.1 HBI.out.2.2.2.2 (by omega)
  rw [hD] at hsp
  obtain ⟨g, oo, c0, ka, kc, hsl, hg, e0, e1, hrow⟩ := HeldN.at (HHM.out w (Below.refl _ _)) (W := w) (fun b hb => rfl) hmd
  rw [HNM.out] at hsl
  obtain ⟨rfl, rfl⟩ := slice_two hsl
  have hgN : g < w.heap.size := hg
  obtain ⟨mname, mfs⟩ := md
  dsimp only at hrow e0 e1 hfl HRUN
  obtain ⟨nf, hnf⟩ : ∃ n, mfs.length = n := ⟨_, rfl⟩
  rw [hnf] at hrow e1 hfl
  have HKN : Hid (∀ (num ty : Int) (W : World), Below w.heap.size w W → Calls Tryz.prog 17 #[.agg #[.string (mkB mname), .slice ka nf kc], .int .i64 num, .int .i64 ty] W fun e w' => e = .returned (.bool (knownR mfs num ty)) ∧ Below W.heap.size W w') := by
    refine (?_ : ∀ (num ty : Int) (W : World), _ → _)
    intro num ty W hW
    exact knownR_any mname ka nf kc mfs num ty W hnf hfl ((RowsIn.old hrow fun b h => hW.block b h).more fun b h => by have hb' : b < w.heap.size := h; have := hW.size; omega)
  have d0 : ∀ W, Below V.heap.size V W → W.cell? ⟨g, oo + q * 2, none⟩ = some (.string (mkB mname)) := fun W hW => ((HWB.out W hW).cell (by simpa using hgN)).trans e0
  have d1 : ∀ W, Below V.heap.size V W → W.cell? ⟨g, oo + q * 2 + 1, none⟩ = some (.slice ka nf kc) := fun W hW => ((HWB.out W hW).cell (by simpa using hgN)).trans e1
  have hq0 : (0 : Int) ≤ (q : Int) := by omega
  have hq1 : (q : Int) < (nm : Int) := by omega
  have hqa : ¬ (q : Int) < 0 := by omega
  have hqb : ¬ (nm : Int) ≤ (q : Int) := by omega
  have b0 := s0 U2 hS0
  have hzi : (zb.length : Int) ≤ 4096 := by omega
  clear HSE2 HEN2 HTH2 HSP HBI hx hl hzb hmd hD hrun hrow hsl hg e0 e1 hnf hfl s1 s2 n0 n1 n2 n3 n4 n5 n6 HVv1
  go_wp2_with fail
  refine hsp.mono ?_
  rintro e U3 ⟨vF, vR, fs, rs, rfl, hst, hfF, hfR, hb3⟩
  obtain ⟨aF, cF, aR, cR, rfl, rfl, hlF, hlR, hcF, _⟩ := st_shapes hst
  have hfl := hfF.len
  have hS1 := hS0.trans (hb3.mono hS0.size)
  have HS1 := Lib.hid hS1
  have HCF := Lib.hid hcF
  have HFF := Lib.hid hfF
  rw [hfl]
  generalize hdn : D.length = dn at *
  have HDN := Lib.hid hdn
  clear hsp hst hfF hfR hb3 hS0 b0 hS1 hcF hdn
  go_wp2_with fail
  go_loopw [12, 53] (fun la i wr => ∃ (k : Nat) (a : Int), la = .int .i64 a ∧ i = .int .i64 (k : Int) ∧ k ≤ dn ∧ okRun (knownR mfs) a ((D.map numTy).drop k) = true ∧ Below U3.heap.size U3 wr) (fun _ i _ => dn - (intOf i).toNat)
  case atStart => exact ⟨0, 0, rfl, rfl, Nat.zero_le _, HRUN.out, Below.refl _ _⟩
  case round =>
    generalize wr = w1 at *
    obtain ⟨k, a, rfl, rfl, hk, hrk, hbel⟩ := hrel
    have HRK := Lib.hid hrk
    have HBE := Lib.hid hbel
    have hS2 := HS1.out.trans (hbel.mono HS1.out.size)
    clear hrk
    by_cases hkn : k < dn
    · obtain ⟨fr, p, hfr, hp, hsay⟩ := fits_at HFF.out k (by have := HDN.out; omega)
      obtain ⟨g4, hg4, y0, y1, _, _, _, hg4l⟩ := HCF.out k fr hfr
      subst hg4
      obtain ⟨hpn, hpt⟩ : fr.num = p.1.num ∧ fr.ty = p.1.ty := by
        have h1 := congrArg (fun u => u.1) hsay
        have h2 := congrArg (fun u => u.2.1) hsay
        exact ⟨h1, h2⟩
      have hstep := run_step (k := k) (p := numTy p) (by rw [List.getElem?_map, hp]; rfl) HRK.out
      have hstep2 : if knownR mfs fr.num fr.ty = true then a ≤ fr.num ∧ okRun (knownR mfs) fr.num ((D.map numTy).drop (k + 1)) = true else okRun (knownR mfs) a ((D.map numTy).drop (k + 1)) = true := by
        rw [hpn, hpt]; exact hstep
      have HST := Lib.hid hstep2
      have z0 : ∀ W, Below w1.heap.size w1 W → W.cell? ⟨g4, k * 4, none⟩ = some (.int .i64 fr.num) := fun W hW => (hW.cell (by simp; have := hbel.size; omega)).trans ((hbel.cell (by simpa using hg4l)).trans y0)
      have z1 : ∀ W, Below w1.heap.size w1 W → W.cell? ⟨g4, k * 4 + 1, none⟩ = some (.int .i64 fr.ty) := fun W hW => (hW.cell (by simp; have := hbel.size; omega)).trans ((hbel.cell (by simpa using hg4l)).trans y1)
      have HV1 : Hid (∀ W, Below w1.heap.size w1 W → Below V.heap.size V W) := fun W hW => hS2.trans (hW.mono hS2.size)
      have t0 : ∀ W, Below w1.heap.size w1 W → W.cell? ⟨w.heap.size, 0, none⟩ = some (.slice (some ⟨g, oo, none⟩) nm mc) := fun W hW => s0 W (HV1.out W hW)
      have t1 : ∀ W, Below w1.heap.size w1 W → W.cell? ⟨g, oo + q * 2, none⟩ = some (.string (mkB mname)) := fun W hW => d0 W (HV1.out W hW)
      have t2 : ∀ W, Below w1.heap.size w1 W → W.cell? ⟨g, oo + q * 2 + 1, none⟩ = some (.slice ka nf kc) := fun W hW => d1 W (HV1.out W hW)
      obtain ⟨fnum, fty, fn, fa', flen, fcap, fdd⟩ := fr
      dsimp only at z0 z1 HST
      have hk0 : (0 : Int) ≤ (k : Int) := by omega
      have hk1 : (k : Int) < (dn : Int) := by omega
      have hwk : IntKind.i64.wrap ((k : Int) + 1) = (k : Int) + 1 := by rw [IntKind.wrap_i64]; omega
      obtain ⟨KB, hKB⟩ : ∃ b, knownR mfs fnum fty = b := ⟨_, rfl⟩
      have hkc := HKN.out fnum fty
      rw [hKB] at HST hkc
      have HKC := Lib.hid hkc
      clear hfr hp hsay y0 y1 hpn hpt hstep hstep2 hbel hS2 hKB hkc
      go_upto_region 13 with fail
      have hS0 : Below w1.heap.size w1 w1.drew := (Below.refl _ _).drew
      refine wp_region_held_drew (S := fun W => Below w1.heap.size w1 W) (by kernel_rfl) hS0 (fun _ => ?_)
      refine T_on 0 (.pointer (some ⟨w.heap.size, 0, none⟩)) rfl (by kernel_rfl) (fun _ _ _ h => h) hS0 (fun W hW => by go_simp) ?_
      refine T_on 1 (.slice (some ⟨g, oo, none⟩) nm mc) rfl (by kernel_rfl) (fun _ _ _ h => h) hS0 (fun W hW => by have c := t0 W hW; go_simp) ?_
      refine T_on 2 (.int .i64 (q : Int)) rfl (by kernel_rfl) (fun _ _ _ h => h) hS0 (fun W hW => by go_simp) ?_
      refine T_on 3 (.pointer (some ⟨g, oo + q * 2, none⟩)) rfl (by kernel_rfl) (fun _ _ _ h => h) hS0 (fun W hW => by go_simp) ?_
      refine T_on 4 (.agg #[.string (mkB mname), .slice ka nf kc]) rfl (by kernel_rfl) (fun _ _ _ h => h) hS0 (fun W hW => by have c := t1 W hW; have c2 := t2 W hW; go_simp) ?_
      refine T_on 5 (.slice (some ⟨g4, 0, none⟩) dn cF) rfl (by kernel_rfl) (fun _ _ _ h => h) hS0 (fun W hW => by go_simp) ?_
      refine T_on 6 (.int .i64 (k : Int)) rfl (by kernel_rfl) (fun _ _ _ h => h) hS0 (fun W hW => by go_simp) ?_
      refine T_on 7 (.pointer (some ⟨g4, k * 4, none⟩)) rfl (by kernel_rfl) (fun _ _ _ h => h) hS0 (fun W hW => by go_simp) ?_
      refine T_on 8 (.pointer (some ⟨g4, k * 4, none⟩)) rfl (by kernel_rfl) (fun _ _ _ h => h) hS0 (fun W hW => by go_simp) ?_
      refine T_on 9 (.int .i64 fnum) rfl (by kernel_rfl) (fun _ _ _ h => h) hS0 (fun W hW => by have c := z0 W hW; go_simp) ?_
      refine T_on 10 (.slice (some ⟨g4, 0, none⟩) dn cF) rfl (by kernel_rfl) (fun _ _ _ h => h) hS0 (fun W hW => by go_simp) ?_
      refine T_on 11 (.int .i64 (k : Int)) rfl (by kernel_rfl) (fun _ _ _ h => h) hS0 (fun W hW => by go_simp) ?_
      refine T_on 12 (.pointer (some ⟨g4, k * 4, none⟩)) rfl (by kernel_rfl) (fun _ _ _ h => h) hS0 (fun W hW => by go_simp) ?_
      refine T_on 13 (.pointer (some ⟨g4, k * 4 + 1, none⟩)) rfl (by kernel_rfl) (fun _ _ _ h => h) hS0 (fun W hW => by go_simp) ?_
      refine T_on 14 (.int .i64 fty) rfl (by kernel_rfl) (fun _ _ _ h => h) hS0 (fun W hW => by have c := z1 W hW; go_simp) ?_
      refine T_call 15 (by kernel_rfl) rfl (fun K hK => ?_)
      go_simp
      refine (HKC.out _ (HWB.out _ (HV1.out _ hS0))).mono ?_
      rintro e U4 ⟨rfl, hb4⟩
      have hS1 := hS0.trans (hb4.mono hS0.size)
      clear hS0 hb4
      have hS0 := hS1
      clear hS1
      dsimp only
      refine hK.out _ _ hS0 (fun _ => ?_)
      clear hK K
      refine T_on 16 (.bool (!KB)) rfl (by kernel_rfl) (fun _ _ _ h => h) hS0 (fun W hW => by go_simp) ?_
      refine wpAnyH_done (by kernel_rfl) ?_ _
      go_simp
      have HU4 := Lib.hid (HBE.out.trans (hS0.mono HBE.out.size))
      have y0 := z0 U4 hS0
      clear hS0 z0 z1 t0 t1 t2 HKC HV1
      cases KB
      case false =>
        have HR2 : Hid (okRun (knownR mfs) a ((D.map numTy).drop (k + 1)) = true) := by
          refine (?_ : _ = _)
          have := HST.out
          rw [if_neg (by simp)] at this
          exact this
        clear HST
        go_wp2_with fail
        go_roundw
        case rel => exact ⟨k + 1, a, rfl, by go_num, by omega, HR2.out, HU4.out⟩
        case measure => simp [intOf]; omega
      case true =>
        have hst := HST.out
        rw [if_pos rfl] at hst
        have HR2 := Lib.hid hst.2
        have hle : ¬ fnum < a := by have := hst.1; omega
        clear HST hst
        go_wp2_with fail
        go_roundw
        case rel => exact ⟨k + 1, fnum, rfl, by go_num, by omega, HR2.out, HU4.out⟩
        case measure => simp [intOf]; omega
    · have hkn' : ¬ (k : Int) < (dn : Int) := by omega
      have HE2 := Lib.hid (HWB.out _ hS2)
      clear hS2 hbel
      go_wp2_with fail
      go_ret
      exact ⟨rfl, HE2.out⟩
end Go.Proofs.YtpnlbmobnopnoaaGreatDoor
