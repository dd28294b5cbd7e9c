/-
  The walk over the document's Fits, and over the law's Clean.
  The walk over the law EncodeEmpty.
-/
import Derived.Test.YtfhmombnipfimaaGreatDoorM26
import Derived.Test.YtfhmombnipfimaaGreatDoorM34
import Derived.Test.YtfhmombnipfimaaGreatDoorM29
import Derived.Test.YtfhmombnipfimaaGreatDoorM32
import Derived.Test.YtfhmombnipfimaaGreatDoorM31
import Derived.Test.YtfhmombnipfimaaGreatDoorM2
import Derived.Test.YtfhmombnipfimaaGreatDoorM33
import Derived.Laws.BytesArg
import Derived.Laws.BytesString
import Derived.Laws.Concat
import Derived.Laws.Strings
namespace Go.Proofs.YtfhmombnipfimaaGreatDoor
set_option linter.unusedVariables false
open Go.ChangeShapes Go.WideShapes Go.ChangeAt Go.RowKit

set_option maxHeartbeats 16000000 in
set_option maxRecDepth 20000 in
theorem fitsRV_any (ma ea ta : Option Addr) (nm ne nt mc ec tc : Nat) (s : SC) (f : Nat) (t : Int) (w : World) (hT : Tabs w) (hnm : s.ms.length = nm) (hne : s.es.length = ne) (hnt : s.ts.length = nt) (hf : FitS s) (hH : HeldSc w (fun b => b < w.heap.size) (.slice ma nm mc) (.slice ea ne ec) (.slice ta nt tc) s) (x z : Nd) (la : Option Addr) (ln lc : Nat) (hz : z = cn x) (hV : x.kind = 7 → HeldG clS w (fun b => b < w.heap.size) f (.slice la ln lc) x.fields) (hfit : FitG 100000 10000 f x) :
    Calls Tryz.prog 13 #[.agg #[.slice ma nm mc, .slice ea ne ec, .slice ta nt tc], .int .i64 t, .agg #[.int .i64 z.kind, .int .i64 z.n, .int .u64 z.u, .bool z.b, .string (mkB z.s), .int .i64 z.type, .slice la ln lc]] w fun e w' => FvAns s f t x w e w' := by
  obtain ⟨Y, hY, hC, hb, hYs⟩ := box_new w #[.slice ma nm mc, .slice ea ne ec, .slice ta nt tc] 26
  obtain ⟨zk, zn, zu, zb, zs, zt, zf⟩ := z
  dsimp only
  obtain ⟨V, hV', hD, hVb, hVs⟩ := box_new Y #[.int .i64 zk, .int .i64 zn, .int .u64 zu, .bool zb, .string (mkB zs), .int .i64 zt, .slice la ln lc] 30
  have HV := Lib.hid hV'
  rw [hYs] at hD
  have hBV := hb.trans (hVb.mono hb.size)
  have hCV := (hVb.block _ (by omega)).trans hC
  have HY := Lib.hid hY
  have HBV := Lib.hid hBV
  have s0 : ∀ W, Below V.heap.size V W → W.cell? ⟨w.heap.size, 0, none⟩ = some (.slice ma nm mc) := fun W hW => (hW.cell (by simp; omega)).trans (cell_at hCV 0 rfl)
  have s1 : ∀ W, Below V.heap.size V W → W.cell? ⟨w.heap.size, 1, none⟩ = some (.slice ea ne ec) := fun W hW => (hW.cell (by simp; omega)).trans (cell_at hCV 1 rfl)
  have s2 : ∀ W, Below V.heap.size V W → W.cell? ⟨w.heap.size, 2, none⟩ = some (.slice ta nt tc) := fun W hW => (hW.cell (by simp; omega)).trans (cell_at hCV 2 rfl)
  have n0 : ∀ W, Below V.heap.size V W → W.cell? ⟨w.heap.size + 1, 0, none⟩ = some (.int .i64 zk) := fun W hW => (hW.cell (by simp; omega)).trans (cell_at hD 0 rfl)
  have n1 : ∀ W, Below V.heap.size V W → W.cell? ⟨w.heap.size + 1, 1, none⟩ = some (.int .i64 zn) := fun W hW => (hW.cell (by simp; omega)).trans (cell_at hD 1 rfl)
  have n2 : ∀ W, Below V.heap.size V W → W.cell? ⟨w.heap.size + 1, 2, none⟩ = some (.int .u64 zu) := fun W hW => (hW.cell (by simp; omega)).trans (cell_at hD 2 rfl)
  have n3 : ∀ W, Below V.heap.size V W → W.cell? ⟨w.heap.size + 1, 3, none⟩ = some (.bool zb) := fun W hW => (hW.cell (by simp; omega)).trans (cell_at hD 3 rfl)
  have n4 : ∀ W, Below V.heap.size V W → W.cell? ⟨w.heap.size + 1, 4, none⟩ = some (.string (mkB zs)) := fun W hW => (hW.cell (by simp; omega)).trans (cell_at hD 4 rfl)
  have n5 : ∀ W, Below V.heap.size V W → W.cell? ⟨w.heap.size + 1, 5, none⟩ = some (.int .i64 zt) := fun W hW => (hW.cell (by simp; omega)).trans (cell_at hD 5 rfl)
  have n6 : ∀ W, Below V.heap.size V W → W.cell? ⟨w.heap.size + 1, 6, none⟩ = some (.slice la ln lc) := fun W hW => (hW.cell (by simp; omega)).trans (cell_at hD 6 rfl)
  have HM : Hid (FormS s → 0 ≤ t → t < (nm : Int) → ∀ W, Below V.heap.size V W → Calls Tryz.prog 35 #[.agg #[.slice ma nm mc, .slice ea ne ec, .slice ta nt tc], .int .i64 t, .agg #[.int .i64 zk, .int .i64 zn, .int .u64 zu, .bool zb, .string (mkB zs), .int .i64 zt, .slice la ln lc], .int .i64 1] W fun e w' => e = .returned (.bool (fitP s.ms f 1 t x)) ∧ Below W.heap.size W w') := by
    refine (?_ : _ → _ → _ → ∀ W, _ → _)
    intro hF h0 h1 W hW
    have hF0 : formM s.es.length s.ms.length s.ms = true := by
      have h1 := hF.1
      unfold formS at h1
      simp only [Bool.and_eq_true] at h1
      exact h1.2.2.1
    have hw := hBV.trans (hW.mono hBV.size)
    rw [fit_eq hF0]; exact (fitsR_any ma ea ta nm ne nt mc ec tc s.ms hnm (tyOK_of hf hF) f t 1 x ⟨zk, zn, zu, zb, zs, zt, zf⟩ la ln lc W hz (tabs_below hT hw) (by decide) h0 h1 ((HeldN.old hH.1 fun b hb => hw.block b hb).more fun b hb => by have hb' : b < w.heap.size := hb; have := hw.size; omega) hfit (fun h7 => HeldG.mv (fun b hb => hw.block b hb) (fun b hb => by have hb' : b < w.heap.size := hb; have := hw.size; omega) (hV h7)))
  have hH1 : HeldSc V (fun b => b < V.heap.size) (.slice ma nm mc) (.slice ea ne ec) (.slice ta nt tc) s := ⟨(HeldN.old hH.1 fun b hb => hBV.block b hb).more fun b hb => by have hb' : b < w.heap.size := hb; have := hBV.size; omega, (HeldN.old hH.2.1 fun b hb => hBV.block b hb).more fun b hb => by have hb' : b < w.heap.size := hb; have := hBV.size; omega, (RowsIn.old hH.2.2 fun b hb => hBV.block b hb).more fun b hb => by have hb' : b < w.heap.size := hb; have := hBV.size; omega⟩
  have h := formR_any ma ea ta nm ne nt mc ec tc s V (tabs_below hT hBV) hnm hne hnt hf hH1
  have HNM := Lib.hid hnm
  have b0 := s0 V (Below.refl _ _)
  have b1 := s1 V (Below.refl _ _)
  have b2 := s2 V (Below.refl _ _)
  clear hY hC hb hYs hCV hBV hH hH1 hV hf hT hfit hnm hne hnt hV' hD hVb hVs hz
  go_enter Tryz.func13, Tryz.ntmps13
  go_upto_region 1 with fail
  rw [HY.out, HV.out]
  go_wp2_with fail
  refine h.mono ?_
  rintro e W1 ⟨b, rfl, hbi, hb1⟩
  have HBI := Lib.hid hbi
  have HB1 := Lib.hid (HBV.out.trans (hb1.mono HBV.out.size))
  have HV1 := Lib.hid hb1
  have c0 := s0 W1 hb1
  clear h hb1 hbi b0 b1 b2
  cases b
  case false =>
    have HNO : Hid (FitsB s f t x false) := ⟨(fun h => by cases h), fun h => by have := HBI.out.2 h.1; cases this⟩
    go_wp2_with fail
    go_ret
    exact ⟨_, rfl, HNO.out, HB1.out⟩
  have HFS := Lib.hid (HBI.out.1 rfl)
  by_cases h0 : 0 ≤ t
  case neg =>
    have HNO : Hid (FitsB s f t x false) := ⟨(fun h => by cases h), fun h => absurd h.2.1 h0⟩
    have h0' : t < 0 := by omega
    clear h0
    go_wp2_with fail
    go_ret
    exact ⟨_, rfl, HNO.out, HB1.out⟩
  by_cases h1 : t < (nm : Int)
  case neg =>
    have HNO : Hid (FitsB s f t x false) := ⟨(fun h => by cases h), fun h => absurd (by have := h.2.2.1; rw [HNM.out] at this; exact this) h1⟩
    go_wp2_with fail
    go_ret
    exact ⟨_, rfl, HNO.out, HB1.out⟩
  have hm := HM.out HFS.out h0 h1 W1 HV1.out
  obtain ⟨B, hB⟩ : ∃ B, fitP s.ms f 1 t x = B := ⟨_, rfl⟩
  have HYE : Hid (FitsB s f t x B) := ⟨fun h => ⟨HFS.out, h0, by rw [HNM.out]; exact h1, by rw [hB]; exact h⟩, fun h => by rw [← hB]; exact h.2.2.2⟩
  rw [hB] at hm
  have c1 := s1 W1 HV1.out
  have c2 := s2 W1 HV1.out
  have k0 := n0 W1 HV1.out
  have k1 := n1 W1 HV1.out
  have k2 := n2 W1 HV1.out
  have k3 := n3 W1 HV1.out
  have k4 := n4 W1 HV1.out
  have k5 := n5 W1 HV1.out
  have k6 := n6 W1 HV1.out
  clear hB HM
  go_wp2_with fail
  refine hm.mono ?_
  rintro e W2 ⟨rfl, hb2⟩
  have HB2 := Lib.hid (HB1.out.trans (hb2.mono HB1.out.size))
  clear hm hb2 c0 c1 c2
  go_wp2_with fail
  go_ret
  exact ⟨_, rfl, HYE.out, HB2.out⟩
set_option maxHeartbeats 16000000 in
set_option maxRecDepth 20000 in
theorem clean_any (f : Nat) (x : Nd) (xa : Option Addr) (xl xc : Nat) (w : World) (hfit : FitG 100000 10000 f x) (hH : HeldG rawS w (fun b => b < w.heap.size) f (.slice xa xl xc) x.fields) :
    Calls Tryz.prog 14 #[.agg #[.int .i64 x.kind, .int .i64 x.n, .int .u64 x.u, .bool x.b, .string (mkB x.s), .int .i64 x.type, .slice xa xl xc]] w fun e w' => OurAns f w x e w' := by
  obtain ⟨Y, hY, hC, hb, hYs⟩ := box_new w #[.int .i64 x.kind, .int .i64 x.n, .int .u64 x.u, .bool x.b, .string (mkB x.s), .int .i64 x.type, .slice xa xl xc] 30
  obtain ⟨V, hV, hD, hVb, hVs⟩ := box_new Y #[.int .i64 0, .int .i64 0, .int .u64 0, .bool false, .string ⟨#[]⟩, .int .i64 0, .slice none 0 0] 30
  rw [hYs] at hD
  have HY := Lib.hid hY
  have HV := Lib.hid hV
  have hBV := hb.trans (hVb.mono hb.size)
  have HBV := Lib.hid hBV
  have hCV := (hVb.block _ (by omega)).trans hC
  have HDV := Lib.hid hD
  have h := theirsN_any f x (.slice xa xl xc) V hfit (HeldG.mv (fun b hb => hBV.block b hb) (fun b hb => by have hb' : b < w.heap.size := hb; have := hBV.size; omega) hH)
  have hVl : w.heap.size + 2 ≤ V.heap.size := by omega
  have HFIT := Lib.hid hfit
  have c0 : V.cell? ⟨w.heap.size, 0, none⟩ = some (.int .i64 x.kind) := cell_at hCV 0 rfl
  have c1 : V.cell? ⟨w.heap.size, 1, none⟩ = some (.int .i64 x.n) := cell_at hCV 1 rfl
  have c2 : V.cell? ⟨w.heap.size, 2, none⟩ = some (.int .u64 x.u) := cell_at hCV 2 rfl
  have c3 : V.cell? ⟨w.heap.size, 3, none⟩ = some (.bool x.b) := cell_at hCV 3 rfl
  have c4 : V.cell? ⟨w.heap.size, 4, none⟩ = some (.string (mkB x.s)) := cell_at hCV 4 rfl
  have c5 : V.cell? ⟨w.heap.size, 5, none⟩ = some (.int .i64 x.type) := cell_at hCV 5 rfl
  have c6 : V.cell? ⟨w.heap.size, 6, none⟩ = some (.slice xa xl xc) := cell_at hCV 6 rfl
  clear hY hC hb hYs hV hD hVb hVs hBV hCV hfit hH
  go_enter Tryz.func14, Tryz.ntmps14
  go_upto_region 1 with fail
  rw [HY.out, HV.out]
  go_wp2_with fail
  refine h.mono ?_
  rintro e W1 ⟨v, rfl, hv, hb1⟩
  have HB1 := Lib.hid (HBV.out.trans (hb1.mono HBV.out.size))
  have h1s := hb1.size
  have h2 := oursN_any f x v W1 HFIT.out (hv.mv (fun _ _ => rfl) (fun b hb => hb.2))
  have HD1 : Hid (W1.heap[w.heap.size + 1]? = _) := (hb1.block _ (by omega)).trans HDV.out
  clear h hv hb1 c0 c1 c2 c3 c4 c5 c6
  go_wp2_with fail
  refine h2.mono ?_
  rintro e W2 ⟨a0, a1, a2, a3, a4, a5, sa, sl, sc, fsr, rfl, hrow, hhg, hb2⟩
  have HROW := Lib.hid hrow
  have HHG := Lib.hid hhg
  have HB2 := Lib.hid (HB1.out.trans (hb2.mono HB1.out.size))
  have hD2 := (hb2.block _ (by omega)).trans HD1.out
  have h2s := hb2.size
  obtain ⟨Q, hQ, hQc, hQo, hQs, hQb⟩ := set7_all hD2 (.int .i64 a0) (.int .i64 a1) (.int .u64 a2) (.bool a3) (.string a4) (.int .i64 a5) (.slice sa sl sc)
  have HQ := Lib.hid hQ
  have HQC := Lib.hid hQc
  have HBQ := Lib.hid (HB2.out.trans (hQb.mono (show w.heap.size ≤ w.heap.size + 1 by omega)))
  have HHQ : Hid (x.kind = 7 → HeldG clS Q (fun b => w.heap.size ≤ b ∧ b < Q.heap.size) f fsr x.fields) := by
    refine (?_ : _ → _)
    intro h7
    exact HeldG.mv (fun b hb => hQo b (by have := hb.1; omega)) (fun b hb => ⟨by have := hb.1; omega, by rw [hQs]; exact hb.2⟩) (HHG.out h7)
  have k0 : W2.cell? ⟨w.heap.size + 1, 0, none⟩ = some (.int .i64 0) := cell_at hD2 0 rfl
  have kf0 : W2.frozen? ⟨w.heap.size + 1, 0, none⟩ = false := frz_at hD2 0
  have k1 : W2.cell? ⟨w.heap.size + 1, 1, none⟩ = some (.int .i64 0) := cell_at hD2 1 rfl
  have kf1 : W2.frozen? ⟨w.heap.size + 1, 1, none⟩ = false := frz_at hD2 1
  have k2 : W2.cell? ⟨w.heap.size + 1, 2, none⟩ = some (.int .u64 0) := cell_at hD2 2 rfl
  have kf2 : W2.frozen? ⟨w.heap.size + 1, 2, none⟩ = false := frz_at hD2 2
  have k3 : W2.cell? ⟨w.heap.size + 1, 3, none⟩ = some (.bool false) := cell_at hD2 3 rfl
  have kf3 : W2.frozen? ⟨w.heap.size + 1, 3, none⟩ = false := frz_at hD2 3
  have k4 : W2.cell? ⟨w.heap.size + 1, 4, none⟩ = some (.string ⟨#[]⟩) := cell_at hD2 4 rfl
  have kf4 : W2.frozen? ⟨w.heap.size + 1, 4, none⟩ = false := frz_at hD2 4
  have k5 : W2.cell? ⟨w.heap.size + 1, 5, none⟩ = some (.int .i64 0) := cell_at hD2 5 rfl
  have kf5 : W2.frozen? ⟨w.heap.size + 1, 5, none⟩ = false := frz_at hD2 5
  have k6 : W2.cell? ⟨w.heap.size + 1, 6, none⟩ = some (.slice none 0 0) := cell_at hD2 6 rfl
  have kf6 : W2.frozen? ⟨w.heap.size + 1, 6, none⟩ = false := frz_at hD2 6
  clear h2 hrow hhg hb2 hD2 hQ hQc hQo hQs hQb
  go_wp2_with fail
  rw [HQ.out]
  have r0 := cell_at HQC.out 0 rfl
  have r1 := cell_at HQC.out 1 rfl
  have r2 := cell_at HQC.out 2 rfl
  have r3 := cell_at HQC.out 3 rfl
  have r4 := cell_at HQC.out 4 rfl
  have r5 := cell_at HQC.out 5 rfl
  have r6 := cell_at HQC.out 6 rfl
  refine bodyPost_ret (v := .agg #[.int .i64 a0, .int .i64 a1, .int .u64 a2, .bool a3, .string a4, .int .i64 a5, .slice sa sl sc]) (by simp [results, Tryz.results14, go_sem, r0, r1, r2, r3, r4, r5, r6]) rfl ?_
  exact ⟨_, _, _, _, _, _, _, _, _, fsr, rfl, HROW.out, HHQ.out, HBQ.out⟩
end Go.Proofs.YtfhmombnipfimaaGreatDoor
namespace Go.Proofs.YtfhmombnipfimaaGreatDoor
set_option linter.unusedVariables false
open Go.ChangeShapes Go.WideShapes Go.ChangeAt Go.RowKit

theorem normR_of (ma ea ta : Option Addr) (nm ne nt mc ec tc : Nat) (ms : List MD) (hnm : ms.length = nm) (hok : TyOK ms) (f : Nat) (x : Nd) (W : World) (r0 r1 r2 : Int) (r3 : Bool) (r4 : ByteArray) (r5 : Int) (ra : Option Addr) (rl rc : Nat) (fsr : Value) (hk : x.kind = 7) (hg : GoodT ms f x) (hM : HeldM W (fun b => b < W.heap.size) (.slice ma nm mc) ms) (hfit : FitG 100000 10000 f x)
    (hrow : [.int .i64 r0, .int .i64 r1, .int .u64 r2, .bool r3, .string r4, .int .i64 r5, .slice ra rl rc] = clS.row x fsr) (hH : HeldG clS W (fun b => b < W.heap.size) f fsr x.fields) :
    Calls Tryz.prog 17 #[.agg #[.slice ma nm mc, .slice ea ne ec, .slice ta nt tc], .agg #[.int .i64 r0, .int .i64 r1, .int .u64 r2, .bool r3, .string r4, .int .i64 r5, .slice ra rl rc]] W fun e w' => OurAns f W (normN ms f x) e w' := by
  have hr : clS.row x fsr = [.int .i64 (cn x).kind, .int .i64 (cn x).n, .int .u64 (cn x).u, .bool (cn x).b, .string (mkB (cn x).s), .int .i64 (cn x).type, if x.kind = 7 then fsr else .slice none 0 0] := rfl
  rw [hr] at hrow
  simp only [List.cons.injEq, Value.int.injEq, Value.bool.injEq, Value.string.injEq, true_and, and_true] at hrow
  obtain ⟨rfl, rfl, rfl, rfl, rfl, rfl, h7⟩ := hrow
  rw [if_pos hk] at h7
  subst h7
  obtain ⟨a, c, he⟩ := HeldG.isSl hH
  have hl : x.fields.length = rl := (Value.slice.inj he).2.1.symm
  exact normR_any ma ea ta nm ne nt mc ec tc ms hnm hok f x (cn x) ra rl rc W rfl hk hg hM hfit hH hl
end Go.Proofs.YtfhmombnipfimaaGreatDoor
