/-
  The walk over the law StubBack.
-/
import Derived.Test.YtkhnicppcbgdiaaGreatDoorM34
namespace Go.Proofs.YtkhnicppcbgdiaaGreatDoor
set_option linter.unusedVariables false
open Go.ChangeShapes Go.WideShapes Go.ChangeAt Go.RowKit

set_option maxHeartbeats 32000000 in
set_option maxRecDepth 20000 in
theorem stubBack_any (a b c : Value) (s : SC) (w : World) (hT : Tabs w) (hP : Pow w) (hM : Mx w) (hH : HeldSc w (fun b => b < w.heap.size) a b c s) (hbig : BigS s) :
    Calls Tryz.prog 4 #[.agg #[a, b, c]] w fun e w' => e = .returned (.bool true) ∧ Below w.heap.size w w' := by
  obtain ⟨ma, mc, rfl⟩ := HeldN.isSl hH.1
  obtain ⟨ea, ec, rfl⟩ := HeldN.isSl hH.2.1
  obtain ⟨ta, tc, rfl⟩ := RowsIn.isSl hH.2.2
  obtain ⟨nm, hnm⟩ : ∃ n, s.ms.length = n := ⟨_, rfl⟩
  obtain ⟨ne, hne⟩ : ∃ n, s.es.length = n := ⟨_, rfl⟩
  obtain ⟨nt, hnt⟩ : ∃ n, s.ts.length = n := ⟨_, rfl⟩
  rw [hnm, hne, hnt] at hH ⊢
  have HBIG := Lib.hid hbig
  have HNM := Lib.hid hnm
  have HNE := Lib.hid hne
  have HNT := Lib.hid hnt
  obtain ⟨Y, hY, hC, hb, hYs⟩ := box_new w #[.slice ma nm mc, .slice ea ne ec, .slice ta nt tc] 26
  have HY := Lib.hid hY
  have HB := Lib.hid hb
  have HC := Lib.hid hC
  have hHY : HeldSc Y (fun b => b < Y.heap.size) (.slice ma nm mc) (.slice ea ne ec) (.slice ta nt tc) s := heldSc_mvS hH hb
  have HHY : Hid (∀ W, (fun W => Below Y.heap.size Y W) W → HeldSc W (fun b => b < W.heap.size) (.slice ma nm mc) (.slice ea ne ec) (.slice ta nt tc) s) := fun W hW => heldSc_mvS hHY hW
  have HW : Hid (∀ W, (fun W => Below Y.heap.size Y W) W → Below w.heap.size w W) := fun W hW => HB.out.trans (hW.mono HB.out.size)
  have HCW : Hid (∀ W, (fun W => Below Y.heap.size Y W) W → W.heap[w.heap.size]? = some (.cells #[.slice ma nm mc, .slice ea ne ec, .slice ta nt tc] 26 (0, 0))) := fun W h => (h.block _ (by omega)).trans HC.out
  have HTW : Hid (∀ W, (fun W => Below Y.heap.size Y W) W → Tabs W ∧ Pow W ∧ Mx W) := fun W hW => ⟨tabs_below hT (HW.out W hW), hP.below (HW.out W hW), hM.below (HW.out W hW)⟩
  have hA := awake13_any Y (hM.below hb)
  clear hY hC hb hH hHY hT hP hM hnm hne hnt hbig
  go_enter Tryz.func4, Tryz.ntmps4
  go_upto_region 1 with fail
  rw [HY.out]
  go_wp2_with fail
  refine hA.mono ?_
  rintro e w1 ⟨rfl, hb⟩
  have HB1 := Lib.hid hb
  clear hA hb
  have d0 := cell_at (HCW.out w1 HB1.out) 0 rfl
  have d1 := cell_at (HCW.out w1 HB1.out) 1 rfl
  have d2 := cell_at (HCW.out w1 HB1.out) 2 rfl
  have hs := smallS_any ma ea ta nm ne nt mc ec tc s w1 HNM.out HNE.out HNT.out HBIG.out (HHY.out _ HB1.out)
  go_wp2_with fail
  refine hs.mono ?_
  rintro e w2 ⟨b, rfl, hsm, hb⟩
  have HB2 := Lib.hid (HB1.out.trans (hb.mono HB1.out.size))
  have HSM := Lib.hid hsm
  clear hs hb hsm d0 d1 d2
  cases b
  case false =>
    have hA2 := awake13_any w2 (HTW.out _ HB2.out).2.2
    go_wp2_with fail
    refine hA2.mono ?_
    rintro e w3 ⟨rfl, hb⟩
    go_wp2_with fail
    go_ret
    exact ⟨rfl, HW.out _ (HB2.out.trans (hb.mono HB2.out.size))⟩
  have HF : Hid (FitS s) := fit_of_smallE (HSM.out rfl)
  clear HSM
  have d0 := cell_at (HCW.out w2 HB2.out) 0 rfl
  have d1 := cell_at (HCW.out w2 HB2.out) 1 rfl
  have d2 := cell_at (HCW.out w2 HB2.out) 2 rfl
  have he1 := emitP_any ma ea ta nm ne nt mc ec tc s w2 (HTW.out _ HB2.out).1 (HTW.out _ HB2.out).2.1 (HTW.out _ HB2.out).2.2 HNM.out HNE.out HNT.out HF.out (HHY.out _ HB2.out)
  go_wp2_with fail
  refine he1.mono ?_
  rintro e w3 ⟨t1, c1, rfl, p1, p2, p3, hb⟩
  have HB3 := Lib.hid (HB2.out.trans (hb.mono HB2.out.size))
  clear he1 hb d0 d1 d2
  by_cases hFC : FormS s ∧ ¬ ClashS s
  case neg =>
    have hte : t1 = [] ∧ (c1 = 1 ∨ c1 = 9) := by
      by_cases hF : FormS s
      · have hC : ClashS s := Classical.not_not.1 fun h => hFC ⟨hF, h⟩
        exact ⟨(p2 hF hC).1, .inr (p2 hF hC).2⟩
      · exact ⟨(p1 hF).1, .inl (p1 hF).2⟩
    clear p1 p2 p3
    obtain ⟨rfl, hc⟩ := hte
    have he0 : mkB [] = ⟨#[]⟩ := rfl
    rw [he0]
    rcases hc with rfl | rfl
    · go_wp2_with fail
      go_ret
      exact ⟨rfl, HW.out _ HB3.out⟩
    · go_wp2_with fail
      go_ret
      exact ⟨rfl, HW.out _ HB3.out⟩
  case pos =>
    obtain ⟨hF, hC⟩ := hFC
    obtain ⟨rfl, rfl⟩ := p3 hF hC
    clear p1 p2 p3
    have hrd := stubs_read HF.out hF
    have hsh := text_short HF.out hF
    have hr := readPB_any (textT none (rowsL s)) w3 (HTW.out _ HB3.out).2.2 (HTW.out _ HB3.out).2.1 hsh hrd.2
    rw [hrd.1] at hr
    have HFF := Lib.hid hF
    have HLN := Lib.hid (rowsL_len s)
    have HLS := Lib.hid (ts_few hF)
    obtain ⟨l, hl⟩ : ∃ l, rowsL s = l := ⟨_, rfl⟩
    have HRL := Lib.hid hl
    rw [hl] at hr HLN ⊢
    clear hrd hsh hF hC hl
    generalize mkB (textT none l) = st at *
    go_wp2_with fail
    refine hr.mono ?_
    rintro e w4 ⟨v, rfl, hO, hb⟩
    obtain ⟨ra, rc, rfl⟩ := own_slice hO
    have HI1 := Lib.hid (rwP_in hO)
    have HB4 := Lib.hid (HB3.out.trans (hb.mono HB3.out.size))
    obtain ⟨n, hn⟩ : ∃ n, l.length = n := ⟨_, rfl⟩
    have HN := Lib.hid hn
    have hnt2 : n = nt := by rw [← hn, HLN.out, HNT.out]
    rw [hn] at HI1 ⊢
    subst hnt2
    have hn6 : n ≤ 1000000 := by have := HLS.out; rw [HNT.out] at this; omega
    clear hr hO hb hn
    have s0 : ∀ W, (fun W => Below Y.heap.size Y W) W → W.cell? ⟨w.heap.size, 0, none⟩ = some (.slice ma nm mc) := fun W hW => cell_at (HCW.out W hW) 0 rfl
    have s1 : ∀ W, (fun W => Below Y.heap.size Y W) W → W.cell? ⟨w.heap.size, 1, none⟩ = some (.slice ea ne ec) := fun W hW => cell_at (HCW.out W hW) 1 rfl
    have s2 : ∀ W, (fun W => Below Y.heap.size Y W) W → W.cell? ⟨w.heap.size, 2, none⟩ = some (.slice ta n tc) := fun W hW => cell_at (HCW.out W hW) 2 rfl
    go_upto_region 7 with fail
    have hS0 : (fun W => Below Y.heap.size Y W) w4.drew := HB4.out.drew
    refine wp_region_held_drew (S := (fun W => Below Y.heap.size Y W)) (by kernel_rfl) hS0 (fun _ => ?_)
    refine T_on 0 (.int .i64 0) rfl (by kernel_rfl) (fun _ _ _ h => h) hS0 (fun W hW => by go_simp) ?_
    refine T_on 1 (.bool true) rfl (by kernel_rfl) (fun _ _ _ h => h) hS0 (fun W hW => by go_simp) ?_
    refine T_on 2 (.bool true) rfl (by kernel_rfl) (fun _ _ _ h => h) hS0 (fun W hW => by go_simp) ?_
    refine T_on 3 (.slice ra n rc) rfl (by kernel_rfl) (fun _ _ _ h => h) hS0 (fun W hW => by go_simp) ?_
    refine T_on 5 (.agg #[.slice ma nm mc, .slice ea ne ec, .slice ta n tc]) rfl (by kernel_rfl) (fun _ _ _ h => h) hS0 (fun W hW => by have d0 := s0 W hW; have d1 := s1 W hW; have d2 := s2 W hW; go_simp) ?_
    refine T_call 4 (by kernel_rfl) rfl (fun K hK => ?_)
    go_simp
    refine (ours_any ra n rc l _ HN.out hn6 (rows_mv HI1.out (Below.refl w4.heap.size w4).drew)).mono ?_
    rintro e U2 ⟨v, rfl, hO, hb⟩
    obtain ⟨va, vc, rfl⟩ := own_slice hO
    have HJ1 := Lib.hid (rwP_in hO)
    rw [HN.out] at HJ1 ⊢
    clear hO
    have hS1 : (fun W => Below Y.heap.size Y W) U2 := hS0.trans (hb.mono hS0.size)
    clear hb hS0
    have hS0 := hS1
    clear hS1
    dsimp only
    refine hK.out _ _ hS0 (fun _ => ?_)
    clear hK K
    refine T_call 6 (by kernel_rfl) rfl (fun K hK => ?_)
    go_simp
    refine (rowsR_any ma ea ta nm ne n mc ec tc s _ (HTW.out _ hS0).1 HNM.out HNE.out HNT.out HF.out inT_of (HHY.out _ hS0)).mono ?_
    rintro e U3 ⟨v, m, rfl, hO, l1, l2, hb⟩
    obtain rfl : m = l := by rw [l1 HFF.out]; exact HRL.out
    obtain ⟨sa, sc, rfl⟩ := own_slice hO
    have HK1 := Lib.hid (rwP_in hO)
    have HJ2 := Lib.hid (rows_mv HJ1.out hb)
    rw [HN.out] at HK1 ⊢
    clear hO l1 l2
    have hS1 : (fun W => Below Y.heap.size Y W) U3 := hS0.trans (hb.mono hS0.size)
    clear hb hS0
    have hS0 := hS1
    clear hS1
    dsimp only
    refine hK.out _ _ hS0 (fun _ => ?_)
    clear hK K
    have hsr := sameRows_any va sa n n vc sc m m (fun b => b < U3.heap.size) U3 HN.out HN.out hn6 hn6 HJ2.out HK1.out
    rw [decide_eq_true rfl] at hsr
    refine T_call 7 (by kernel_rfl) rfl (fun K hK => ?_)
    go_simp
    refine (hsr).mono ?_
    rintro e U4 ⟨rfl, hb⟩
    clear hsr
    have hS1 : (fun W => Below Y.heap.size Y W) U4 := hS0.trans (hb.mono hS0.size)
    clear hb hS0
    have hS0 := hS1
    clear hS1
    dsimp only
    refine hK.out _ _ hS0 (fun _ => ?_)
    clear hK K
    refine T_on 8 (.bool true) rfl (by kernel_rfl) (fun _ _ _ h => h) hS0 (fun W hW => by go_simp) ?_
    refine T_on 9 (.bool true) rfl (by kernel_rfl) (fun _ _ _ h => h) hS0 (fun W hW => by go_simp) ?_
    refine T_on 10 (.slice ra n rc) rfl (by kernel_rfl) (fun _ _ _ h => h) hS0 (fun W hW => by go_simp) ?_
    refine T_on 11 (.int .i64 (n : Nat)) rfl (by kernel_rfl) (fun _ _ _ h => h) hS0 (fun W hW => by go_simp) ?_
    refine T_on 12 (.pointer (some ⟨w.heap.size, 2, none⟩)) rfl (by kernel_rfl) (fun _ _ _ h => h) hS0 (fun W hW => by go_simp) ?_
    refine T_on 13 (.slice ta n tc) rfl (by kernel_rfl) (fun _ _ _ h => h) hS0 (fun W hW => by have d2 := s2 W hW; go_simp) ?_
    refine T_on 14 (.int .i64 (n : Nat)) rfl (by kernel_rfl) (fun _ _ _ h => h) hS0 (fun W hW => by go_simp) ?_
    refine T_on 15 (.bool true) rfl (by kernel_rfl) (fun _ _ _ h => h) hS0 (fun W hW => by go_simp) ?_
    refine T_on 16 (.bool true) rfl (by kernel_rfl) (fun _ _ _ h => h) hS0 (fun W hW => by go_simp) ?_
    refine T_on 17 (.bool true) rfl (by kernel_rfl) (fun _ _ _ h => h) hS0 (fun W hW => by go_simp) ?_
    refine wpAnyH_done (by kernel_rfl) ?_ _
    go_simp
    have HE := Lib.hid (HW.out _ hS0)
    go_wp2_with fail
    go_ret
    exact ⟨rfl, HE.out⟩
end Go.Proofs.YtkhnicppcbgdiaaGreatDoor
