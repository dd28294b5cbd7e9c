/-
  The walk over the law StubEmits.
-/
import Derived.Test.YtkhnicppcbgdiaaGreatDoorM32
namespace Go.Proofs.YtkhnicppcbgdiaaGreatDoor
set_option linter.unusedVariables false
open Go.ChangeShapes Go.WideShapes Go.ChangeAt Go.RowKit

/-- what both Emits answer is one -/
theorem em_one {s : SC} {t1 t2 : List UInt8} {c1 c2 : Int} (a1 : ¬ FormS s → t1 = [] ∧ c1 = 1) (a2 : FormS s → ClashS s → t1 = [] ∧ c1 = 9) (a3 : FormS s → ¬ ClashS s → t1 = textT none (rowsL s) ∧ c1 = 0)
    (b1 : ¬ FormS s → t2 = [] ∧ c2 = 1) (b2 : FormS s → ClashS s → t2 = [] ∧ c2 = 9) (b3 : FormS s → ¬ ClashS s → t2 = textT none (rowsL s) ∧ c2 = 0) : t2 = t1 ∧ c2 = c1 := by
  by_cases h : FormS s
  · by_cases hc : ClashS s
    · obtain ⟨p, q⟩ := a2 h hc; obtain ⟨u, v⟩ := b2 h hc; exact ⟨by rw [p, u], by rw [q, v]⟩
    · obtain ⟨p, q⟩ := a3 h hc; obtain ⟨u, v⟩ := b3 h hc; exact ⟨by rw [p, u], by rw [q, v]⟩
  · obtain ⟨p, q⟩ := a1 h; obtain ⟨u, v⟩ := b1 h; exact ⟨by rw [p, u], by rw [q, v]⟩
theorem rows_one {s : SC} {l1 l2 : List Rw} (a1 : FormS s → l1 = rowsL s) (a2 : ¬ FormS s → l1 = []) (b1 : FormS s → l2 = rowsL s) (b2 : ¬ FormS s → l2 = []) : l2 = l1 := by
  by_cases h : FormS s
  · rw [a1 h, b1 h]
  · rw [a2 h, b2 h]
theorem rows_short {s : SC} (hf : FitS s) {l : List Rw} (a1 : FormS s → l = rowsL s) (a2 : ¬ FormS s → l = []) : l.length ≤ 1000000 := by
  by_cases h : FormS s
  · rw [a1 h]; unfold rowsL; rw [List.length_map]; have := hf.2.2.2.1; omega
  · rw [a2 h]; simp
set_option maxHeartbeats 32000000 in
set_option maxRecDepth 20000 in
theorem stubEmits_any (a b c : Value) (s : SC) (w : World) (hT : Tabs w) (hP : Pow w) (hM : Mx w) (hH : HeldSc w (fun b => b < w.heap.size) a b c s) (hbig : BigS s) :
    Calls Tryz.prog 3 #[.agg #[a, b, c]] w fun e w' => e = .returned (.bool true) ∧ Below w.heap.size w w' := by
  obtain ⟨ma, mc, rfl⟩ := HeldN.isSl hH.1
  obtain ⟨ea, ec, rfl⟩ := HeldN.isSl hH.2.1
  obtain ⟨ta, tc, rfl⟩ := RowsIn.isSl hH.2.2
  obtain ⟨nm, hnm⟩ : ∃ n, s.ms.length = n := ⟨_, rfl⟩
  obtain ⟨ne, hne⟩ : ∃ n, s.es.length = n := ⟨_, rfl⟩
  obtain ⟨nt, hnt⟩ : ∃ n, s.ts.length = n := ⟨_, rfl⟩
  rw [hnm, hne, hnt] at hH ⊢
  have HBIG := Lib.hid hbig
  have HNM := Lib.hid hnm
  have HNE := Lib.hid hne
  have HNT := Lib.hid hnt
  obtain ⟨Y, hY, hC, hb, hYs⟩ := box_new w #[.slice ma nm mc, .slice ea ne ec, .slice ta nt tc] 26
  have HY := Lib.hid hY
  have HB := Lib.hid hb
  have HC := Lib.hid hC
  have hHY : HeldSc Y (fun b => b < Y.heap.size) (.slice ma nm mc) (.slice ea ne ec) (.slice ta nt tc) s := heldSc_mvS hH hb
  have HHY : Hid (∀ W, (fun W => Below Y.heap.size Y W) W → HeldSc W (fun b => b < W.heap.size) (.slice ma nm mc) (.slice ea ne ec) (.slice ta nt tc) s) := fun W hW => heldSc_mvS hHY hW
  have HW : Hid (∀ W, (fun W => Below Y.heap.size Y W) W → Below w.heap.size w W) := fun W hW => HB.out.trans (hW.mono HB.out.size)
  have HCW : Hid (∀ W, (fun W => Below Y.heap.size Y W) W → W.heap[w.heap.size]? = some (.cells #[.slice ma nm mc, .slice ea ne ec, .slice ta nt tc] 26 (0, 0))) := fun W h => (h.block _ (by omega)).trans HC.out
  have HTW : Hid (∀ W, (fun W => Below Y.heap.size Y W) W → Tabs W ∧ Pow W ∧ Mx W) := fun W hW => ⟨tabs_below hT (HW.out W hW), hP.below (HW.out W hW), hM.below (HW.out W hW)⟩
  have hA := awake13_any Y (hM.below hb)
  clear hY hC hb hH hHY hT hP hM hnm hne hnt hbig
  go_enter Tryz.func3, Tryz.ntmps3
  go_upto_region 1 with fail
  rw [HY.out]
  go_wp2_with fail
  refine hA.mono ?_
  rintro e w1 ⟨rfl, hb⟩
  have HB1 := Lib.hid hb
  clear hA hb
  have d0 := cell_at (HCW.out w1 HB1.out) 0 rfl
  have d1 := cell_at (HCW.out w1 HB1.out) 1 rfl
  have d2 := cell_at (HCW.out w1 HB1.out) 2 rfl
  have hs := smallS_any ma ea ta nm ne nt mc ec tc s w1 HNM.out HNE.out HNT.out HBIG.out (HHY.out _ HB1.out)
  go_wp2_with fail
  refine hs.mono ?_
  rintro e w2 ⟨b, rfl, hsm, hb⟩
  have HB2 := Lib.hid (HB1.out.trans (hb.mono HB1.out.size))
  have HSM := Lib.hid hsm
  clear hs hb hsm d0 d1 d2
  cases b
  case false =>
    have hA2 := awake13_any w2 (HTW.out _ HB2.out).2.2
    go_wp2_with fail
    refine hA2.mono ?_
    rintro e w3 ⟨rfl, hb⟩
    go_wp2_with fail
    go_ret
    exact ⟨rfl, HW.out _ (HB2.out.trans (hb.mono HB2.out.size))⟩
  have HF : Hid (FitS s) := fit_of_smallE (HSM.out rfl)
  clear HSM
  have d0 := cell_at (HCW.out w2 HB2.out) 0 rfl
  have d1 := cell_at (HCW.out w2 HB2.out) 1 rfl
  have d2 := cell_at (HCW.out w2 HB2.out) 2 rfl
  have he1 := emitP_any ma ea ta nm ne nt mc ec tc s w2 (HTW.out _ HB2.out).1 (HTW.out _ HB2.out).2.1 (HTW.out _ HB2.out).2.2 HNM.out HNE.out HNT.out HF.out (HHY.out _ HB2.out)
  go_wp2_with fail
  refine he1.mono ?_
  rintro e w3 ⟨t1, c1, rfl, p1, p2, p3, hb⟩
  have HB3 := Lib.hid (HB2.out.trans (hb.mono HB2.out.size))
  have P1 := Lib.hid p1
  have P2 := Lib.hid p2
  have P3 := Lib.hid p3
  clear he1 hb p1 p2 p3 d0 d1 d2
  have d0 := cell_at (HCW.out w3 HB3.out) 0 rfl
  have d1 := cell_at (HCW.out w3 HB3.out) 1 rfl
  have d2 := cell_at (HCW.out w3 HB3.out) 2 rfl
  have he2 := emitR_any ma ea ta nm ne nt mc ec tc s w3 (HTW.out _ HB3.out).1 (HTW.out _ HB3.out).2.1 (HTW.out _ HB3.out).2.2 HNM.out HNE.out HNT.out HF.out (HHY.out _ HB3.out)
  go_wp2_with fail
  refine he2.mono ?_
  rintro e w4 ⟨t2, c2, rfl, p1, p2, p3, hb⟩
  have HB4 := Lib.hid (HB3.out.trans (hb.mono HB3.out.size))
  obtain ⟨rfl, rfl⟩ := em_one P1.out P2.out P3.out p1 p2 p3
  clear he2 hb p1 p2 p3 d0 d1 d2 P1 P2 P3
  generalize mkB t2 = st
  have s0 : ∀ W, (fun W => Below Y.heap.size Y W) W → W.cell? ⟨w.heap.size, 0, none⟩ = some (.slice ma nm mc) := fun W hW => cell_at (HCW.out W hW) 0 rfl
  have s1 : ∀ W, (fun W => Below Y.heap.size Y W) W → W.cell? ⟨w.heap.size, 1, none⟩ = some (.slice ea ne ec) := fun W hW => cell_at (HCW.out W hW) 1 rfl
  have s2 : ∀ W, (fun W => Below Y.heap.size Y W) W → W.cell? ⟨w.heap.size, 2, none⟩ = some (.slice ta nt tc) := fun W hW => cell_at (HCW.out W hW) 2 rfl
  go_upto_region 5 with fail
  have hS0 : (fun W => Below Y.heap.size Y W) w4.drew := HB4.out.drew
  refine wp_region_held_drew (S := (fun W => Below Y.heap.size Y W)) (by kernel_rfl) hS0 (fun _ => ?_)
  refine T_on 0 (.string st) rfl (by kernel_rfl) (fun _ _ _ h => h) hS0 (fun W hW => by go_simp) ?_
  refine T_on 1 (.string st) rfl (by kernel_rfl) (fun _ _ _ h => h) hS0 (fun W hW => by go_simp) ?_
  refine T_on 2 (.bool true) rfl (by kernel_rfl) (fun _ _ _ h => h) hS0 (fun W hW => by go_simp) ?_
  refine T_on 3 (.bool true) rfl (by kernel_rfl) (fun _ _ _ h => h) hS0 (fun W hW => by go_simp) ?_
  refine T_on 4 (.int .i64 c2) rfl (by kernel_rfl) (fun _ _ _ h => h) hS0 (fun W hW => by go_simp) ?_
  refine T_on 5 (.int .i64 c2) rfl (by kernel_rfl) (fun _ _ _ h => h) hS0 (fun W hW => by go_simp) ?_
  refine T_on 6 (.bool true) rfl (by kernel_rfl) (fun _ _ _ h => h) hS0 (fun W hW => by go_simp) ?_
  refine T_on 7 (.bool true) rfl (by kernel_rfl) (fun _ _ _ h => h) hS0 (fun W hW => by go_simp) ?_
  refine T_on 8 (.bool true) rfl (by kernel_rfl) (fun _ _ _ h => h) hS0 (fun W hW => by go_simp) ?_
  refine T_on 9 (.agg #[.slice ma nm mc, .slice ea ne ec, .slice ta nt tc]) rfl (by kernel_rfl) (fun _ _ _ h => h) hS0 (fun W hW => by have d0 := s0 W hW; have d1 := s1 W hW; have d2 := s2 W hW; go_simp) ?_
  refine T_on 12 (.agg #[.slice ma nm mc, .slice ea ne ec, .slice ta nt tc]) rfl (by kernel_rfl) (fun _ _ _ h => h) hS0 (fun W hW => by have d0 := s0 W hW; have d1 := s1 W hW; have d2 := s2 W hW; go_simp) ?_
  refine T_call 10 (by kernel_rfl) rfl (fun K hK => ?_)
  go_simp
  refine (rowsP_any ma ea ta nm ne nt mc ec tc s _ (HTW.out _ hS0).2.2 HNM.out HNE.out HNT.out HF.out inT_of (HHY.out _ hS0)).mono ?_
  rintro e U1 ⟨v, l, rfl, hO, l1, l2, hb⟩
  obtain ⟨ra, rc, rfl⟩ := own_slice hO
  have HI1 := Lib.hid (rwP_in hO)
  have L1 := Lib.hid l1
  have L2 := Lib.hid l2
  have HLL := Lib.hid (rows_short HF.out l1 l2)
  clear hO l1 l2
  have hS1 : (fun W => Below Y.heap.size Y W) U1 := hS0.trans (hb.mono hS0.size)
  clear hb hS0
  have hS0 := hS1
  clear hS1
  dsimp only
  refine hK.out _ _ hS0 (fun _ => ?_)
  clear hK K
  refine T_call 11 (by kernel_rfl) rfl (fun K hK => ?_)
  go_simp
  refine (ours_any ra l.length rc l _ rfl HLL.out HI1.out).mono ?_
  rintro e U2 ⟨v, rfl, hO, hb⟩
  obtain ⟨va, vc, rfl⟩ := own_slice hO
  have HJ1 := Lib.hid (rwP_in hO)
  clear hO
  have hS1 : (fun W => Below Y.heap.size Y W) U2 := hS0.trans (hb.mono hS0.size)
  clear hb hS0
  have hS0 := hS1
  clear hS1
  dsimp only
  refine hK.out _ _ hS0 (fun _ => ?_)
  clear hK K
  refine T_call 13 (by kernel_rfl) rfl (fun K hK => ?_)
  go_simp
  refine (rowsR_any ma ea ta nm ne nt mc ec tc s _ (HTW.out _ hS0).1 HNM.out HNE.out HNT.out HF.out inT_of (HHY.out _ hS0)).mono ?_
  rintro e U3 ⟨v, m, rfl, hO, l1, l2, hb⟩
  obtain rfl := rows_one L1.out L2.out l1 l2
  obtain ⟨sa, sc, rfl⟩ := own_slice hO
  have HK1 := Lib.hid (rwP_in hO)
  have HJ2 := Lib.hid (rows_mv HJ1.out hb)
  clear hO l1 l2
  have hS1 : (fun W => Below Y.heap.size Y W) U3 := hS0.trans (hb.mono hS0.size)
  clear hb hS0
  have hS0 := hS1
  clear hS1
  dsimp only
  refine hK.out _ _ hS0 (fun _ => ?_)
  clear hK K
  have hsr := sameRows_any va sa m.length m.length vc sc m m (fun b => b < U3.heap.size) U3 rfl rfl HLL.out HLL.out HJ2.out HK1.out
  rw [decide_eq_true rfl] at hsr
  refine T_call 14 (by kernel_rfl) rfl (fun K hK => ?_)
  go_simp
  refine (hsr).mono ?_
  rintro e U4 ⟨rfl, hb⟩
  clear hsr
  have hS1 : (fun W => Below Y.heap.size Y W) U4 := hS0.trans (hb.mono hS0.size)
  clear hb hS0
  have hS0 := hS1
  clear hS1
  dsimp only
  refine hK.out _ _ hS0 (fun _ => ?_)
  clear hK K
  refine T_on 15 (.bool true) rfl (by kernel_rfl) (fun _ _ _ h => h) hS0 (fun W hW => by go_simp) ?_
  refine T_on 16 (.bool true) rfl (by kernel_rfl) (fun _ _ _ h => h) hS0 (fun W hW => by go_simp) ?_
  refine wpAnyH_done (by kernel_rfl) ?_ _
  go_simp
  have HE := Lib.hid (HW.out _ hS0)
  go_wp2_with fail
  go_ret
  exact ⟨rfl, HE.out⟩
end Go.Proofs.YtkhnicppcbgdiaaGreatDoor
