/-
  The walk over the law StubTurned.
-/
import Derived.Test.YtkhnicppcbgdiaaGreatDoorM35
namespace Go.Proofs.YtkhnicppcbgdiaaGreatDoor
set_option linter.unusedVariables false
open Go.ChangeShapes Go.WideShapes Go.ChangeAt Go.RowKit

theorem take_mkB (l : List UInt8) (k : Nat) : (mkB l).extract 0 k = mkB (l.take k) := by
  apply ByteArray.ext
  simp [mkB]
theorem one_str (X : World) (b : UInt8) : (convert 41 9 (.slice (some ⟨X.heap.size, 0, none⟩) 1 1)).run Tryz.prog (X.alloc (.cells #[.int .u8 b.toNat] 5)) = .ok (.string (mkB [b])) (X.alloc (.cells #[.int .u8 b.toNat] 5)) := by
  have h : BufS (X.alloc (.cells #[.int .u8 b.toNat] 5)) X.heap.size [b] ∨ True := .inr trivial
  refine (run_convert_bytes_back (P := Tryz.prog) _ 41 9 5 ⟨X.heap.size, 0, none⟩ 1 [b] Tryz.underlying41 Tryz.underlying5 Tryz.underlying9 fun j hj => ?_).trans rfl
  obtain rfl : j = 0 := by simpa using hj
  exact cell_at (alloc_heap_new X _) 0 rfl
theorem text_pos (l : List Rw) : 0 < (textT none l).length := by
  rw [text_partsN, List.length_append, show (flatT [wPack, []]).length = 15 from rfl]
  omega
set_option maxHeartbeats 32000000 in
set_option maxRecDepth 20000 in
theorem stubTurned_any (a b c : Value) (s : SC) (n1 : Int) (b2 : UInt8) (w : World) (hT : Tabs w) (hP : Pow w) (hM : Mx w) (hH : HeldSc w (fun b => b < w.heap.size) a b c s) (hbig : BigS s) (g1 : 0 ≤ n1 ∧ n1 ≤ 18446744073709551615) :
    Calls Tryz.prog 5 #[.agg #[a, b, c], .int .u64 n1, .int .u8 b2.toNat] w fun e w' => e = .returned (.bool true) ∧ Below w.heap.size w w' := by
  obtain ⟨ma, mc, rfl⟩ := HeldN.isSl hH.1
  obtain ⟨ea, ec, rfl⟩ := HeldN.isSl hH.2.1
  obtain ⟨ta, tc, rfl⟩ := RowsIn.isSl hH.2.2
  obtain ⟨nm, hnm⟩ : ∃ n, s.ms.length = n := ⟨_, rfl⟩
  obtain ⟨ne, hne⟩ : ∃ n, s.es.length = n := ⟨_, rfl⟩
  obtain ⟨nt, hnt⟩ : ∃ n, s.ts.length = n := ⟨_, rfl⟩
  rw [hnm, hne, hnt] at hH ⊢
  have HBIG := Lib.hid hbig
  have HNM := Lib.hid hnm
  have HNE := Lib.hid hne
  have HNT := Lib.hid hnt
  obtain ⟨Y, hY, hC, hb, hYs⟩ := box_new w #[.slice ma nm mc, .slice ea ne ec, .slice ta nt tc] 26
  have HY := Lib.hid hY
  have HB := Lib.hid hb
  have HC := Lib.hid hC
  have hHY : HeldSc Y (fun b => b < Y.heap.size) (.slice ma nm mc) (.slice ea ne ec) (.slice ta nt tc) s := heldSc_mvS hH hb
  have HHY : Hid (∀ W, (fun W => Below Y.heap.size Y W) W → HeldSc W (fun b => b < W.heap.size) (.slice ma nm mc) (.slice ea ne ec) (.slice ta nt tc) s) := fun W hW => heldSc_mvS hHY hW
  have HW : Hid (∀ W, (fun W => Below Y.heap.size Y W) W → Below w.heap.size w W) := fun W hW => HB.out.trans (hW.mono HB.out.size)
  have HCW : Hid (∀ W, (fun W => Below Y.heap.size Y W) W → W.heap[w.heap.size]? = some (.cells #[.slice ma nm mc, .slice ea ne ec, .slice ta nt tc] 26 (0, 0))) := fun W h => (h.block _ (by omega)).trans HC.out
  have HTW : Hid (∀ W, (fun W => Below Y.heap.size Y W) W → Tabs W ∧ Pow W ∧ Mx W) := fun W hW => ⟨tabs_below hT (HW.out W hW), hP.below (HW.out W hW), hM.below (HW.out W hW)⟩
  have hA := awake13_any Y (hM.below hb)
  clear hY hC hb hH hHY hT hP hM hnm hne hnt hbig
  go_enter Tryz.func5, Tryz.ntmps5
  go_upto_region 1 with fail
  rw [HY.out]
  go_wp2_with fail
  refine hA.mono ?_
  rintro e w1 ⟨rfl, hb⟩
  have HB1 := Lib.hid hb
  clear hA hb
  have d0 := cell_at (HCW.out w1 HB1.out) 0 rfl
  have d1 := cell_at (HCW.out w1 HB1.out) 1 rfl
  have d2 := cell_at (HCW.out w1 HB1.out) 2 rfl
  have hs := smallS_any ma ea ta nm ne nt mc ec tc s w1 HNM.out HNE.out HNT.out HBIG.out (HHY.out _ HB1.out)
  go_wp2_with fail
  refine hs.mono ?_
  rintro e w2 ⟨b, rfl, hsm, hb⟩
  have HB2 := Lib.hid (HB1.out.trans (hb.mono HB1.out.size))
  have HSM := Lib.hid hsm
  clear hs hb hsm d0 d1 d2
  cases b
  case false =>
    have hA2 := awake13_any w2 (HTW.out _ HB2.out).2.2
    go_wp2_with fail
    refine hA2.mono ?_
    rintro e w3 ⟨rfl, hb⟩
    go_wp2_with fail
    go_ret
    exact ⟨rfl, HW.out _ (HB2.out.trans (hb.mono HB2.out.size))⟩
  have HF : Hid (FitS s) := fit_of_smallE (HSM.out rfl)
  clear HSM
  have d0 := cell_at (HCW.out w2 HB2.out) 0 rfl
  have d1 := cell_at (HCW.out w2 HB2.out) 1 rfl
  have d2 := cell_at (HCW.out w2 HB2.out) 2 rfl
  have he1 := emitP_any ma ea ta nm ne nt mc ec tc s w2 (HTW.out _ HB2.out).1 (HTW.out _ HB2.out).2.1 (HTW.out _ HB2.out).2.2 HNM.out HNE.out HNT.out HF.out (HHY.out _ HB2.out)
  go_wp2_with fail
  refine he1.mono ?_
  rintro e w3 ⟨t1, c1, rfl, p1, p2, p3, hb⟩
  have HB3 := Lib.hid (HB2.out.trans (hb.mono HB2.out.size))
  have P1 := Lib.hid p1
  have P2 := Lib.hid p2
  have P3 := Lib.hid p3
  clear he1 hb p1 p2 p3 d0 d1 d2
  have hcs : (c1 ≠ 0) ∨ (c1 = 0 ∧ 0 < t1.length) := by
    by_cases h : FormS s
    · by_cases hc : ClashS s
      · left; rw [(P2.out h hc).2]; decide
      · right; obtain ⟨u, v⟩ := P3.out h hc; exact ⟨v, by rw [u]; exact text_pos _⟩
    · left; rw [(P1.out h).2]; decide
  clear P1 P2 P3
  have hz := mkB_zI t1
  obtain ⟨n, hn⟩ : ∃ n, t1.length = n := ⟨_, rfl⟩
  rw [hn] at hz hcs
  have HNL := Lib.hid hn
  clear hn
  rcases hcs with hne | ⟨h0, hpos⟩
  · have hne2 : (c1 != 0) = true := by simpa using hne
    go_wp2_with fail
    go_ret
    exact ⟨rfl, HW.out _ HB3.out⟩
  · subst h0
    have hp0 : ¬ (n : Int) = 0 := by omega
    have hp1 : ((n : Int) == 0) = false := by simp; omega
    by_cases hl : 40000 < n
    · have hli : (40000 : Int) < (n : Int) := by omega
      have hld : decide ((40000 : Int) < (n : Int)) = true := decide_eq_true hli
      go_wp2_with fail
      go_ret
      exact ⟨rfl, HW.out _ HB3.out⟩
    · have hli : ¬ (40000 : Int) < (n : Int) := by omega
      obtain ⟨k, hkk⟩ : ∃ k : Nat, n1 % (n : Int) = (k : Int) := Int.eq_ofNat_of_zero_le (Int.emod_nonneg _ hp0)
      have hkn : (k : Int) < (n : Int) := by rw [← hkk]; exact Int.emod_lt_of_pos _ (by omega)
      have hk0 : (0 : Int) ≤ (k : Int) := by omega
      have hw64 : wrap64 (k : Int) = (k : Int) := by
        unfold wrap64; omega
      obtain ⟨cb, W, hcv, hbuf, hbW, hWs⟩ := buf_new w3 t1
      rw [HNL.out] at hcv
      obtain ⟨b0, hb0⟩ : ∃ b, t1[k]? = some b := ⟨_, List.getElem?_eq_getElem (by rw [HNL.out]; omega)⟩
      have hc := buf_cell hbuf hb0
      have hfz := buf_frozen hbuf (j := k) (by rw [HNL.out]; omega)
      have hset := buf_set hbuf k b2
      have hst := buf_str hset cb
      rw [List.length_set, HNL.out] at hst
      have HBW := Lib.hid ((HB3.out.trans (hbW.mono HB3.out.size)).trans ((Below.refl w3.heap.size W).setCell (p := ⟨w3.heap.size, k, none⟩) (Nat.le_refl _) (.int .u8 b2.toNat) |>.mono HB3.out.size))
      have hq := fun (l : List UInt8) (X : World) (hX : Below Y.heap.size Y X) (hl : l.length ≤ 9223372036854775807) => stubReads_any l X (HTW.out X hX).1 (HTW.out X hX).2.1 (HTW.out X hX).2.2 hl
      have HQ := Lib.hid hq
      have hq1 := HQ.out (t1.set k b2) _ HBW.out (by rw [List.length_set, HNL.out]; omega)
      have HBUF := Lib.hid hset
      clear hq hbuf hset hbW hb0
      go_wp2_with fail
      refine hq1.mono ?_
      rintro e w4 ⟨rfl, hb⟩
      have HB4 := Lib.hid (HBW.out.trans (hb.mono HBW.out.size))
      clear hb hq1 hst hfz hc hcv
      go_wp2_with fail
      have hq2 := HQ.out (t1.take k) w4 HB4.out (by rw [List.length_take]; omega)
      rw [← take_mkB] at hq2
      refine hq2.mono ?_
      rintro e w5 ⟨rfl, hb⟩
      have HB5 := Lib.hid (HB4.out.trans (hb.mono HB4.out.size))
      clear hb hq2
      have hcv3 := fun (X : World) => one_str X b2
      have hsum := fun X => sumZ (mkB t1) (mkB [b2]) (by rw [mkB_sz, mkB_sz, HNL.out]; simp; omega) X
      have hbX := Lib.hid (HB5.out.trans (((Below.refl w5.heap.size w5).alloc (Nat.le_refl _) (.cells #[.int .u8 b2.toNat] 5)).mono HB5.out.size))
      go_wp2_with fail
      have hq3 := HQ.out (t1 ++ [b2]) _ hbX.out (by rw [List.length_append, HNL.out]; simp; omega)
      rw [mkB_ap] at hq3
      refine hq3.mono ?_
      rintro e w6 ⟨rfl, hb⟩
      have HB6 := Lib.hid (hbX.out.trans (hb.mono hbX.out.size))
      clear hb hq3
      go_wp2_with fail
      go_ret
      exact ⟨rfl, HW.out _ HB6.out⟩
end Go.Proofs.YtkhnicppcbgdiaaGreatDoor
