/-
  The walk over the law FrameBuilds.
-/
import Derived.Test.YtckbplhplpnhaaaDoorLFa
namespace Go.Proofs.YtckbplhplpnhaaaDoor
set_option linter.unusedVariables false
open Go.ChangeShapes Go.WideShapes Go.ChangeAt Go.RowKit

set_option maxHeartbeats 8000000 in
set_option maxRecDepth 20000 in
theorem frameBuilds_any (k cl tk at1 fl me dl st : Int) (p : List Int) (a : Option Addr) (c : Nat) (w : World) (hT : Shf w) (hB : SlB w a p.length c p) (hr : RngF ⟨k, cl, tk, at1, fl, me, dl, st, p⟩) :
    Calls Tryd.prog 3 #[.agg #[.int .i64 k, .int .i64 cl, .int .u64 tk, .int .i64 at1, .int .u64 fl, .int .i64 me, .int .i64 dl, .int .i64 st, .slice a p.length c]] w fun e w' => e = .returned (.bool true) ∧ Below w.heap.size w w' := by
  have hb0 : Below w.heap.size w (w.alloc (.cells #[.int .i64 k, .int .i64 cl, .int .u64 tk, .int .i64 at1, .int .u64 fl, .int .i64 me, .int .i64 dl, .int .i64 st, .slice a p.length c] 25)) := (Below.refl _ _).alloc (Nat.le_refl _) _
  have ha0 := alloc_heapF w (.cells #[.int .i64 k, .int .i64 cl, .int .u64 tk, .int .i64 at1, .int .u64 fl, .int .i64 me, .int .i64 dl, .int .i64 st, .slice a p.length c] 25)
  obtain ⟨W0, hW0⟩ : ∃ W0, w.alloc (.cells #[.int .i64 k, .int .i64 cl, .int .u64 tk, .int .i64 at1, .int .u64 fl, .int .i64 me, .int .i64 dl, .int .i64 st, .slice a p.length c] 25) = W0 := ⟨_, rfl⟩
  have hs0 : w.heap.size < W0.heap.size := by rw [← hW0, World.size_alloc]; omega
  rw [hW0] at hb0 ha0
  have HB0 := Lib.hid hb0
  have HA0 := Lib.hid ha0
  have HT0 := Lib.hid (hT.below hb0)
  have HS := Lib.hid (slB_old hB hb0)
  obtain ⟨⟨z0, z1, z2, z3, z4, z5, z6, z7, z8⟩, _⟩ := cells9 ha0
  have HRG := Lib.hid hr
  obtain ⟨n, hn⟩ : ∃ n, p.length = n := ⟨_, rfl⟩
  have HN := Lib.hid hn
  clear hb0 ha0 hT hB hr
  rw [hn] at HS HA0 z8 hW0 ⊢
  clear hn
  go_enter Tryd.func3, Tryd.ntmps3
  go_wp2_with fail
  refine (awake15_any _ HT0.out).mono ?_
  rintro e w1 ⟨rfl, hb1⟩
  have hc0 : w1.heap[w.heap.size]? = _ := (hb1.block _ hs0).trans HA0.out
  have HBX := Lib.hid (HB0.out.trans (hb1.mono HB0.out.size))
  have HTX := Lib.hid (HT0.out.below hb1)
  have HSX := Lib.hid (slB_old HS.out hb1)
  have hs1 : w.heap.size < w1.heap.size := by have := hb1.size; omega
  clear z0 z1 z2 z3 z4 z5 z6 z7 z8 hW0
  obtain ⟨⟨z0, z1, z2, z3, z4, z5, z6, z7, z8⟩, _⟩ := cells9 hc0
  have HC0 := Lib.hid hc0
  clear hc0 hb1 HA0 HT0 HS HB0
  have HF1 := fun wx => few15_any k cl tk at1 fl me dl st n a c wx
  by_cases h6 : n ≤ 6000
  case neg =>
    rw [decide_eq_false h6] at HF1
    go_wp2_with fail
    refine (HF1 _).mono ?_
    rintro e w2 ⟨rfl, hb2⟩
    have HB2 := Lib.hid (HBX.out.trans (hb2.mono HBX.out.size))
    have HT2 := Lib.hid (HTX.out.below hb2)
    clear z0 z1 z2 z3 z4 z5 z6 z7 z8 hb2
    go_wp2_with fail
    refine (awake15_any _ HT2.out).mono ?_
    rintro e w4 ⟨rfl, hb4⟩
    have HB4 := Lib.hid (HB2.out.trans (hb4.mono HB2.out.size))
    clear hb4
    go_wp2_with fail
    go_ret
    exact ⟨rfl, HB4.out⟩
  rw [decide_eq_true h6] at HF1
  go_wp2_with fail
  refine (HF1 _).mono ?_
  rintro e w2 ⟨rfl, hb2⟩
  have hd0 : w2.heap[w.heap.size]? = _ := (hb2.block _ hs1).trans HC0.out
  have HB2 := Lib.hid (HBX.out.trans (hb2.mono HBX.out.size))
  have HT2 := Lib.hid (HTX.out.below hb2)
  have hsb2 := slB_old HSX.out hb2
  have HS2 := Lib.hid hsb2
  have hs2 : w.heap.size < w2.heap.size := by have := hb2.size; omega
  clear z0 z1 z2 z3 z4 z5 z6 z7 z8
  obtain ⟨⟨z0, z1, z2, z3, z4, z5, z6, z7, z8⟩, _⟩ := cells9 hd0
  have HD0 := Lib.hid hd0
  have HBU := Lib.hid (build_any k cl tk at1 fl me dl st p a c w2 HT2.out HRG.out (by rw [HN.out]; exact hsb2.1) (by rw [HN.out]; exact hsb2.2.2))
  rw [HN.out] at HBU
  clear hd0 hb2 HC0 HTX HSX HBX HF1 hsb2
  go_wp2_with fail
  refine HBU.out.mono ?_
  rintro e w3 ⟨hans, hb3⟩
  obtain ⟨v3, rfl, how3⟩ := build_form HRG.out hans
  obtain ⟨a3, c3, rfl, hs3⟩ := bld_slB HRG.out how3
  have hd3 : w3.heap[w.heap.size]? = _ := (hb3.block _ hs2).trans HD0.out
  have HB3 := Lib.hid (HB2.out.trans (hb3.mono HB2.out.size))
  have HT3 := Lib.hid (HT2.out.below hb3)
  have HS3 := Lib.hid (slB_old HS2.out hb3)
  have HX3 := Lib.hid hs3
  have HO3 := Lib.hid how3
  have hs23 : w.heap.size < w3.heap.size := by have := hb3.size; omega
  clear z0 z1 z2 z3 z4 z5 z6 z7 z8
  obtain ⟨⟨z0, z1, z2, z3, z4, z5, z6, z7, z8⟩, _⟩ := cells9 hd3
  have HD3 := Lib.hid hd3
  clear hd3 hb3 hans how3 hs3 HBU HD0 HT2 HS2 HB2
  obtain ⟨F, hF⟩ : ∃ F : Fr, (⟨k, cl, tk, at1, fl, me, dl, st, p⟩ : Fr) = F := ⟨_, rfl⟩
  have HFF := Lib.hid hF
  rw [hF] at HX3 HO3 HRG ⊢
  clear hF
  have HBR := Lib.hid (buildR_any k cl tk at1 fl me dl st p a c w3 (by rw [HFF.out]; exact HRG.out) (by rw [HN.out]; exact HS3.out.1) (by rw [HN.out]; exact HS3.out.2.2))
  rw [HN.out] at HBR
  obtain ⟨n3, hn3⟩ : ∃ n3, (bldX F).length = n3 := ⟨_, rfl⟩
  have HN3 := Lib.hid hn3
  rw [hn3] at HX3 ⊢
  clear hn3
  obtain ⟨E, hE⟩ : ∃ E, bldE F = E := ⟨_, rfl⟩
  have HE := Lib.hid hE
  rw [hE]
  clear hE
  go_wp2_with fail
  refine HBR.out.mono ?_
  rintro e w4 ⟨hans, hb4⟩
  rw [HFF.out] at hans
  obtain ⟨v4, rfl, how4⟩ := build_form HRG.out hans
  obtain ⟨a4, c4, rfl, hs4⟩ := bld_slB HRG.out how4
  rw [HN3.out] at hs4 ⊢
  rw [HE.out]
  have hd4 : w4.heap[w.heap.size]? = _ := (hb4.block _ hs23).trans HD3.out
  have HB4 := Lib.hid (HB3.out.trans (hb4.mono HB3.out.size))
  have hb40 := HB4.out
  have hx4 := slB_old HX3.out hb4
  have hs24 : w.heap.size < w4.heap.size := by have := hb4.size; omega
  clear z0 z1 z2 z3 z4 z5 z6 z7 z8
  obtain ⟨⟨z0, z1, z2, z3, z4, z5, z6, z7, z8⟩, _⟩ := cells9 hd4
  have s0 : ∀ W, Below w4.heap.size w4 W → W.cell? ⟨w.heap.size, 0, none⟩ = some (.int .i64 k) := fun W hW => by rw [hW.cell (show w.heap.size < w4.heap.size by omega)]; exact z0
  have s1 : ∀ W, Below w4.heap.size w4 W → W.cell? ⟨w.heap.size, 1, none⟩ = some (.int .i64 cl) := fun W hW => by rw [hW.cell (show w.heap.size < w4.heap.size by omega)]; exact z1
  have s2 : ∀ W, Below w4.heap.size w4 W → W.cell? ⟨w.heap.size, 2, none⟩ = some (.int .u64 tk) := fun W hW => by rw [hW.cell (show w.heap.size < w4.heap.size by omega)]; exact z2
  have s3 : ∀ W, Below w4.heap.size w4 W → W.cell? ⟨w.heap.size, 3, none⟩ = some (.int .i64 at1) := fun W hW => by rw [hW.cell (show w.heap.size < w4.heap.size by omega)]; exact z3
  have s4 : ∀ W, Below w4.heap.size w4 W → W.cell? ⟨w.heap.size, 4, none⟩ = some (.int .u64 fl) := fun W hW => by rw [hW.cell (show w.heap.size < w4.heap.size by omega)]; exact z4
  have s5 : ∀ W, Below w4.heap.size w4 W → W.cell? ⟨w.heap.size, 5, none⟩ = some (.int .i64 me) := fun W hW => by rw [hW.cell (show w.heap.size < w4.heap.size by omega)]; exact z5
  have s6 : ∀ W, Below w4.heap.size w4 W → W.cell? ⟨w.heap.size, 6, none⟩ = some (.int .i64 dl) := fun W hW => by rw [hW.cell (show w.heap.size < w4.heap.size by omega)]; exact z6
  have s7 : ∀ W, Below w4.heap.size w4 W → W.cell? ⟨w.heap.size, 7, none⟩ = some (.int .i64 st) := fun W hW => by rw [hW.cell (show w.heap.size < w4.heap.size by omega)]; exact z7
  have s8 : ∀ W, Below w4.heap.size w4 W → W.cell? ⟨w.heap.size, 8, none⟩ = some (.slice a n c) := fun W hW => by rw [hW.cell (show w.heap.size < w4.heap.size by omega)]; exact z8
  have r1 : ∀ W, Below w4.heap.size w4 W → (convert 23 9 (.slice a3 n3 c3)).run Tryd.prog W = .ok (.string (strOfNums (bldX F))) W := fun W hW => run_str W a3 n3 c3 (bldX F) (slB_old hx4 hW).1
  have r2 : ∀ W, Below w4.heap.size w4 W → (convert 23 9 (.slice a4 n3 c4)).run Tryd.prog W = .ok (.string (strOfNums (bldX F))) W := fun W hW => run_str W a4 n3 c4 (bldX F) (slB_old hs4 hW).1
  obtain ⟨s, hs⟩ : ∃ s, strOfNums (bldX F) = s := ⟨_, rfl⟩
  rw [hs] at r1 r2
  obtain ⟨ok, hok⟩ : ∃ ok, okF F = ok := ⟨_, rfl⟩
  have HP : ∀ W, Below w4.heap.size w4 W → Calls Tryd.prog 12 #[.agg #[.int .i64 k, .int .i64 cl, .int .u64 tk, .int .i64 at1, .int .u64 fl, .int .i64 me, .int .i64 dl, .int .i64 st, .slice a n c]] W fun e w' => e = .returned (.bool ok) ∧ Below w4.heap.size w4 w' := fun W hW => by
    have h := formed_any k cl tk at1 fl me dl st p a c W
    rw [HFF.out, HN.out, hok] at h
    exact h.mono fun e w' h => ⟨h.1, hW.trans (h.2.mono hW.size)⟩
  have HR : ∀ W, Below w4.heap.size w4 W → Calls Tryd.prog 13 #[.agg #[.int .i64 k, .int .i64 cl, .int .u64 tk, .int .i64 at1, .int .u64 fl, .int .i64 me, .int .i64 dl, .int .i64 st, .slice a n c]] W fun e w' => e = .returned (.bool ok) ∧ Below w4.heap.size w4 w' := fun W hW => by
    have h := formedR_any k cl tk at1 fl me dl st p a c W
    rw [HFF.out, HN.out, hok] at h
    exact h.mono fun e w' h => ⟨h.1, hW.trans (h.2.mono hW.size)⟩
  have hS0 : Below w4.heap.size w4 w4.drew := (Below.refl _ _).drew
  clear hok hs hs4 hx4 hd4 how4 hans hb4 z0 z1 z2 z3 z4 z5 z6 z7 z8 HBR
  go_upto_region 5 with fail
  go_region_held_law (fun W => Below w4.heap.size w4 W) (first | with_reducible exact hS0 | assumption) (first
    | (go_simp; go_at_call 12; with_reducible refine (HP _ (by first | assumption | exact hS0)).mono ?_; rintro e W1 ⟨rfl, hW1⟩; dsimp only)
    | (go_simp; go_at_call 13; with_reducible refine (HR _ (by first | assumption | exact hS0)).mono ?_; rintro e W1 ⟨rfl, hW1⟩; dsimp only))
  all_goals go_wp2_with fail
  all_goals go_ret
  all_goals exact ⟨rfl, hb40.trans (Below.mono (by assumption) hb40.size)⟩
end Go.Proofs.YtckbplhplpnhaaaDoor
