/-
  The walk over the law FrameSame.
-/
import Derived.Test.YtckbplhplpnhaaaDoorLFa
namespace Go.Proofs.YtckbplhplpnhaaaDoor
set_option linter.unusedVariables false
open Go.ChangeShapes Go.WideShapes Go.ChangeAt Go.RowKit

set_option maxHeartbeats 8000000 in
set_option maxRecDepth 20000 in
theorem frameSame_any (k cl tk at1 fl me dl st : Int) (p : List Int) (a : Option Addr) (c : Nat) (kx clx tkx at1x flx mex dlx stx : Int) (px : List Int) (ax : Option Addr) (cx : Nat) (w : World) (hT : Shf w) (hB : SlB w a p.length c p) (hB2 : SlB w ax px.length cx px) :
    Calls Tryd.prog 7 #[.agg #[.int .i64 k, .int .i64 cl, .int .u64 tk, .int .i64 at1, .int .u64 fl, .int .i64 me, .int .i64 dl, .int .i64 st, .slice a p.length c], .agg #[.int .i64 kx, .int .i64 clx, .int .u64 tkx, .int .i64 at1x, .int .u64 flx, .int .i64 mex, .int .i64 dlx, .int .i64 stx, .slice ax px.length cx]] w fun e w' => e = .returned (.bool true) ∧ Below w.heap.size w w' := by
  have hb0 : Below w.heap.size w ((w.alloc (.cells #[.int .i64 k, .int .i64 cl, .int .u64 tk, .int .i64 at1, .int .u64 fl, .int .i64 me, .int .i64 dl, .int .i64 st, .slice a p.length c] 25)).alloc (.cells #[.int .i64 kx, .int .i64 clx, .int .u64 tkx, .int .i64 at1x, .int .u64 flx, .int .i64 mex, .int .i64 dlx, .int .i64 stx, .slice ax px.length cx] 25)) := ((Below.refl _ _).alloc (Nat.le_refl _) _).alloc (by simp) _
  have ha0 : ((w.alloc (.cells #[.int .i64 k, .int .i64 cl, .int .u64 tk, .int .i64 at1, .int .u64 fl, .int .i64 me, .int .i64 dl, .int .i64 st, .slice a p.length c] 25)).alloc (.cells #[.int .i64 kx, .int .i64 clx, .int .u64 tkx, .int .i64 at1x, .int .u64 flx, .int .i64 mex, .int .i64 dlx, .int .i64 stx, .slice ax px.length cx] 25)).heap[w.heap.size]? = some (.cells #[.int .i64 k, .int .i64 cl, .int .u64 tk, .int .i64 at1, .int .u64 fl, .int .i64 me, .int .i64 dl, .int .i64 st, .slice a p.length c] 25) := by rw [Below.heap_alloc _ _ _ (by simp)]; exact alloc_heapF _ _
  have ha1 : ((w.alloc (.cells #[.int .i64 k, .int .i64 cl, .int .u64 tk, .int .i64 at1, .int .u64 fl, .int .i64 me, .int .i64 dl, .int .i64 st, .slice a p.length c] 25)).alloc (.cells #[.int .i64 kx, .int .i64 clx, .int .u64 tkx, .int .i64 at1x, .int .u64 flx, .int .i64 mex, .int .i64 dlx, .int .i64 stx, .slice ax px.length cx] 25)).heap[w.heap.size + 1]? = some (.cells #[.int .i64 kx, .int .i64 clx, .int .u64 tkx, .int .i64 at1x, .int .u64 flx, .int .i64 mex, .int .i64 dlx, .int .i64 stx, .slice ax px.length cx] 25) := by
    have h := alloc_heapF (w.alloc (.cells #[.int .i64 k, .int .i64 cl, .int .u64 tk, .int .i64 at1, .int .u64 fl, .int .i64 me, .int .i64 dl, .int .i64 st, .slice a p.length c] 25)) (.cells #[.int .i64 kx, .int .i64 clx, .int .u64 tkx, .int .i64 at1x, .int .u64 flx, .int .i64 mex, .int .i64 dlx, .int .i64 stx, .slice ax px.length cx] 25)
    rw [World.size_alloc] at h; exact h
  obtain ⟨W0, hW0⟩ : ∃ W0, (w.alloc (.cells #[.int .i64 k, .int .i64 cl, .int .u64 tk, .int .i64 at1, .int .u64 fl, .int .i64 me, .int .i64 dl, .int .i64 st, .slice a p.length c] 25)).alloc (.cells #[.int .i64 kx, .int .i64 clx, .int .u64 tkx, .int .i64 at1x, .int .u64 flx, .int .i64 mex, .int .i64 dlx, .int .i64 stx, .slice ax px.length cx] 25) = W0 := ⟨_, rfl⟩
  have hs0 : w.heap.size + 1 < W0.heap.size := by rw [← hW0, World.size_alloc, World.size_alloc]; omega
  rw [hW0] at hb0 ha0 ha1
  have HB0 := Lib.hid hb0
  have HA0 := Lib.hid ha0
  have HA1 := Lib.hid ha1
  have HT0 := Lib.hid (hT.below hb0)
  have HS := Lib.hid (slB_old hB hb0)
  have HS2 := Lib.hid (slB_old hB2 hb0)
  obtain ⟨⟨z0, z1, z2, z3, z4, z5, z6, z7, z8⟩, _⟩ := cells9 ha0
  obtain ⟨⟨y0, y1, y2, y3, y4, y5, y6, y7, y8⟩, _⟩ := cells9 ha1
  obtain ⟨n, hn⟩ : ∃ n, p.length = n := ⟨_, rfl⟩
  obtain ⟨nx, hnx⟩ : ∃ n, px.length = n := ⟨_, rfl⟩
  clear hb0 ha0 ha1 hT hB hB2
  rw [hn] at HS HA0 z8 hW0 ⊢
  rw [hnx] at HS2 HA1 y8 hW0 ⊢
  clear hn hnx
  go_enter Tryd.func7, Tryd.ntmps7
  go_wp2_with fail
  refine (awake15_any _ HT0.out).mono ?_
  rintro e w1 ⟨rfl, hb1⟩
  have hc0 : w1.heap[w.heap.size]? = _ := (hb1.block _ (by omega)).trans HA0.out
  have hc1 : w1.heap[w.heap.size + 1]? = _ := (hb1.block _ hs0).trans HA1.out
  have hbx := HB0.out.trans (hb1.mono HB0.out.size)
  have HBX := Lib.hid hbx
  have HTX := Lib.hid (HT0.out.below hb1)
  have HSX := Lib.hid (slB_old HS.out hb1)
  have HSX2 := Lib.hid (slB_old HS2.out hb1)
  have hs1 : w.heap.size + 1 < w1.heap.size := by have := hb1.size; omega
  clear z0 z1 z2 z3 z4 z5 z6 z7 z8 y0 y1 y2 y3 y4 y5 y6 y7 y8 hW0
  obtain ⟨⟨z0, z1, z2, z3, z4, z5, z6, z7, z8⟩, _⟩ := cells9 hc0
  obtain ⟨⟨y0, y1, y2, y3, y4, y5, y6, y7, y8⟩, _⟩ := cells9 hc1
  have HC0 := Lib.hid hc0
  have HC1 := Lib.hid hc1
  clear hc0 hc1 hb1 hbx HA0 HA1 HT0 HS HS2
  have HF1 := fun wx => few15_any k cl tk at1 fl me dl st n a c wx
  have HF2 := fun wx => few15_any kx clx tkx at1x flx mex dlx stx nx ax cx wx
  by_cases h6 : n ≤ 6000
  · rw [decide_eq_true h6] at HF1
    go_wp2_with fail
    refine (HF1 _).mono ?_
    rintro e w2 ⟨rfl, hb2⟩
    have hd1 : w2.heap[w.heap.size + 1]? = _ := (hb2.block _ hs1).trans HC1.out
    have hd0 : w2.heap[w.heap.size]? = _ := (hb2.block _ (by omega)).trans HC0.out
    have HB2 := Lib.hid (HBX.out.trans (hb2.mono HBX.out.size))
    have HT2 := Lib.hid (HTX.out.below hb2)
    have HS2 := Lib.hid (slB_old HSX.out hb2)
    have HS22 := Lib.hid (slB_old HSX2.out hb2)
    have hs2 : w.heap.size + 1 < w2.heap.size := by have := hb2.size; omega
    clear z0 z1 z2 z3 z4 z5 z6 z7 z8 y0 y1 y2 y3 y4 y5 y6 y7 y8
    obtain ⟨⟨y0, y1, y2, y3, y4, y5, y6, y7, y8⟩, _⟩ := cells9 hd1
    have HD1 := Lib.hid hd1
    have HD0 := Lib.hid hd0
    clear hd0 hd1 hb2 HC0 HC1 HTX HSX HSX2
    by_cases h7 : nx ≤ 6000
    · rw [decide_eq_true h7] at HF2
      go_wp2_with fail
      refine (HF2 _).mono ?_
      rintro e w3 ⟨rfl, hb3⟩
      have HB3 := Lib.hid (HB2.out.trans (hb3.mono HB2.out.size))
      have hb30 := HB3.out
      have HS3 := slB_old HS2.out hb3
      have HS33 := slB_old HS22.out hb3
      have hs3 : w.heap.size + 1 < w3.heap.size := by have := hb3.size; omega
      have hd1 : w3.heap[w.heap.size + 1]? = _ := (hb3.block _ hs2).trans HD1.out
      have hd0 : w3.heap[w.heap.size]? = _ := (hb3.block _ (by omega)).trans HD0.out
      obtain ⟨⟨z0, z1, z2, z3, z4, z5, z6, z7, z8⟩, _⟩ := cells9 hd0
      clear y0 y1 y2 y3 y4 y5 y6 y7 y8
      obtain ⟨⟨y0, y1, y2, y3, y4, y5, y6, y7, y8⟩, _⟩ := cells9 hd1
      have s0 : ∀ W, Below w3.heap.size w3 W → W.cell? ⟨w.heap.size, 0, none⟩ = some (.int .i64 k) := fun W hW => by rw [hW.cell (show w.heap.size < w3.heap.size by omega)]; exact z0
      have s1 : ∀ W, Below w3.heap.size w3 W → W.cell? ⟨w.heap.size, 1, none⟩ = some (.int .i64 cl) := fun W hW => by rw [hW.cell (show w.heap.size < w3.heap.size by omega)]; exact z1
      have s2 : ∀ W, Below w3.heap.size w3 W → W.cell? ⟨w.heap.size, 2, none⟩ = some (.int .u64 tk) := fun W hW => by rw [hW.cell (show w.heap.size < w3.heap.size by omega)]; exact z2
      have s3 : ∀ W, Below w3.heap.size w3 W → W.cell? ⟨w.heap.size, 3, none⟩ = some (.int .i64 at1) := fun W hW => by rw [hW.cell (show w.heap.size < w3.heap.size by omega)]; exact z3
      have s4 : ∀ W, Below w3.heap.size w3 W → W.cell? ⟨w.heap.size, 4, none⟩ = some (.int .u64 fl) := fun W hW => by rw [hW.cell (show w.heap.size < w3.heap.size by omega)]; exact z4
      have s5 : ∀ W, Below w3.heap.size w3 W → W.cell? ⟨w.heap.size, 5, none⟩ = some (.int .i64 me) := fun W hW => by rw [hW.cell (show w.heap.size < w3.heap.size by omega)]; exact z5
      have s6 : ∀ W, Below w3.heap.size w3 W → W.cell? ⟨w.heap.size, 6, none⟩ = some (.int .i64 dl) := fun W hW => by rw [hW.cell (show w.heap.size < w3.heap.size by omega)]; exact z6
      have s7 : ∀ W, Below w3.heap.size w3 W → W.cell? ⟨w.heap.size, 7, none⟩ = some (.int .i64 st) := fun W hW => by rw [hW.cell (show w.heap.size < w3.heap.size by omega)]; exact z7
      have s8 : ∀ W, Below w3.heap.size w3 W → W.cell? ⟨w.heap.size, 8, none⟩ = some (.slice a n c) := fun W hW => by rw [hW.cell (show w.heap.size < w3.heap.size by omega)]; exact z8
      have t0 : ∀ W, Below w3.heap.size w3 W → W.cell? ⟨w.heap.size + 1, 0, none⟩ = some (.int .i64 kx) := fun W hW => by rw [hW.cell (show w.heap.size + 1 < w3.heap.size by omega)]; exact y0
      have t1 : ∀ W, Below w3.heap.size w3 W → W.cell? ⟨w.heap.size + 1, 1, none⟩ = some (.int .i64 clx) := fun W hW => by rw [hW.cell (show w.heap.size + 1 < w3.heap.size by omega)]; exact y1
      have t2 : ∀ W, Below w3.heap.size w3 W → W.cell? ⟨w.heap.size + 1, 2, none⟩ = some (.int .u64 tkx) := fun W hW => by rw [hW.cell (show w.heap.size + 1 < w3.heap.size by omega)]; exact y2
      have t3 : ∀ W, Below w3.heap.size w3 W → W.cell? ⟨w.heap.size + 1, 3, none⟩ = some (.int .i64 at1x) := fun W hW => by rw [hW.cell (show w.heap.size + 1 < w3.heap.size by omega)]; exact y3
      have t4 : ∀ W, Below w3.heap.size w3 W → W.cell? ⟨w.heap.size + 1, 4, none⟩ = some (.int .u64 flx) := fun W hW => by rw [hW.cell (show w.heap.size + 1 < w3.heap.size by omega)]; exact y4
      have t5 : ∀ W, Below w3.heap.size w3 W → W.cell? ⟨w.heap.size + 1, 5, none⟩ = some (.int .i64 mex) := fun W hW => by rw [hW.cell (show w.heap.size + 1 < w3.heap.size by omega)]; exact y5
      have t6 : ∀ W, Below w3.heap.size w3 W → W.cell? ⟨w.heap.size + 1, 6, none⟩ = some (.int .i64 dlx) := fun W hW => by rw [hW.cell (show w.heap.size + 1 < w3.heap.size by omega)]; exact y6
      have t7 : ∀ W, Below w3.heap.size w3 W → W.cell? ⟨w.heap.size + 1, 7, none⟩ = some (.int .i64 stx) := fun W hW => by rw [hW.cell (show w.heap.size + 1 < w3.heap.size by omega)]; exact y7
      have t8 : ∀ W, Below w3.heap.size w3 W → W.cell? ⟨w.heap.size + 1, 8, none⟩ = some (.slice ax nx cx) := fun W hW => by rw [hW.cell (show w.heap.size + 1 < w3.heap.size by omega)]; exact y8
      have HPQ : ∀ W, Below w3.heap.size w3 W → Calls Tryd.prog 17 #[.agg #[.int .i64 k, .int .i64 cl, .int .u64 tk, .int .i64 at1, .int .u64 fl, .int .i64 me, .int .i64 dl, .int .i64 st, .slice a n c], .agg #[.int .i64 kx, .int .i64 clx, .int .u64 tkx, .int .i64 at1x, .int .u64 flx, .int .i64 mex, .int .i64 dlx, .int .i64 stx, .slice ax nx cx]] W fun e w' => e = .returned (.bool (sameF ⟨k, cl, tk, at1, fl, me, dl, st, p⟩ ⟨kx, clx, tkx, at1x, flx, mex, dlx, stx, px⟩)) ∧ Below w3.heap.size w3 w' := fun W hW => (sameFP_any k cl tk at1 fl me dl st kx clx tkx at1x flx mex dlx stx a ax n c nx cx p px W (slB_old HS3 hW) (slB_old HS33 hW)).mono fun e w' h => ⟨h.1, hW.trans (h.2.mono hW.size)⟩
      have HPP : ∀ W, Below w3.heap.size w3 W → Calls Tryd.prog 17 #[.agg #[.int .i64 k, .int .i64 cl, .int .u64 tk, .int .i64 at1, .int .u64 fl, .int .i64 me, .int .i64 dl, .int .i64 st, .slice a n c], .agg #[.int .i64 k, .int .i64 cl, .int .u64 tk, .int .i64 at1, .int .u64 fl, .int .i64 me, .int .i64 dl, .int .i64 st, .slice a n c]] W fun e w' => e = .returned (.bool true) ∧ Below w3.heap.size w3 w' := fun W hW => (sameFP_any k cl tk at1 fl me dl st k cl tk at1 fl me dl st a a n c n c p p W (slB_old HS3 hW) (slB_old HS3 hW)).mono fun e w' h => ⟨h.1.trans (by rw [sameF_refl]), hW.trans (h.2.mono hW.size)⟩
      have HRQ : ∀ W, Below w3.heap.size w3 W → Calls Tryd.prog 16 #[.agg #[.int .i64 k, .int .i64 cl, .int .u64 tk, .int .i64 at1, .int .u64 fl, .int .i64 me, .int .i64 dl, .int .i64 st, .slice a n c], .agg #[.int .i64 kx, .int .i64 clx, .int .u64 tkx, .int .i64 at1x, .int .u64 flx, .int .i64 mex, .int .i64 dlx, .int .i64 stx, .slice ax nx cx]] W fun e w' => e = .returned (.bool (sameF ⟨k, cl, tk, at1, fl, me, dl, st, p⟩ ⟨kx, clx, tkx, at1x, flx, mex, dlx, stx, px⟩)) ∧ Below w3.heap.size w3 w' := fun W hW => (sameFR_any k cl tk at1 fl me dl st kx clx tkx at1x flx mex dlx stx a ax n c nx cx p px W (slB_old HS3 hW) (slB_old HS33 hW)).mono fun e w' h => ⟨h.1, hW.trans (h.2.mono hW.size)⟩
      obtain ⟨b, hb⟩ : ∃ b, sameF ⟨k, cl, tk, at1, fl, me, dl, st, p⟩ ⟨kx, clx, tkx, at1x, flx, mex, dlx, stx, px⟩ = b := ⟨_, rfl⟩
      rw [hb] at HPQ HRQ
      have hS0 : Below w3.heap.size w3 w3.drew := (Below.refl _ _).drew
      clear hb HS3 HS33 hd0 hd1 hb3 HD0 HD1 z0 z1 z2 z3 z4 z5 z6 z7 z8 y0 y1 y2 y3 y4 y5 y6 y7 y8 HF1 HF2 HT2 HS2 HS22
      go_upto_region 3 with fail
      go_region_held_law (fun W => Below w3.heap.size w3 W) (first | with_reducible exact hS0 | assumption) (first
        | (go_simp; go_at_call 17; with_reducible refine (HPQ _ (by first | assumption | exact hS0)).mono ?_; rintro e W1 ⟨rfl, hW1⟩; dsimp only)
        | (go_simp; go_at_call 17; with_reducible refine (HPP _ (by first | assumption | exact hS0)).mono ?_; rintro e W1 ⟨rfl, hW1⟩; dsimp only)
        | (go_simp; go_at_call 16; with_reducible refine (HRQ _ (by first | assumption | exact hS0)).mono ?_; rintro e W1 ⟨rfl, hW1⟩; dsimp only))
      all_goals go_wp2_with fail
      all_goals go_ret
      all_goals exact ⟨rfl, hb30.trans (Below.mono (by assumption) hb30.size)⟩
    · rw [decide_eq_false h7] at HF2
      go_wp2_with fail
      refine (HF2 _).mono ?_
      rintro e w3 ⟨rfl, hb3⟩
      have HB3 := Lib.hid (HB2.out.trans (hb3.mono HB2.out.size))
      have HT3 := Lib.hid (HT2.out.below hb3)
      clear y0 y1 y2 y3 y4 y5 y6 y7 y8 hb3
      go_wp2_with fail
      refine (awake15_any _ HT3.out).mono ?_
      rintro e w4 ⟨rfl, hb4⟩
      have HB4 := Lib.hid (HB3.out.trans (hb4.mono HB3.out.size))
      clear hb4
      go_wp2_with fail
      go_ret
      exact ⟨rfl, HB4.out⟩
  · rw [decide_eq_false h6] at HF1
    go_wp2_with fail
    refine (HF1 _).mono ?_
    rintro e w2 ⟨rfl, hb2⟩
    have HB2 := Lib.hid (HBX.out.trans (hb2.mono HBX.out.size))
    have HT2 := Lib.hid (HTX.out.below hb2)
    clear z0 z1 z2 z3 z4 z5 z6 z7 z8 y0 y1 y2 y3 y4 y5 y6 y7 y8 hb2
    go_wp2_with fail
    refine (awake15_any _ HT2.out).mono ?_
    rintro e w4 ⟨rfl, hb4⟩
    have HB4 := Lib.hid (HB2.out.trans (hb4.mono HB2.out.size))
    clear hb4
    go_wp2_with fail
    go_ret
    exact ⟨rfl, HB4.out⟩
end Go.Proofs.YtckbplhplpnhaaaDoor
