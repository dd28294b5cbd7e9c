/-
  The walk over the law FrameBack.
-/
import Derived.Test.YtckbplhplpnhaaaDoorLFa
namespace Go.Proofs.YtckbplhplpnhaaaDoor
set_option linter.unusedVariables false
open Go.ChangeShapes Go.WideShapes Go.ChangeAt Go.RowKit

set_option maxHeartbeats 8000000 in
set_option maxRecDepth 20000 in
theorem frameBack_any (k cl tk at1 fl me dl st : Int) (p : List Int) (a : Option Addr) (c : Nat) (w : World) (hT : Shf w) (hB : SlB w a p.length c p) (hr : RngF ⟨k, cl, tk, at1, fl, me, dl, st, p⟩) :
    Calls Tryd.prog 5 #[.agg #[.int .i64 k, .int .i64 cl, .int .u64 tk, .int .i64 at1, .int .u64 fl, .int .i64 me, .int .i64 dl, .int .i64 st, .slice a p.length c]] w fun e w' => e = .returned (.bool true) ∧ Below w.heap.size w w' := by
  have hb0 : Below w.heap.size w (w.alloc (.cells #[.int .i64 k, .int .i64 cl, .int .u64 tk, .int .i64 at1, .int .u64 fl, .int .i64 me, .int .i64 dl, .int .i64 st, .slice a p.length c] 25)) := (Below.refl _ _).alloc (Nat.le_refl _) _
  have ha0 := alloc_heapF w (.cells #[.int .i64 k, .int .i64 cl, .int .u64 tk, .int .i64 at1, .int .u64 fl, .int .i64 me, .int .i64 dl, .int .i64 st, .slice a p.length c] 25)
  obtain ⟨W0, hW0⟩ : ∃ W0, w.alloc (.cells #[.int .i64 k, .int .i64 cl, .int .u64 tk, .int .i64 at1, .int .u64 fl, .int .i64 me, .int .i64 dl, .int .i64 st, .slice a p.length c] 25) = W0 := ⟨_, rfl⟩
  have hs0 : w.heap.size < W0.heap.size := by rw [← hW0, World.size_alloc]; omega
  rw [hW0] at hb0 ha0
  have HB0 := Lib.hid hb0
  have HA0 := Lib.hid ha0
  have HT0 := Lib.hid (hT.below hb0)
  have HS := Lib.hid (slB_old hB hb0)
  obtain ⟨⟨z0, z1, z2, z3, z4, z5, z6, z7, z8⟩, _⟩ := cells9 ha0
  have HRG := Lib.hid hr
  obtain ⟨n, hn⟩ : ∃ n, p.length = n := ⟨_, rfl⟩
  have HN := Lib.hid hn
  clear hb0 ha0 hT hB hr
  rw [hn] at HS HA0 z8 hW0 ⊢
  clear hn
  go_enter Tryd.func5, Tryd.ntmps5
  go_wp2_with fail
  refine (awake15_any _ HT0.out).mono ?_
  rintro e w1 ⟨rfl, hb1⟩
  have hc0 : w1.heap[w.heap.size]? = _ := (hb1.block _ hs0).trans HA0.out
  have HBX := Lib.hid (HB0.out.trans (hb1.mono HB0.out.size))
  have HTX := Lib.hid (HT0.out.below hb1)
  have HSX := Lib.hid (slB_old HS.out hb1)
  have hs1 : w.heap.size < w1.heap.size := by have := hb1.size; omega
  clear z0 z1 z2 z3 z4 z5 z6 z7 z8 hW0
  obtain ⟨⟨z0, z1, z2, z3, z4, z5, z6, z7, z8⟩, _⟩ := cells9 hc0
  have HC0 := Lib.hid hc0
  clear hc0 hb1 HA0 HT0 HS HB0
  have HF1 := fun wx => few15_any k cl tk at1 fl me dl st n a c wx
  by_cases h6 : n ≤ 6000
  case neg =>
    rw [decide_eq_false h6] at HF1
    go_wp2_with fail
    refine (HF1 _).mono ?_
    rintro e w2 ⟨rfl, hb2⟩
    have HB2 := Lib.hid (HBX.out.trans (hb2.mono HBX.out.size))
    have HT2 := Lib.hid (HTX.out.below hb2)
    clear z0 z1 z2 z3 z4 z5 z6 z7 z8 hb2
    go_wp2_with fail
    refine (awake15_any _ HT2.out).mono ?_
    rintro e w4 ⟨rfl, hb4⟩
    have HB4 := Lib.hid (HB2.out.trans (hb4.mono HB2.out.size))
    clear hb4
    go_wp2_with fail
    go_ret
    exact ⟨rfl, HB4.out⟩
  rw [decide_eq_true h6] at HF1
  go_wp2_with fail
  refine (HF1 _).mono ?_
  rintro e w2 ⟨rfl, hb2⟩
  have hd0 : w2.heap[w.heap.size]? = _ := (hb2.block _ hs1).trans HC0.out
  have HB2 := Lib.hid (HBX.out.trans (hb2.mono HBX.out.size))
  have HT2 := Lib.hid (HTX.out.below hb2)
  have hsb2 := slB_old HSX.out hb2
  have HS2 := Lib.hid hsb2
  have hs2 : w.heap.size < w2.heap.size := by have := hb2.size; omega
  clear z0 z1 z2 z3 z4 z5 z6 z7 z8
  obtain ⟨⟨z0, z1, z2, z3, z4, z5, z6, z7, z8⟩, _⟩ := cells9 hd0
  have HD0 := Lib.hid hd0
  have HBU := Lib.hid (build_any k cl tk at1 fl me dl st p a c w2 HT2.out HRG.out (by rw [HN.out]; exact hsb2.1) (by rw [HN.out]; exact hsb2.2.2))
  rw [HN.out] at HBU
  clear hd0 hb2 HC0 HTX HSX HBX HF1 hsb2
  go_wp2_with fail
  refine HBU.out.mono ?_
  rintro e w3 ⟨hans, hb3⟩
  obtain ⟨v3, rfl, how3⟩ := build_form HRG.out hans
  obtain ⟨a3, c3, rfl, hs3⟩ := bld_slB HRG.out how3
  have hd3 : w3.heap[w.heap.size]? = _ := (hb3.block _ hs2).trans HD0.out
  have HB3 := Lib.hid (HB2.out.trans (hb3.mono HB2.out.size))
  have HT3 := Lib.hid (HT2.out.below hb3)
  have HS3 := Lib.hid (slB_old HS2.out hb3)
  have HX3 := Lib.hid hs3
  have HO3 := Lib.hid how3
  have hs23 : w.heap.size < w3.heap.size := by have := hb3.size; omega
  clear z0 z1 z2 z3 z4 z5 z6 z7 z8
  obtain ⟨⟨z0, z1, z2, z3, z4, z5, z6, z7, z8⟩, _⟩ := cells9 hd3
  have HD3 := Lib.hid hd3
  clear hd3 hb3 hans how3 hs3 HBU HD0 HT2 HS2 HB2
  obtain ⟨F, hF⟩ : ∃ F : Fr, (⟨k, cl, tk, at1, fl, me, dl, st, p⟩ : Fr) = F := ⟨_, rfl⟩
  have HFF := Lib.hid hF
  rw [hF] at HX3 HO3 HRG ⊢
  clear hF
  obtain ⟨n3, hn3⟩ : ∃ n3, (bldX F).length = n3 := ⟨_, rfl⟩
  have HN3 := Lib.hid hn3
  rw [hn3] at HX3 ⊢
  clear hn3
  cases hok : okF F with
  | false =>
    have hE : bldE F = 1 := by unfold bldE; rw [hok]; rfl
    have hX : n3 = 0 := by rw [← HN3.out]; unfold bldX; rw [hok]; rfl
    rw [hE]
    subst hX
    clear hok hE
    go_wp2_with fail
    go_ret
    exact ⟨rfl, HB3.out⟩
  | true =>
    have hE : bldE F = 0 := by unfold bldE; rw [hok]; rfl
    have hX : bldX F = bytesF F := by unfold bldX; rw [hok]; rfl
    have hIS : IsF F (bldX F) := ⟨hok, HRG.out.2.2.1.2, hX.symm⟩
    rw [hE]
    have HIS := Lib.hid hIS
    have HPA := Lib.hid (parse_any a3 n3 c3 (bldX F) w3 HT3.out HX3.out)
    clear hok hE hX hIS
    go_wp2_with fail
    refine HPA.out.mono ?_
    rintro e w4 ⟨hans, hb4⟩
    obtain ⟨f, ag, cg, E, rfl, hsg, hpb⟩ := parse_form hans
    obtain ⟨rfl, rfl⟩ := hpb.one (.inl ⟨HIS.out, rfl⟩)
    have hd4 : w4.heap[w.heap.size]? = _ := (hb4.block _ hs23).trans HD3.out
    have hs24 : w.heap.size < w4.heap.size := by have := hb4.size; omega
    have hb5 := (HB3.out.trans (hb4.mono HB3.out.size)).alloc (HB3.out.trans (hb4.mono HB3.out.size)).size (.cells #[.int .i64 f.kind, .int .i64 f.client, .int .u64 f.token, .int .i64 f.attempt, .int .u64 f.floor, .int .i64 f.method, .int .i64 f.deadline, .int .i64 f.status, .slice ag f.pay.length cg] 25)
    have hn5 : Below w4.heap.size w4 (w4.alloc (.cells #[.int .i64 f.kind, .int .i64 f.client, .int .u64 f.token, .int .i64 f.attempt, .int .u64 f.floor, .int .i64 f.method, .int .i64 f.deadline, .int .i64 f.status, .slice ag f.pay.length cg] 25)) := (Below.refl _ _).alloc (Nat.le_refl _) _
    have ha5 := alloc_heapF w4 (.cells #[.int .i64 f.kind, .int .i64 f.client, .int .u64 f.token, .int .i64 f.attempt, .int .u64 f.floor, .int .i64 f.method, .int .i64 f.deadline, .int .i64 f.status, .slice ag f.pay.length cg] 25)
    have hd5 : (w4.alloc (.cells #[.int .i64 f.kind, .int .i64 f.client, .int .u64 f.token, .int .i64 f.attempt, .int .u64 f.floor, .int .i64 f.method, .int .i64 f.deadline, .int .i64 f.status, .slice ag f.pay.length cg] 25)).heap[w.heap.size]? = _ := (Below.heap_alloc _ _ _ hs24).trans hd4
    have hs5 := slB_old (slB_old HS3.out hb4) hn5
    have hsg5 := slB_old hsg hn5
    have hFF := HFF.out
    subst hFF
    dsimp only at hb5 hn5 ha5 hd5 hs5 hsg5 ⊢
    rw [HN.out] at hb5 hn5 ha5 hd5 hs5 hsg5 ⊢
    obtain ⟨W5, hW5⟩ : ∃ W5, w4.alloc (.cells #[.int .i64 k, .int .i64 cl, .int .u64 tk, .int .i64 at1, .int .u64 fl, .int .i64 me, .int .i64 dl, .int .i64 st, .slice ag n cg] 25) = W5 := ⟨_, rfl⟩
    have hs45 : w4.heap.size < W5.heap.size := by rw [← hW5, World.size_alloc]; omega
    rw [hW5] at hb5 hn5 ha5 hd5 hs5 hsg5
    clear z0 z1 z2 z3 z4 z5 z6 z7 z8
    obtain ⟨⟨z0, z1, z2, z3, z4, z5, z6, z7, z8⟩, _⟩ := cells9 hd5
    obtain ⟨⟨y0, y1, y2, y3, y4, y5, y6, y7, y8⟩, _⟩ := cells9 ha5
    have HB5 := Lib.hid hb5
    have HD5 := Lib.hid hd5
    have HA5 := Lib.hid ha5
    have HS5 := Lib.hid hs5
    have HSG5 := Lib.hid hsg5
    have HQ := Lib.hid (sameFP_any k cl tk at1 fl me dl st k cl tk at1 fl me dl st ag a n cg n c p p W5 hsg5 hs5)
    rw [sameF_refl] at HQ
    clear hb4 hd4 hb5 hn5 ha5 hd5 hs5 hsg5 hsg hans hpb HPA HIS HX3 HO3
    go_wp2_with fail
    refine HQ.out.mono ?_
    rintro e w6 ⟨rfl, hb6⟩
    have hd6 : w6.heap[w.heap.size]? = _ := (hb6.block _ (by omega)).trans HD5.out
    have ha6 : w6.heap[w4.heap.size]? = _ := (hb6.block _ hs45).trans HA5.out
    clear z0 z1 z2 z3 z4 z5 z6 z7 z8 y0 y1 y2 y3 y4 y5 y6 y7 y8 hW5
    obtain ⟨⟨z0, z1, z2, z3, z4, z5, z6, z7, z8⟩, _⟩ := cells9 hd6
    obtain ⟨⟨y0, y1, y2, y3, y4, y5, y6, y7, y8⟩, _⟩ := cells9 ha6
    have HB6 := Lib.hid (HB5.out.trans (hb6.mono HB5.out.size))
    have HR := Lib.hid (sameFR_any k cl tk at1 fl me dl st k cl tk at1 fl me dl st ag a n cg n c p p w6 (slB_old HSG5.out hb6) (slB_old HS5.out hb6))
    rw [sameF_refl] at HR
    clear hb6 hd6 ha6 HQ
    go_wp2_with fail
    refine HR.out.mono ?_
    rintro e w7 ⟨rfl, hb7⟩
    have HB7 := Lib.hid (HB6.out.trans (hb7.mono HB6.out.size))
    clear hb7 HR z0 z1 z2 z3 z4 z5 z6 z7 z8 y0 y1 y2 y3 y4 y5 y6 y7 y8
    go_wp2_with fail
    go_ret
    exact ⟨rfl, HB7.out⟩
end Go.Proofs.YtckbplhplpnhaaaDoor
