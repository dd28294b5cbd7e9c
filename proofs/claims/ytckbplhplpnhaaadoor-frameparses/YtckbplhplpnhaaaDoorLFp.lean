/-
  The walk over the law FrameParses.
-/
import Derived.Test.YtckbplhplpnhaaaDoorLFa
namespace Go.Proofs.YtckbplhplpnhaaaDoor
set_option linter.unusedVariables false
open Go.ChangeShapes Go.WideShapes Go.ChangeAt Go.RowKit

set_option maxHeartbeats 8000000 in
set_option maxRecDepth 20000 in
theorem frameParses_any (a : Option Addr) (len cap : Nat) (zs : List Int) (w : World) (hT : Shf w) (hB : SlB w a len cap zs) :
    Calls Tryd.prog 4 #[.slice a len cap] w fun e w' => e = .returned (.bool true) ∧ Below w.heap.size w w' := by
  have HT := Lib.hid hT
  have HB := Lib.hid hB
  clear hT hB
  go_enter Tryd.func4, Tryd.ntmps4
  go_wp2_with fail
  refine (awake15_any _ HT.out).mono ?_
  rintro e w1 ⟨rfl, hb1⟩
  have HB1 := Lib.hid hb1
  have HT1 := Lib.hid (HT.out.below hb1)
  have HS1 := Lib.hid (slB_old HB.out hb1)
  clear hb1
  by_cases h6 : (6000 : Int) < (len : Int)
  · go_wp2_with fail
    refine (awake15_any _ HT1.out).mono ?_
    rintro e w2 ⟨rfl, hb2⟩
    have HB2 := Lib.hid (HB1.out.trans (hb2.mono HB1.out.size))
    clear hb2
    go_wp2_with fail
    go_ret
    exact ⟨rfl, HB2.out⟩
  · have d6 : decide ((6000 : Int) < (len : Int)) = false := decide_eq_false h6
    clear h6
    go_wp2_with fail
    refine (parse_any a len cap zs w1 HT1.out HS1.out).mono ?_
    rintro e w2 ⟨hans, hb2⟩
    obtain ⟨f, af, cf, E, rfl, hsf, hpb⟩ := parse_form hans
    have hb12 := HB1.out.trans (hb2.mono HB1.out.size)
    have hb3 := hb12.alloc hb12.size (.cells #[.int .i64 f.kind, .int .i64 f.client, .int .u64 f.token, .int .i64 f.attempt, .int .u64 f.floor, .int .i64 f.method, .int .i64 f.deadline, .int .i64 f.status, .slice af f.pay.length cf] 25)
    have hn3 : Below w2.heap.size w2 (w2.alloc (.cells #[.int .i64 f.kind, .int .i64 f.client, .int .u64 f.token, .int .i64 f.attempt, .int .u64 f.floor, .int .i64 f.method, .int .i64 f.deadline, .int .i64 f.status, .slice af f.pay.length cf] 25)) := (Below.refl _ _).alloc (Nat.le_refl _) _
    have ha3 := alloc_heapF w2 (.cells #[.int .i64 f.kind, .int .i64 f.client, .int .u64 f.token, .int .i64 f.attempt, .int .u64 f.floor, .int .i64 f.method, .int .i64 f.deadline, .int .i64 f.status, .slice af f.pay.length cf] 25)
    obtain ⟨k, cl, tk, at1, fl, me, dl, st, p⟩ := f
    dsimp only at hb3 hn3 ha3 hsf
    obtain ⟨W3, hW3⟩ : ∃ W3, w2.alloc (.cells #[.int .i64 k, .int .i64 cl, .int .u64 tk, .int .i64 at1, .int .u64 fl, .int .i64 me, .int .i64 dl, .int .i64 st, .slice af p.length cf] 25) = W3 := ⟨_, rfl⟩
    have hs3 : w2.heap.size < W3.heap.size := by rw [← hW3, World.size_alloc]; omega
    rw [hW3] at hb3 hn3 ha3
    have HB3 := Lib.hid hb3
    have HA3 := Lib.hid ha3
    have HS3 := Lib.hid (slB_old hsf hn3)
    have HP := Lib.hid hpb
    have HQ := Lib.hid (parseR_any a len cap zs W3 (slB_old HB.out hb3))
    clear hans hb2 hb12 hb3 hn3 ha3 hsf hpb
    dsimp only
    go_wp2_with fail
    refine HQ.out.mono ?_
    rintro e w4 ⟨hans, hb4⟩
    obtain ⟨g, ag, cg, E2, rfl, hsg, hpb2⟩ := parse_form hans
    obtain ⟨rfl, rfl⟩ := HP.out.one hpb2
    dsimp only at hsg ⊢
    clear hW3 HQ hans hpb2
    have ha4 : w4.heap[w2.heap.size]? = some (.cells #[.int .i64 k, .int .i64 cl, .int .u64 tk, .int .i64 at1, .int .u64 fl, .int .i64 me, .int .i64 dl, .int .i64 st, .slice af p.length cf] 25 (0, 0)) := by rw [hb4.block _ hs3]; exact HA3.out
    have hb34 := HB3.out.trans (hb4.mono (by have := HB3.out.size; omega))
    have hs4 : w2.heap.size < w4.heap.size := by have := hb4.size; omega
    have hsf4 := slB_old HS3.out hb4
    have hb5 := hb34.alloc hb34.size (.cells #[.int .i64 k, .int .i64 cl, .int .u64 tk, .int .i64 at1, .int .u64 fl, .int .i64 me, .int .i64 dl, .int .i64 st, .slice ag p.length cg] 25)
    have hn5 : Below w4.heap.size w4 (w4.alloc (.cells #[.int .i64 k, .int .i64 cl, .int .u64 tk, .int .i64 at1, .int .u64 fl, .int .i64 me, .int .i64 dl, .int .i64 st, .slice ag p.length cg] 25)) := (Below.refl _ _).alloc (Nat.le_refl _) _
    have ha5 := alloc_heapF w4 (.cells #[.int .i64 k, .int .i64 cl, .int .u64 tk, .int .i64 at1, .int .u64 fl, .int .i64 me, .int .i64 dl, .int .i64 st, .slice ag p.length cg] 25)
    have ha5f : (w4.alloc (.cells #[.int .i64 k, .int .i64 cl, .int .u64 tk, .int .i64 at1, .int .u64 fl, .int .i64 me, .int .i64 dl, .int .i64 st, .slice ag p.length cg] 25)).heap[w2.heap.size]? = some (.cells #[.int .i64 k, .int .i64 cl, .int .u64 tk, .int .i64 at1, .int .u64 fl, .int .i64 me, .int .i64 dl, .int .i64 st, .slice af p.length cf] 25 (0, 0)) := by rw [Below.heap_alloc _ _ _ hs4]; exact ha4
    obtain ⟨W5, hW5⟩ : ∃ W5, w4.alloc (.cells #[.int .i64 k, .int .i64 cl, .int .u64 tk, .int .i64 at1, .int .u64 fl, .int .i64 me, .int .i64 dl, .int .i64 st, .slice ag p.length cg] 25) = W5 := ⟨_, rfl⟩
    rw [hW5] at hb5 hn5 ha5 ha5f
    obtain ⟨⟨z0, z1, z2, z3, z4, z5, z6, z7, z8⟩, _⟩ := cells9 ha5f
    obtain ⟨⟨y0, y1, y2, y3, y4, y5, y6, y7, y8⟩, _⟩ := cells9 ha5
    have HB5 := Lib.hid hb5
    have HQ := Lib.hid (sameFR_any k cl tk at1 fl me dl st k cl tk at1 fl me dl st af ag p.length cf p.length cg p p W5 (slB_old hsf4 hn5) (slB_old hsg hn5))
    rw [sameF_refl] at HQ
    clear hb4 ha4 hb34 hsf4 hb5 hn5 ha5 ha5f hsg
    go_wp2_with fail
    refine HQ.out.mono ?_
    rintro e w6 ⟨rfl, hb6⟩
    have HB6 := Lib.hid (HB5.out.trans (hb6.mono (by have := HB5.out.size; omega)))
    clear hb6 HQ z0 z1 z2 z3 z4 z5 z6 z7 z8 y0 y1 y2 y3 y4 y5 y6 y7 y8 hW5
    go_wp2_with fail
    go_ret
    exact ⟨rfl, HB6.out⟩
end Go.Proofs.YtckbplhplpnhaaaDoor
