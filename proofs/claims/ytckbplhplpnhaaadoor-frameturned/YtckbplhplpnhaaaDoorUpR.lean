/-
  A frame that came in as an argument: what its reading says. Nothing is proved of the program here.
-/
import Derived.Test.YtckbplhplpnhaaaDoorFrG
import Derived.Test.YtckbplhplpnhaaaDoorUpD
namespace Go.Proofs.YtckbplhplpnhaaaDoor
set_option linter.unusedVariables false
open Go.ChangeShapes Go.WideShapes Go.ChangeAt Go.RowKit Go.Joins

set_option maxRecDepth 100000 in
theorem trodN9 {H : Type} {enc : TypeId × Value → H} {W : World} {t : TypeId} {f0 f1 f2 f3 f4 f5 f6 f7 f8 : Field} {fuel : Nat} {cs : List Value} {y : DataW H × List MemPlace} (ht : Tryd.prog.underlying t = some (.struct #[f0, f1, f2, f3, f4, f5, f6, f7, f8])) (h : DataW.trod enc Tryd.prog W 0 (fun _ => true) true fuel t cs = some y) (hw : Wok2 y.1 t) :
    ∃ (y0 y1 y2 y3 y4 y5 y6 y7 y8 : DataW H × List MemPlace) (n : Nat), fuel = n + 1 ∧ cs.length = Tryd.prog.cellsOf t ∧ (DataW.trod enc Tryd.prog W 0 (fun _ => true) true n f0.type ((cs.drop f0.offset).take (Tryd.prog.cellsOf f0.type)) = some y0 ∧ Wok2 y0.1 f0.type) ∧ (DataW.trod enc Tryd.prog W 0 (fun _ => true) true n f1.type ((cs.drop f1.offset).take (Tryd.prog.cellsOf f1.type)) = some y1 ∧ Wok2 y1.1 f1.type) ∧ (DataW.trod enc Tryd.prog W 0 (fun _ => true) true n f2.type ((cs.drop f2.offset).take (Tryd.prog.cellsOf f2.type)) = some y2 ∧ Wok2 y2.1 f2.type) ∧ (DataW.trod enc Tryd.prog W 0 (fun _ => true) true n f3.type ((cs.drop f3.offset).take (Tryd.prog.cellsOf f3.type)) = some y3 ∧ Wok2 y3.1 f3.type) ∧ (DataW.trod enc Tryd.prog W 0 (fun _ => true) true n f4.type ((cs.drop f4.offset).take (Tryd.prog.cellsOf f4.type)) = some y4 ∧ Wok2 y4.1 f4.type) ∧ (DataW.trod enc Tryd.prog W 0 (fun _ => true) true n f5.type ((cs.drop f5.offset).take (Tryd.prog.cellsOf f5.type)) = some y5 ∧ Wok2 y5.1 f5.type) ∧ (DataW.trod enc Tryd.prog W 0 (fun _ => true) true n f6.type ((cs.drop f6.offset).take (Tryd.prog.cellsOf f6.type)) = some y6 ∧ Wok2 y6.1 f6.type) ∧ (DataW.trod enc Tryd.prog W 0 (fun _ => true) true n f7.type ((cs.drop f7.offset).take (Tryd.prog.cellsOf f7.type)) = some y7 ∧ Wok2 y7.1 f7.type) ∧ (DataW.trod enc Tryd.prog W 0 (fun _ => true) true n f8.type ((cs.drop f8.offset).take (Tryd.prog.cellsOf f8.type)) = some y8 ∧ Wok2 y8.1 f8.type) := by
  obtain ⟨xs, n, hn, rfl, hl, hlen, hf⟩ := DataW.trod_struct ht h
  match xs, hlen with
  | [y0, y1, y2, y3, y4, y5, y6, y7, y8], _ => exact ⟨y0, y1, y2, y3, y4, y5, y6, y7, y8, n, hn, hl, ⟨by simpa using hf 0 f0 rfl, wok_struct ht hw 0 f0 y0.1 rfl rfl⟩, ⟨by simpa using hf 1 f1 rfl, wok_struct ht hw 1 f1 y1.1 rfl rfl⟩, ⟨by simpa using hf 2 f2 rfl, wok_struct ht hw 2 f2 y2.1 rfl rfl⟩, ⟨by simpa using hf 3 f3 rfl, wok_struct ht hw 3 f3 y3.1 rfl rfl⟩, ⟨by simpa using hf 4 f4 rfl, wok_struct ht hw 4 f4 y4.1 rfl rfl⟩, ⟨by simpa using hf 5 f5 rfl, wok_struct ht hw 5 f5 y5.1 rfl rfl⟩, ⟨by simpa using hf 6 f6 rfl, wok_struct ht hw 6 f6 y6.1 rfl rfl⟩, ⟨by simpa using hf 7 f7 rfl, wok_struct ht hw 7 f7 y7.1 rfl rfl⟩, ⟨by simpa using hf 8 f8 rfl, wok_struct ht hw 8 f8 y8.1 rfl rfl⟩⟩
theorem cUR : Tryd.prog.cellsOf 22 = 1 := by kernel_rfl
theorem cIR : Tryd.prog.cellsOf 3 = 1 := by kernel_rfl
theorem cLR : Tryd.prog.cellsOf 2 = 1 := by kernel_rfl
theorem cBR : Tryd.prog.cellsOf 23 = 1 := by kernel_rfl
set_option maxRecDepth 100000 in
theorem sl_of_trod {H : Type} {enc : TypeId × Value → H} {W : World} {fuel : Nat} {cs : List Value} {y : DataW H × List MemPlace} (h : DataW.trod enc Tryd.prog W 0 (fun _ => true) true fuel 23 cs = some y) (hw : Wok2 y.1 23) :
    ∃ a c zs, cs = [.slice a (zs : List Int).length c] ∧ SlB W a zs.length c zs := by
  obtain ⟨v, zs, rfl, ⟨ad, c, rfl, hlc, hr⟩, hlen, hfit⟩ := slice_rows (α := Int) 23 5 1 (fun z => [.int .u8 z]) (fun z => 0 ≤ z ∧ z ≤ 255) Tryd.underlying23 (by kernel_rfl) (by omega) (fun _ => rfl) (by rw [show Tryd.prog.bytesOf 5 = 1 by kernel_rfl]; omega) (fun n hn cs y hq hwq => by
    obtain ⟨z, e, _, hz⟩ := DataW.trod_int Tryd.underlying5 hq
    exact ⟨z, e, bd_u8 hz⟩) h hw
  have hno : (ad = none → zs.length = 0 ∧ c = 0) ∧ c ≤ 9223372036854775807 := by
    rcases DataW.trod_slice Tryd.underlying23 h with ⟨hcs, _⟩ | ⟨x, l, c', elems, rest, m, _, hcs, _, _, hl, hmx, _⟩
    · simp only [List.cons.injEq, and_true] at hcs
      obtain ⟨h1, h2, h3⟩ := Value.slice.inj hcs
      exact ⟨fun _ => ⟨h2, h3⟩, by omega⟩
    · simp only [List.cons.injEq, and_true] at hcs
      obtain ⟨h1, h2, h3⟩ := Value.slice.inj hcs
      exact ⟨(fun h => by rw [h] at h1; cases h1), by unfold maxLen at hmx; omega⟩
  refine ⟨ad, c, zs, rfl, ⟨rfl, by omega, ?_⟩, hlc, hno.1⟩
  rcases hr with hr | ⟨g, o, ha, hg, hrow⟩
  · exact .inl hr
  · refine .inr ⟨g, o, ha, fun j z hj => ?_, hfit⟩
    have := hrow j z hj 0 _ rfl
    simpa using this
set_option maxRecDepth 100000 in
/-- a frame that was handed in -/
theorem open_frame {H : Type} {enc : TypeId × Value → H} {W : World} {r : Reach} {b0 : Nat} {v : Value} {d : DataW H} {p : List MemPlace}
    (hv : Value.okWide Tryd.prog W r b0 25 v) (h : DataW.Trod enc Tryd.prog W 0 (fun _ => true) true 25 v d p) (hw : Wok2 d 25) :
    ∃ (f : Fr) (a : Option Addr) (c : Nat), v = .agg #[.int .i64 f.kind, .int .i64 f.client, .int .u64 f.token, .int .i64 f.attempt, .int .u64 f.floor, .int .i64 f.method, .int .i64 f.deadline, .int .i64 f.status, .slice a f.pay.length c] ∧ SlB W a f.pay.length c f.pay ∧ RngF f := by
  obtain ⟨xs, rfl, hsz⟩ := okWide_struct Tryd.underlying25 hv
  obtain ⟨fuel, hf⟩ := h
  obtain ⟨y0, y1, y2, y3, y4, y5, y6, y7, y8, m, hm, hl, ⟨h0, w0⟩, ⟨h1, w1⟩, ⟨h2, w2⟩, ⟨h3, w3⟩, ⟨h4, w4⟩, ⟨h5, w5⟩, ⟨h6, w6⟩, ⟨h7, w7⟩, ⟨h8, w8⟩⟩ := trodN9 Tryd.underlying25 hf hw
  rw [show Tryd.prog.cellsOf 25 = 9 by kernel_rfl] at hl
  obtain ⟨l⟩ := xs
  simp only [Value.cells] at hl h0 h1 h2 h3 h4 h5 h6 h7 h8
  match l, hl with
  | [c0, c1, c2, c3, c4, c5, c6, c7, c8], _ =>
    simp only [cIR, cUR, cLR, cBR, List.drop_zero, List.drop_succ_cons, List.take_succ_cons, List.take_zero] at h0 h1 h2 h3 h4 h5 h6 h7 h8
    obtain ⟨z0, e0, _, r0⟩ := DataW.trod_int Tryd.underlying3 h0
    obtain ⟨z1, e1, _, r1⟩ := DataW.trod_int Tryd.underlying3 h1
    obtain ⟨z2, e2, _, r2⟩ := DataW.trod_int Tryd.underlying22 h2
    obtain ⟨z3, e3, _, r3⟩ := DataW.trod_int Tryd.underlying3 h3
    obtain ⟨z4, e4, _, r4⟩ := DataW.trod_int Tryd.underlying22 h4
    obtain ⟨z5, e5, _, r5⟩ := DataW.trod_int Tryd.underlying3 h5
    obtain ⟨z6, e6, _, r6⟩ := DataW.trod_int Tryd.underlying2 h6
    obtain ⟨z7, e7, _, r7⟩ := DataW.trod_int Tryd.underlying3 h7
    obtain ⟨a, c, zs, e8, hs⟩ := sl_of_trod h8 w8
    simp only [List.cons.injEq, and_true] at e0 e1 e2 e3 e4 e5 e6 e7 e8
    subst e0 e1 e2 e3 e4 e5 e6 e7 e8
    exact ⟨⟨z0, z1, z2, z3, z4, z5, z6, z7, zs⟩, a, c, rfl, hs, bd_i64 r0, bd_i64 r1, bd_u64 r2, bd_i64 r3, bd_u64 r4, bd_i64 r5, bd_i64 r6, bd_i64 r7, isB_bt hs.1⟩
end Go.Proofs.YtckbplhplpnhaaaDoor
