/-
  The laws' own awake, and the walk over the law StubReads.
  The walk over the law StubReads.
  Rows of stubs that came in as an argument: what their reading says. Nothing is proved of the program here.
-/
import Derived.Test.YtgfpoglbphceaaaGreatDoorM34
import Derived.Test.YtgfpoglbphceaaaGreatDoorM26
import Derived.Test.YtgfpoglbphceaaaGreatDoorM23
namespace Go.Proofs.YtgfpoglbphceaaaGreatDoor
set_option linter.unusedVariables false
open Go.ChangeShapes Go.WideShapes Go.ChangeAt Go.RowKit

theorem inT_of {s : SC} (h : FormS s) : InT s := by
  intro t ht
  have h1 := h.1
  unfold formS at h1
  simp only [Bool.and_eq_true] at h1
  obtain ⟨i, hi⟩ := List.getElem?_of_mem ht
  have h2 : formT s.ms.length s.ts = true := by
    exact h1.2.2.2.2
  have h3 := allA_iff.1 h2 i t hi
  unfold goodT at h3
  simp only [Bool.and_eq_true] at h3
  have h4 := h3.2.2.2.2
  unfold inB at h4
  simp only [decide_eq_true_iff] at h4
  omega
set_option maxRecDepth 20000 in
theorem rw_eqlP (x : Rw) (W : World) : (binOp .eql 55 (.agg #[.int .i64 x.id, .string (mkB x.sv), .string (mkB x.mt), .string (mkB x.inn), .string (mkB x.out)]) (.agg #[.int .i64 x.id, .string (mkB x.sv), .string (mkB x.mt), .string (mkB x.inn), .string (mkB x.out)])).run Tryz.prog W = .ok (.bool true) W := by
  have hu := Tryz.underlying55
  have h3 := Tryz.underlying3
  have h9 := Tryz.underlying9
  rw [run_eql_struct]
  have hs : Tryz.prog.stoodInHeld 55 = false := by kernel_rfl
  have hf : Tryz.prog.underlying 55 = some (.struct (Tryz.prog.fieldsOf 55)) := by kernel_rfl
  rw [show (10000 : Nat) = 9999 + 1 from rfl, run_equalIn_agg _ _ _ _ _ hf hs]
  simp [go_sem]
def tdS : TD := ⟨1, [115, 104, 111, 112], [103, 101, 116, 95, 105, 116, 101, 109], 0, 0⟩
def scS : SC := ⟨[⟨[65, 46, 66], []⟩], [], [tdS]⟩
theorem formSS : FormS scS := by
  refine ⟨by decide +kernel, fun i hi hr => ?_⟩
  have hno : ∀ x y, ¬ Goes scS.ms x y := by
    intro x y h
    unfold Goes at h
    obtain ⟨m, hm, f, hf, hk, _⟩ := h
    have hx : x = 0 := by
      have := (List.getElem?_eq_some_iff.1 hm).1
      simp [scS] at this; omega
    subst hx
    have e : m = ⟨[65, 46, 66], []⟩ := by simpa [scS] using hm.symm
    subst e
    cases hf
  unfold Ring at hr
  cases hr with
  | single h => exact hno _ _ h
  | tail _ h => exact hno _ _ h
theorem rowsSS : rowsL scS = [⟨1, [83, 104, 111, 112], [71, 101, 116, 73, 116, 101, 109], [65, 95, 66], [65, 95, 66]⟩] := by decide +kernel
theorem fitSS : FitS scS := by
  refine ⟨⟨by decide, by decide⟩, fun m hm => ?_, fun m hm => (by cases hm), ⟨by decide, fun t ht => ?_⟩⟩
  · have e : m = ⟨[65, 46, 66], []⟩ := by simpa [scS] using hm
    subst e
    exact ⟨by decide, ⟨by decide, fun f hf => (by cases hf)⟩⟩
  · have e : t = tdS := by simpa [scS] using ht
    subst e
    exact ⟨by decide, by decide⟩
theorem one_lst {α : Type} {a x : α} {j : Nat} (h : [a][j]? = some x) : j = 0 ∧ a = x := by
  have hj : j = 0 := by
    have := (List.getElem?_eq_some_iff.1 h).1
    simp at this; exact this
  subst hj
  exact ⟨rfl, by simpa using h⟩
set_option maxHeartbeats 4000000 in
set_option maxRecDepth 20000 in
theorem awake13_any (w : World) (hM : Mx w) :
    Calls Tryz.prog 8 #[] w fun e w' => e = .returned (.bool true) ∧ Below w.heap.size w w' := by
  obtain ⟨Y1, hY1, hC1, hb1, hs1⟩ := box_new w #[.string ⟨#[65, 46, 66]⟩, .slice none 0 0] 52
  obtain ⟨Y2, hY2, hC2, hb2, hs2⟩ := box_new Y1 #[.int .i64 1, .string ⟨#[115, 104, 111, 112]⟩, .string ⟨#[103, 101, 116, 95, 105, 116, 101, 109]⟩, .int .i64 0, .int .i64 0] 54
  have HY1 := Lib.hid hY1
  have HY2 := Lib.hid hY2
  have hB2 := hb1.trans (hb2.mono hb1.size)
  have hD1 := (hb2.block _ (by omega)).trans hC1
  rw [hs1] at hC2
  have hsz : w.heap.size + 2 = Y2.heap.size := by omega
  have hH : HeldSc Y2 (fun b => b < Y2.heap.size) (.slice (some ⟨w.heap.size, 0, none⟩) 1 1) (.slice none 0 0) (.slice (some ⟨w.heap.size + 1, 0, none⟩) 1 1) scS := by
    refine ⟨⟨_, _, rfl, Nat.le_refl _, .inr ⟨w.heap.size, 0, rfl, by show w.heap.size < Y2.heap.size; omega, fun j x hj => ?_⟩⟩, ⟨none, 0, rfl, Nat.le_refl _, .inl rfl⟩, ⟨_, _, rfl, Nat.le_refl _, .inr ⟨w.heap.size + 1, 0, rfl, by show w.heap.size + 1 < Y2.heap.size; omega, fun j x hj => ?_⟩⟩⟩
    · obtain ⟨rfl, rfl⟩ := one_lst hj
      exact ⟨none, 0, cell_at hD1 0 rfl, cell_at hD1 1 rfl, ⟨none, 0, rfl, Nat.le_refl _, .inl rfl⟩⟩
    · obtain ⟨rfl, rfl⟩ := one_lst hj
      intro i u hu
      simp only [World.cell?, hC2]
      simpa [tdrow, tdS, mkB] using hu
  have hR := rowsP_any (some ⟨w.heap.size, 0, none⟩) none (some ⟨w.heap.size + 1, 0, none⟩) 1 0 1 1 0 1 scS Y2 (hM.below hB2) rfl rfl rfl fitSS (fun h => inT_of h) hH
  have HB := Lib.hid hB2
  clear hY1 hY2 hC1 hb1 hs1 hC2 hb2 hs2 hB2 hD1 hH
  go_enter Tryz.func8, Tryz.ntmps8
  go_upto_region 1 with fail
  go_wp2_with fail
  rw [HY1.out, HY2.out]
  refine hR.mono ?_
  rintro e w1 ⟨v, l, rfl, hO, hl, -, hb⟩
  have hll := hl formSS
  subst hll
  rw [rowsSS] at hO
  have HB1 := Lib.hid (HB.out.trans (hb.mono HB.out.size))
  obtain ⟨ra, rc, rfl⟩ := own_slice hO
  have hrows := rowsIn_own rrow_len hO (fun _ => True) fun _ _ => trivial
  obtain ⟨g, o, c, hsl, _, hcells⟩ := rw_cells hrows (q := 0) rfl
  have hra : ra = some ⟨g, o, none⟩ := (Value.slice.inj hsl).1
  subst hra
  obtain ⟨e0, e1, e2, e3, e4⟩ := hcells w1 rfl
  clear hR hl hO hb hrows hsl hcells
  have f0 : w1.cell? ⟨g, o, none⟩ = some (.int .i64 1) := e0
  have f1 : w1.cell? ⟨g, o + 1, none⟩ = some (.string ⟨#[83, 104, 111, 112]⟩) := e1
  have f2 : w1.cell? ⟨g, o + 2, none⟩ = some (.string ⟨#[71, 101, 116, 73, 116, 101, 109]⟩) := e2
  have f3 : w1.cell? ⟨g, o + 3, none⟩ = some (.string ⟨#[65, 95, 66]⟩) := e3
  have f4 : w1.cell? ⟨g, o + 4, none⟩ = some (.string ⟨#[65, 95, 66]⟩) := e4
  have hq : ∀ W : World, (binOp .eql 55 (.agg #[.int .i64 1, .string ⟨#[83, 104, 111, 112]⟩, .string ⟨#[71, 101, 116, 73, 116, 101, 109]⟩, .string ⟨#[65, 95, 66]⟩, .string ⟨#[65, 95, 66]⟩]) (.agg #[.int .i64 1, .string ⟨#[83, 104, 111, 112]⟩, .string ⟨#[71, 101, 116, 73, 116, 101, 109]⟩, .string ⟨#[65, 95, 66]⟩, .string ⟨#[65, 95, 66]⟩])).run Tryz.prog W = .ok (.bool true) W := fun W => rw_eqlP ⟨1, [83, 104, 111, 112], [71, 101, 116, 73, 116, 101, 109], [65, 95, 66], [65, 95, 66]⟩ W
  clear e0 e1 e2 e3 e4
  simp only [List.length_cons, List.length_nil, Nat.zero_add]
  go_wp2_with fail
  go_ret
  exact ⟨rfl, HB1.out⟩
end Go.Proofs.YtgfpoglbphceaaaGreatDoor
namespace Go.Proofs.YtgfpoglbphceaaaGreatDoor
set_option linter.unusedVariables false
open Go.ChangeShapes Go.WideShapes Go.ChangeAt Go.RowKit

theorem rwP_in {w : World} {base T : Nat} {v : Value} {xs : List Rw} (h : OwnRw w base T v xs) : RowsIn w (fun b => b < w.heap.size) 5 rrow v xs := rowsIn_own rrow_len h _ fun b hv => (own_block h b hv).2
theorem rows_mv {w W : World} {v : Value} {xs : List Rw} (h : RowsIn w (fun b => b < w.heap.size) 5 rrow v xs) (hb : Below w.heap.size w W) : RowsIn W (fun b => b < W.heap.size) 5 rrow v xs :=
  (h.old fun b h => hb.block b h).more fun b h => by have hb' : b < w.heap.size := h; have := hb.size; omega
theorem readP_fit {t : List UInt8} {l : List Rw} (h : readP t = some l) (ht : t.length ≤ 1000000) : l.length ≤ 1000000 := by
  unfold readP at h
  cases hf : runSt stP [] (segs t.length t) with
  | none => rw [hf] at h; cases h
  | some l' =>
    rw [hf] at h
    simp only at h
    split at h
    · simp only [Option.some.injEq] at h
      subst h
      have := (foundP_right hf).2.2
      omega
    · cases h
end Go.Proofs.YtgfpoglbphceaaaGreatDoor
namespace Go.Proofs.YtgfpoglbphceaaaGreatDoor
set_option linter.unusedVariables false
open Go.ChangeShapes Go.WideShapes Go.ChangeAt Go.RowKit Go.Joins

def BigW (r : Rw) : Prop := (-9223372036854775808 ≤ r.id ∧ r.id ≤ 9223372036854775807) ∧ r.sv.length ≤ 140737488355328 ∧ r.mt.length ≤ 140737488355328 ∧ r.inn.length ≤ 140737488355328 ∧ r.out.length ≤ 140737488355328
theorem cIW : Tryz.prog.cellsOf 3 = 1 := by kernel_rfl
theorem cSW : Tryz.prog.cellsOf 9 = 1 := by kernel_rfl
theorem bd_i64W {a : Int} (w : (Lit.int .i64 a).wf = true) : -9223372036854775808 ≤ a ∧ a ≤ 9223372036854775807 := by
  simpa [Lit.wf, IntKind.min, IntKind.max, IntKind.bits, IntKind.signed] using w
set_option maxRecDepth 100000 in
theorem rw_of_trod {H : Type} {enc : TypeId × Value → H} {W : World} {fuel : Nat} {cs : List Value} {y : DataW H × List MemPlace} (h : DataW.trod enc Tryz.prog W 0 (fun _ => true) true fuel 47 cs = some y) (hw : Wok2 y.1 47) :
    ∃ x : Rw, cs = rrow x ∧ BigW x := by
  obtain ⟨y0, y1, y2, y3, y4, n, _, hl, ⟨h0, w0⟩, ⟨h1, w1⟩, ⟨h2, w2⟩, ⟨h3, w3⟩, ⟨h4, w4⟩⟩ := trodS5 Tryz.underlying47 h hw
  rw [show Tryz.prog.cellsOf 47 = 5 by kernel_rfl] at hl
  match cs, hl with
  | [c0, c1, c2, c3, c4], _ =>
    dsimp only at h0 h1 h2 h3 h4
    simp only [cIW, cSW, List.drop_zero, List.drop_succ_cons, List.take_succ_cons, List.take_zero] at h0 h1 h2 h3 h4
    obtain ⟨a, e0, _, r0⟩ := DataW.trod_int Tryz.underlying3 h0
    obtain ⟨l1, e1, g1⟩ := str_of_trod h1 w1
    obtain ⟨l2, e2, g2⟩ := str_of_trod h2 w2
    obtain ⟨l3, e3, g3⟩ := str_of_trod h3 w3
    obtain ⟨l4, e4, g4⟩ := str_of_trod h4 w4
    simp only [List.cons.injEq, and_true] at e0 e1 e2 e3 e4
    subst e0 e1 e2 e3 e4
    exact ⟨⟨a, l1, l2, l3, l4⟩, rfl, bd_i64W r0, g1, g2, g3, g4⟩
set_option maxRecDepth 100000 in
/-- rows that were handed in -/
theorem open_rows {H : Type} {enc : TypeId × Value → H} {W : World} {r : Reach} {b0 : Nat} {v : Value} {d : DataW H} {p : List MemPlace}
    (hv : Value.okWide Tryz.prog W r b0 33 v) (h : DataW.Trod enc Tryz.prog W 0 (fun _ => true) true 33 v d p) (hw : Wok2 d 33) :
    ∃ (a : Option Addr) (c : Nat) (xs : List Rw), v = .slice a xs.length c ∧ RowsIn W (fun b => b < W.heap.size) 5 rrow (.slice a xs.length c) xs ∧ xs.length ≤ 140737488355328 ∧ ∀ x ∈ xs, BigW x := by
  obtain ⟨a0, len, cap, rfl⟩ := okWide_slice Tryz.underlying33 hv
  obtain ⟨fuel, hf⟩ := h
  obtain ⟨v1, xs, e, hR, hlen, hfit⟩ := slice_rows 33 47 5 rrow BigW Tryz.underlying33 (by kernel_rfl) (by omega) (fun _ => rfl) (by rw [show Tryz.prog.bytesOf 47 = 72 by kernel_rfl]; omega) (fun n hn cs y hq hwq => rw_of_trod hq hwq) hf hw
  have e2 : Value.slice a0 len cap = v1 := by simpa [Value.cells] using e
  subst e2
  obtain ⟨ad, c, hv2, h3, h4⟩ := hR
  exact ⟨ad, c, xs, hv2, ⟨ad, c, rfl, h3, h4⟩, hlen, hfit⟩
end Go.Proofs.YtgfpoglbphceaaaGreatDoor
