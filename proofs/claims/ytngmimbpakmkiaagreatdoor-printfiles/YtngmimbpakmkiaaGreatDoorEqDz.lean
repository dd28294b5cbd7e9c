/-
  The walks over the program's own Same of declarations.
-/
import Derived.Test.YtngmimbpakmkiaaGreatDoorEqSz
import Derived.Deep.Cut
import Derived.Deep.DeepCutAuto
namespace Go.Proofs.YtngmimbpakmkiaaGreatDoor
set_option linter.unusedVariables false
open Go.ChangeShapes Go.WideShapes Go.ChangeAt Go.RowKit

theorem dcD_eq {a b : Dc} (h0 : a.kind = b.kind) (h1 : a.name = b.name) (h2 : a.line = b.line) (h3 : a.col = b.col) (h4 : a.fields = b.fields) (h5 : a.values = b.values) (h6 : a.methods = b.methods) (h7 : a.inner = b.inner) : a = b := by
  cases a; cases b; simp_all
theorem RowsIn.isSl {α : Type} {w : World} {S : Nat → Prop} {k : Nat} {row : α → List Value} {v : Value} {xs : List α} (h : RowsIn w S k row v xs) : ∃ ad c, v = .slice ad xs.length c := by
  obtain ⟨ad, c, hv, _⟩ := h; exact ⟨ad, c, hv⟩
theorem HeldD.isSlD {w : World} {S : Nat → Prop} : ∀ {f : Nat} {v : Value} {ds : List Dc}, HeldD f w S v ds → ∃ ad c, v = .slice ad ds.length c
  | 0, v, ds, ⟨h, ad, c, hv⟩ => by subst h; exact ⟨ad, c, hv⟩
  | f + 1, v, ds, h => by obtain ⟨ad, c, hv, _⟩ := h; exact ⟨ad, c, hv⟩
/-- what Same is to answer, so deep -/
def SameTo (f : Nat) : Prop := ∀ (ds1 ds2 : List Dc) (v1 v2 : Value) (W : World), FitD f ds1 → FitD f ds2 → HeldD f W (fun b => b < W.heap.size) v1 ds1 → HeldD f W (fun b => b < W.heap.size) v2 ds2 →
    Calls Tryz.prog 10 #[v1, v2] W fun e w' => QAns W ds1 ds2 e w'
def FitK (f : Nat) (d : Dc) : Prop := d.fields.length ≤ 100000 ∧ d.values.length ≤ 100000 ∧ d.methods.length ≤ 100000 ∧ FitD f d.inner
set_option maxHeartbeats 16000000 in
set_option maxRecDepth 20000 in
theorem sameDecl_any (f : Nat) (IH : SameTo f) (d1 d2 : Dc) (fs1 vs1 ms1 ins1 fs2 vs2 ms2 ins2 : Value) (w : World) (hf1 : FitK f d1) (hf2 : FitK f d2)
    (k1 : Kids f w (fun b => b < w.heap.size) fs1 vs1 ms1 ins1 d1) (k2 : Kids f w (fun b => b < w.heap.size) fs2 vs2 ms2 ins2 d2) :
    Calls Tryz.prog 24 #[.agg #[.int .i64 d1.kind, .string (mkB d1.name), .int .i64 d1.line, .int .i64 d1.col, fs1, vs1, ms1, ins1], .agg #[.int .i64 d2.kind, .string (mkB d2.name), .int .i64 d2.line, .int .i64 d2.col, fs2, vs2, ms2, ins2]] w fun e w' => ∃ b : Bool, e = .returned (.bool b) ∧ (b = true ↔ d1 = d2) ∧ Below w.heap.size w w' := by
  obtain ⟨r11, r12, r13, r14⟩ := k1
  obtain ⟨r21, r22, r23, r24⟩ := k2
  obtain ⟨fa1, fc1, rfl⟩ := r11.isSl
  obtain ⟨va1, vc1, rfl⟩ := r12.isSl
  obtain ⟨ma1, mc1, rfl⟩ := r13.isSl
  obtain ⟨ia1, ic1, rfl⟩ := r14.isSlD
  obtain ⟨fa2, fc2, rfl⟩ := r21.isSl
  obtain ⟨va2, vc2, rfl⟩ := r22.isSl
  obtain ⟨ma2, mc2, rfl⟩ := r23.isSl
  obtain ⟨ia2, ic2, rfl⟩ := r24.isSlD
  have HR1 := Lib.hid (And.intro r11 (And.intro r12 (And.intro r13 r14)))
  have HR2 := Lib.hid (And.intro r21 (And.intro r22 (And.intro r23 r24)))
  have hbV := ((Below.refl w.heap.size w).alloc (Nat.le_refl _) (.cells #[.int .i64 d1.kind, .string (mkB d1.name), .int .i64 d1.line, .int .i64 d1.col, .slice fa1 d1.fields.length fc1, .slice va1 d1.values.length vc1, .slice ma1 d1.methods.length mc1, .slice ia1 d1.inner.length ic1] 46)).alloc (by simp) (.cells #[.int .i64 d2.kind, .string (mkB d2.name), .int .i64 d2.line, .int .i64 d2.col, .slice fa2 d2.fields.length fc2, .slice va2 d2.values.length vc2, .slice ma2 d2.methods.length mc2, .slice ia2 d2.inner.length ic2] 46)
  have hV1 : ((w.alloc (.cells #[.int .i64 d1.kind, .string (mkB d1.name), .int .i64 d1.line, .int .i64 d1.col, .slice fa1 d1.fields.length fc1, .slice va1 d1.values.length vc1, .slice ma1 d1.methods.length mc1, .slice ia1 d1.inner.length ic1] 46)).alloc (.cells #[.int .i64 d2.kind, .string (mkB d2.name), .int .i64 d2.line, .int .i64 d2.col, .slice fa2 d2.fields.length fc2, .slice va2 d2.values.length vc2, .slice ma2 d2.methods.length mc2, .slice ia2 d2.inner.length ic2] 46)).heap[w.heap.size]? = some (.cells #[.int .i64 d1.kind, .string (mkB d1.name), .int .i64 d1.line, .int .i64 d1.col, .slice fa1 d1.fields.length fc1, .slice va1 d1.values.length vc1, .slice ma1 d1.methods.length mc1, .slice ia1 d1.inner.length ic1] 46 (0, 0)) := by
    rw [alloc_heap_old _ _ _ (by simp)]; exact alloc_heap_new _ _
  have hV2 : ((w.alloc (.cells #[.int .i64 d1.kind, .string (mkB d1.name), .int .i64 d1.line, .int .i64 d1.col, .slice fa1 d1.fields.length fc1, .slice va1 d1.values.length vc1, .slice ma1 d1.methods.length mc1, .slice ia1 d1.inner.length ic1] 46)).alloc (.cells #[.int .i64 d2.kind, .string (mkB d2.name), .int .i64 d2.line, .int .i64 d2.col, .slice fa2 d2.fields.length fc2, .slice va2 d2.values.length vc2, .slice ma2 d2.methods.length mc2, .slice ia2 d2.inner.length ic2] 46)).heap[w.heap.size + 1]? = some (.cells #[.int .i64 d2.kind, .string (mkB d2.name), .int .i64 d2.line, .int .i64 d2.col, .slice fa2 d2.fields.length fc2, .slice va2 d2.values.length vc2, .slice ma2 d2.methods.length mc2, .slice ia2 d2.inner.length ic2] 46 (0, 0)) := by
    rw [show w.heap.size + 1 = (w.alloc (.cells #[.int .i64 d1.kind, .string (mkB d1.name), .int .i64 d1.line, .int .i64 d1.col, .slice fa1 d1.fields.length fc1, .slice va1 d1.values.length vc1, .slice ma1 d1.methods.length mc1, .slice ia1 d1.inner.length ic1] 46)).heap.size by simp]; exact alloc_heap_new _ _
  have hsV : ((w.alloc (.cells #[.int .i64 d1.kind, .string (mkB d1.name), .int .i64 d1.line, .int .i64 d1.col, .slice fa1 d1.fields.length fc1, .slice va1 d1.values.length vc1, .slice ma1 d1.methods.length mc1, .slice ia1 d1.inner.length ic1] 46)).alloc (.cells #[.int .i64 d2.kind, .string (mkB d2.name), .int .i64 d2.line, .int .i64 d2.col, .slice fa2 d2.fields.length fc2, .slice va2 d2.values.length vc2, .slice ma2 d2.methods.length mc2, .slice ia2 d2.inner.length ic2] 46)).heap.size = w.heap.size + 2 := by simp
  clear r11 r12 r13 r14 r21 r22 r23 r24
  go_enter Tryz.func24, Tryz.ntmps24
  go_upto_region 1 with fail
  generalize (w.alloc (.cells #[.int .i64 d1.kind, .string (mkB d1.name), .int .i64 d1.line, .int .i64 d1.col, .slice fa1 d1.fields.length fc1, .slice va1 d1.values.length vc1, .slice ma1 d1.methods.length mc1, .slice ia1 d1.inner.length ic1] 46)).alloc (.cells #[.int .i64 d2.kind, .string (mkB d2.name), .int .i64 d2.line, .int .i64 d2.col, .slice fa2 d2.fields.length fc2, .slice va2 d2.values.length vc2, .slice ma2 d2.methods.length mc2, .slice ia2 d2.inner.length ic2] 46) = V at *
  have HV1 := Lib.hid hV1
  have HV2 := Lib.hid hV2
  have HBV := Lib.hid hbV
  -- the cells of both in any later world
  have HC : Hid (∀ Y : World, Below V.heap.size V Y → Y.heap[w.heap.size]? = some (.cells #[.int .i64 d1.kind, .string (mkB d1.name), .int .i64 d1.line, .int .i64 d1.col, .slice fa1 d1.fields.length fc1, .slice va1 d1.values.length vc1, .slice ma1 d1.methods.length mc1, .slice ia1 d1.inner.length ic1] 46 (0, 0)) ∧ Y.heap[w.heap.size + 1]? = some (.cells #[.int .i64 d2.kind, .string (mkB d2.name), .int .i64 d2.line, .int .i64 d2.col, .slice fa2 d2.fields.length fc2, .slice va2 d2.values.length vc2, .slice ma2 d2.methods.length mc2, .slice ia2 d2.inner.length ic2] 46 (0, 0)) ∧ Below w.heap.size w Y) := fun Y hY =>
    ⟨by rw [hY.block _ (by omega)]; exact HV1.out, by rw [hY.block _ (by omega)]; exact HV2.out, HBV.out.trans (hY.mono (by omega))⟩
  have x1_0 : V.cell? ⟨w.heap.size, 0, none⟩ = some (.int .i64 d1.kind) := by simp [World.cell?, hV1]
  have x1_1 : V.cell? ⟨w.heap.size, 1, none⟩ = some (.string (mkB d1.name)) := by simp [World.cell?, hV1]
  have x1_2 : V.cell? ⟨w.heap.size, 2, none⟩ = some (.int .i64 d1.line) := by simp [World.cell?, hV1]
  have x1_3 : V.cell? ⟨w.heap.size, 3, none⟩ = some (.int .i64 d1.col) := by simp [World.cell?, hV1]
  have x1_4 : V.cell? ⟨w.heap.size, 4, none⟩ = some (.slice fa1 d1.fields.length fc1) := by simp [World.cell?, hV1]
  have x2_0 : V.cell? ⟨w.heap.size + 1, 0, none⟩ = some (.int .i64 d2.kind) := by simp [World.cell?, hV2]
  have x2_1 : V.cell? ⟨w.heap.size + 1, 1, none⟩ = some (.string (mkB d2.name)) := by simp [World.cell?, hV2]
  have x2_2 : V.cell? ⟨w.heap.size + 1, 2, none⟩ = some (.int .i64 d2.line) := by simp [World.cell?, hV2]
  have x2_3 : V.cell? ⟨w.heap.size + 1, 3, none⟩ = some (.int .i64 d2.col) := by simp [World.cell?, hV2]
  have x2_4 : V.cell? ⟨w.heap.size + 1, 4, none⟩ = some (.slice fa2 d2.fields.length fc2) := by simp [World.cell?, hV2]
  clear hbV hV1 hV2 HV1 HV2
  by_cases t0 : d1.kind = d2.kind
  case neg =>
    have HQ := Lib.hid t0
    go_wp2_with fail
    go_ret
    exact ⟨false, rfl, by simp; intro h; exact HQ.out (by rw [h]), HBV.out⟩
  rw [← t0] at x2_0
  have HC0 := Lib.hid t0
  clear t0
  by_cases t1 : d1.name = d2.name
  case neg =>
    have t' := mkBD_beq t1
    have t'' := beq_eq_false_iff_ne.2 t1
    have HQ := Lib.hid t1
    go_wp2_with fail
    go_ret
    exact ⟨false, rfl, by simp; intro h; exact HQ.out (by rw [h]), HBV.out⟩
  rw [← t1] at x2_1
  have HC1 := Lib.hid t1
  clear t1
  by_cases t2 : d1.line = d2.line
  case neg =>
    have HQ := Lib.hid t2
    go_wp2_with fail
    go_ret
    exact ⟨false, rfl, by simp; intro h; exact HQ.out (by rw [h]), HBV.out⟩
  rw [← t2] at x2_2
  have HC2 := Lib.hid t2
  clear t2
  by_cases t3 : d1.col = d2.col
  case neg =>
    have HQ := Lib.hid t3
    go_wp2_with fail
    go_ret
    exact ⟨false, rfl, by simp; intro h; exact HQ.out (by rw [h]), HBV.out⟩
  rw [← t3] at x2_3
  have HC3 := Lib.hid t3
  clear t3
  have HY0 : Hid (Below V.heap.size V V) := Below.refl _ _
  have hE0 := eqF_any (S := fun b => b < w.heap.size) _ _ d1.fields d2.fields V (HR1.out.1.old fun b hb => (HC.out V HY0.out).2.2.block b hb) (HR2.out.1.old fun b hb => (HC.out V HY0.out).2.2.block b hb) (fun b hb => by have := (HC.out V HY0.out).2.2.size; omega) hf1.1
  go_wp2_with fail
  refine hE0.mono ?_
  rintro e Y1 ⟨b0, rfl, hi0, hw0⟩
  have HY1 : Hid (Below V.heap.size V Y1) := HY0.out.trans (hw0.mono HY0.out.size)
  have HI0 := Lib.hid hi0
  clear hE0 hi0 hw0
  cases b0
  case false =>
    go_wp2_with fail
    go_ret
    exact ⟨false, rfl, by simp; intro h; exact absurd (HI0.out.2 (by rw [h])) (by simp), (HC.out _ HY1.out).2.2⟩
  obtain ⟨g01, g02, _⟩ := HC.out Y1 HY1.out
  have y01 : Y1.cell? ⟨w.heap.size, 5, none⟩ = some (.slice va1 d1.values.length vc1) := by simp [World.cell?, g01]
  have y02 : Y1.cell? ⟨w.heap.size + 1, 5, none⟩ = some (.slice va2 d2.values.length vc2) := by simp [World.cell?, g02]
  clear g01 g02
  have hE1 := eqV_any (S := fun b => b < w.heap.size) _ _ d1.values d2.values Y1 (HR1.out.2.1.old fun b hb => (HC.out Y1 HY1.out).2.2.block b hb) (HR2.out.2.1.old fun b hb => (HC.out Y1 HY1.out).2.2.block b hb) (fun b hb => by have := (HC.out Y1 HY1.out).2.2.size; omega) hf1.2.1
  go_wp2_with fail
  refine hE1.mono ?_
  rintro e Y2 ⟨b1, rfl, hi1, hw1⟩
  have HY2 : Hid (Below V.heap.size V Y2) := HY1.out.trans (hw1.mono HY1.out.size)
  have HI1 := Lib.hid hi1
  clear hE1 hi1 hw1
  cases b1
  case false =>
    go_wp2_with fail
    go_ret
    exact ⟨false, rfl, by simp; intro h; exact absurd (HI1.out.2 (by rw [h])) (by simp), (HC.out _ HY2.out).2.2⟩
  obtain ⟨g11, g12, _⟩ := HC.out Y2 HY2.out
  have y11 : Y2.cell? ⟨w.heap.size, 6, none⟩ = some (.slice ma1 d1.methods.length mc1) := by simp [World.cell?, g11]
  have y12 : Y2.cell? ⟨w.heap.size + 1, 6, none⟩ = some (.slice ma2 d2.methods.length mc2) := by simp [World.cell?, g12]
  clear g11 g12
  have hE2 := eqM_any (S := fun b => b < w.heap.size) _ _ d1.methods d2.methods Y2 (HR1.out.2.2.1.old fun b hb => (HC.out Y2 HY2.out).2.2.block b hb) (HR2.out.2.2.1.old fun b hb => (HC.out Y2 HY2.out).2.2.block b hb) (fun b hb => by have := (HC.out Y2 HY2.out).2.2.size; omega) hf1.2.2.1
  go_wp2_with fail
  refine hE2.mono ?_
  rintro e Y3 ⟨b2, rfl, hi2, hw2⟩
  have HY3 : Hid (Below V.heap.size V Y3) := HY2.out.trans (hw2.mono HY2.out.size)
  have HI2 := Lib.hid hi2
  clear hE2 hi2 hw2
  cases b2
  case false =>
    go_wp2_with fail
    go_ret
    exact ⟨false, rfl, by simp; intro h; exact absurd (HI2.out.2 (by rw [h])) (by simp), (HC.out _ HY3.out).2.2⟩
  obtain ⟨g21, g22, _⟩ := HC.out Y3 HY3.out
  have y21 : Y3.cell? ⟨w.heap.size, 7, none⟩ = some (.slice ia1 d1.inner.length ic1) := by simp [World.cell?, g21]
  have y22 : Y3.cell? ⟨w.heap.size + 1, 7, none⟩ = some (.slice ia2 d2.inner.length ic2) := by simp [World.cell?, g22]
  clear g21 g22
  have hE3 := IH d1.inner d2.inner _ _ Y3 hf1.2.2.2 hf2.2.2.2 ((HeldD.old (fun b hb => (HC.out Y3 HY3.out).2.2.block b hb) HR1.out.2.2.2).more fun b hb => by have := (HC.out Y3 HY3.out).2.2.size; omega) ((HeldD.old (fun b hb => (HC.out Y3 HY3.out).2.2.block b hb) HR2.out.2.2.2).more fun b hb => by have := (HC.out Y3 HY3.out).2.2.size; omega)
  go_wp2_with fail
  refine hE3.mono ?_
  rintro e Y4 ⟨b3, rfl, hi3, hw3⟩
  have HY4 : Hid (Below V.heap.size V Y4) := HY3.out.trans (hw3.mono HY3.out.size)
  have HI3 := Lib.hid hi3
  clear hE3 hi3 hw3
  go_wp2_with fail
  go_ret
  refine ⟨b3, rfl, ⟨fun h => ?_, fun h => HI3.out.2 (by rw [h])⟩, (HC.out _ HY4.out).2.2⟩
  exact dcD_eq HC0.out HC1.out HC2.out HC3.out (HI0.out.1 (by simp)) (HI1.out.1 (by simp)) (HI2.out.1 (by simp)) (HI3.out.1 h)
set_option maxHeartbeats 16000000 in
set_option maxRecDepth 20000 in
theorem eqFunc_any (f : Nat) (IH : SameTo f) (ds1 ds2 : List Dc) (v1 v2 : Value) (w : World) (hf1 : FitD (f + 1) ds1) (hf2 : FitD (f + 1) ds2) (h1 : HeldD (f + 1) w (fun b => b < w.heap.size) v1 ds1) (h2 : HeldD (f + 1) w (fun b => b < w.heap.size) v2 ds2) :
    Calls Tryz.prog 23 #[v1, v2, .func (.func 24) #[] #[]] w fun e w' => QAns w ds1 ds2 e w' := by
  obtain ⟨ad1, c1, rfl, hc1, H1⟩ := h1
  obtain ⟨ad2, c2, rfl, hc2, H2⟩ := h2
  have hl1 := hf1.1
  have Hf1 := Lib.hid H1
  have Hf2 := Lib.hid H2
  have HK1 := Lib.hid hf1.2
  have HK2 := Lib.hid hf2.2
  clear H1 H2 hf1 hf2
  by_cases hn : ds1.length = ds2.length
  case neg =>
    have t' : ((ds1.length : Int) != (ds2.length : Int)) = true := by simp; omega
    have HN := Lib.hid hn
    clear hn
    go_enter Tryz.func23, Tryz.ntmps23
    go_wp2_with fail
    go_ret
    exact ⟨false, rfl, by simp; intro h; exact HN.out (by rw [h]), Below.refl _ _⟩
  have HN := Lib.hid hn
  have hnn : ((ds1.length : Int) != (ds2.length : Int)) = false := by simp; omega
  rw [← hn]
  rw [← hn] at hnn hc2
  clear hn
  go_enter Tryz.func23, Tryz.ntmps23
  go_wp2_with fail
  go_loopw [17] (fun kk wq => ∃ q : Nat, kk = .int .i64 (q : Int) ∧ q ≤ ds1.length ∧ ds1.take q = ds2.take q ∧ Below w.heap.size w wq) (fun kk _ => ds1.length - (intOf kk).toNat)
  case atStart => exact ⟨0, rfl, by omega, rfl, Below.refl _ _⟩
  case round =>
    obtain ⟨q, rfl, hq, htk, hbq⟩ := hrel
    have HBQ := Lib.hid hbq
    have HTK := Lib.hid htk
    have hsq := hbq.size
    clear hbq htk
    by_cases hqn : q < ds1.length
    · obtain ⟨d1, hx1⟩ : ∃ x, ds1[q]? = some x := ⟨_, List.getElem?_eq_getElem hqn⟩
      obtain ⟨d2, hx2⟩ : ∃ x, ds2[q]? = some x := ⟨_, List.getElem?_eq_getElem (by have := HN.out; omega)⟩
      rcases Hf1.out with h0 | ⟨g3, o3, rfl, hg3, hk3⟩
      · rw [h0] at hx1; simp at hx1
      rcases Hf2.out with h0 | ⟨g4, o4, rfl, hg4, hk4⟩
      · rw [h0] at hx2; simp at hx2
      have b3 := HBQ.out.block g3 hg3
      have b4 := HBQ.out.block g4 hg4
      obtain ⟨fs1, vs1, ms1, ins1, hcell1, r11, r12, r13, r14⟩ := hk3 q d1 hx1
      obtain ⟨fs2, vs2, ms2, ins2, hcell2, r21, r22, r23, r24⟩ := hk4 q d2 hx2
      obtain ⟨fa1, fc1, rfl⟩ := r11.isSl
      obtain ⟨va1, vc1, rfl⟩ := r12.isSl
      obtain ⟨ma1, mc1, rfl⟩ := r13.isSl
      obtain ⟨ia1, ic1, rfl⟩ := r14.isSlD
      obtain ⟨fa2, fc2, rfl⟩ := r21.isSl
      obtain ⟨va2, vc2, rfl⟩ := r22.isSl
      obtain ⟨ma2, mc2, rfl⟩ := r23.isSl
      obtain ⟨ia2, ic2, rfl⟩ := r24.isSlD
      have e3_0 : wr.cell? ⟨g3, o3 + q * 8, none⟩ = some (.int .i64 d1.kind) := by
        rw [World.cell?_of_block b3]
        have := hcell1 0 _ rfl
        simpa [Nat.add_assoc] using this
      have e3_1 : wr.cell? ⟨g3, o3 + q * 8 + 1, none⟩ = some (.string (mkB d1.name)) := by
        rw [World.cell?_of_block b3]
        have := hcell1 1 _ rfl
        simpa [Nat.add_assoc] using this
      have e3_2 : wr.cell? ⟨g3, o3 + q * 8 + 2, none⟩ = some (.int .i64 d1.line) := by
        rw [World.cell?_of_block b3]
        have := hcell1 2 _ rfl
        simpa [Nat.add_assoc] using this
      have e3_3 : wr.cell? ⟨g3, o3 + q * 8 + 3, none⟩ = some (.int .i64 d1.col) := by
        rw [World.cell?_of_block b3]
        have := hcell1 3 _ rfl
        simpa [Nat.add_assoc] using this
      have e3_4 : wr.cell? ⟨g3, o3 + q * 8 + 4, none⟩ = some (.slice fa1 d1.fields.length fc1) := by
        rw [World.cell?_of_block b3]
        have := hcell1 4 _ rfl
        simpa [Nat.add_assoc] using this
      have e3_5 : wr.cell? ⟨g3, o3 + q * 8 + 5, none⟩ = some (.slice va1 d1.values.length vc1) := by
        rw [World.cell?_of_block b3]
        have := hcell1 5 _ rfl
        simpa [Nat.add_assoc] using this
      have e3_6 : wr.cell? ⟨g3, o3 + q * 8 + 6, none⟩ = some (.slice ma1 d1.methods.length mc1) := by
        rw [World.cell?_of_block b3]
        have := hcell1 6 _ rfl
        simpa [Nat.add_assoc] using this
      have e3_7 : wr.cell? ⟨g3, o3 + q * 8 + 7, none⟩ = some (.slice ia1 d1.inner.length ic1) := by
        rw [World.cell?_of_block b3]
        have := hcell1 7 _ rfl
        simpa [Nat.add_assoc] using this
      have e4_0 : ∀ ob, (wr.alloc ob).cell? ⟨g4, o4 + q * 8, none⟩ = some (.int .i64 d2.kind) := fun ob => by
        rw [World.cell?_of_block ((alloc_heap_old wr ob g4 (by omega)).trans b4)]
        have := hcell2 0 _ rfl
        simpa [Nat.add_assoc] using this
      have e4_1 : ∀ ob, (wr.alloc ob).cell? ⟨g4, o4 + q * 8 + 1, none⟩ = some (.string (mkB d2.name)) := fun ob => by
        rw [World.cell?_of_block ((alloc_heap_old wr ob g4 (by omega)).trans b4)]
        have := hcell2 1 _ rfl
        simpa [Nat.add_assoc] using this
      have e4_2 : ∀ ob, (wr.alloc ob).cell? ⟨g4, o4 + q * 8 + 2, none⟩ = some (.int .i64 d2.line) := fun ob => by
        rw [World.cell?_of_block ((alloc_heap_old wr ob g4 (by omega)).trans b4)]
        have := hcell2 2 _ rfl
        simpa [Nat.add_assoc] using this
      have e4_3 : ∀ ob, (wr.alloc ob).cell? ⟨g4, o4 + q * 8 + 3, none⟩ = some (.int .i64 d2.col) := fun ob => by
        rw [World.cell?_of_block ((alloc_heap_old wr ob g4 (by omega)).trans b4)]
        have := hcell2 3 _ rfl
        simpa [Nat.add_assoc] using this
      have e4_4 : ∀ ob, (wr.alloc ob).cell? ⟨g4, o4 + q * 8 + 4, none⟩ = some (.slice fa2 d2.fields.length fc2) := fun ob => by
        rw [World.cell?_of_block ((alloc_heap_old wr ob g4 (by omega)).trans b4)]
        have := hcell2 4 _ rfl
        simpa [Nat.add_assoc] using this
      have e4_5 : ∀ ob, (wr.alloc ob).cell? ⟨g4, o4 + q * 8 + 5, none⟩ = some (.slice va2 d2.values.length vc2) := fun ob => by
        rw [World.cell?_of_block ((alloc_heap_old wr ob g4 (by omega)).trans b4)]
        have := hcell2 5 _ rfl
        simpa [Nat.add_assoc] using this
      have e4_6 : ∀ ob, (wr.alloc ob).cell? ⟨g4, o4 + q * 8 + 6, none⟩ = some (.slice ma2 d2.methods.length mc2) := fun ob => by
        rw [World.cell?_of_block ((alloc_heap_old wr ob g4 (by omega)).trans b4)]
        have := hcell2 6 _ rfl
        simpa [Nat.add_assoc] using this
      have e4_7 : ∀ ob, (wr.alloc ob).cell? ⟨g4, o4 + q * 8 + 7, none⟩ = some (.slice ia2 d2.inner.length ic2) := fun ob => by
        rw [World.cell?_of_block ((alloc_heap_old wr ob g4 (by omega)).trans b4)]
        have := hcell2 7 _ rfl
        simpa [Nat.add_assoc] using this
      have hq0 : (0 : Int) ≤ (q : Int) := by omega
      have hq1 : (q : Int) < (ds1.length : Int) := by omega
      have hwq : IntKind.i64.wrap ((q : Int) + 1) = (q : Int) + 1 := by rw [IntKind.wrap_i64]; omega
      have HX : Hid (ds1 = ds2 → d1 = d2) := fun h => by subst h; exact Option.some.inj (hx1.symm.trans hx2)
      have HT' : Hid (d1 = d2 → ds1.take (q + 1) = ds2.take (q + 1)) := fun h => takeD_next HTK.out hx1 (h ▸ hx2)
      have hm1 : FitK f d1 := HK1.out d1 (List.mem_of_getElem? hx1)
      have hm2 : FitK f d2 := HK2.out d2 (List.mem_of_getElem? hx2)
      have hbY := (HBQ.out.alloc hsq (.cells #[.int .i64 d1.kind, .string (mkB d1.name), .int .i64 d1.line, .int .i64 d1.col, .slice fa1 d1.fields.length fc1, .slice va1 d1.values.length vc1, .slice ma1 d1.methods.length mc1, .slice ia1 d1.inner.length ic1] 46)).alloc (by simp; omega) (.cells #[.int .i64 d2.kind, .string (mkB d2.name), .int .i64 d2.line, .int .i64 d2.col, .slice fa2 d2.fields.length fc2, .slice va2 d2.values.length vc2, .slice ma2 d2.methods.length mc2, .slice ia2 d2.inner.length ic2] 46)
      have hKids : ∀ (n : Nat) (fs vs ms ins : Value) (d : Dc), Kids f w (fun b => b < w.heap.size) fs vs ms ins d → Kids f ((wr.alloc (.cells #[.int .i64 d1.kind, .string (mkB d1.name), .int .i64 d1.line, .int .i64 d1.col, .slice fa1 d1.fields.length fc1, .slice va1 d1.values.length vc1, .slice ma1 d1.methods.length mc1, .slice ia1 d1.inner.length ic1] 46)).alloc (.cells #[.int .i64 d2.kind, .string (mkB d2.name), .int .i64 d2.line, .int .i64 d2.col, .slice fa2 d2.fields.length fc2, .slice va2 d2.values.length vc2, .slice ma2 d2.methods.length mc2, .slice ia2 d2.inner.length ic2] 46)) (fun b => b < ((wr.alloc (.cells #[.int .i64 d1.kind, .string (mkB d1.name), .int .i64 d1.line, .int .i64 d1.col, .slice fa1 d1.fields.length fc1, .slice va1 d1.values.length vc1, .slice ma1 d1.methods.length mc1, .slice ia1 d1.inner.length ic1] 46)).alloc (.cells #[.int .i64 d2.kind, .string (mkB d2.name), .int .i64 d2.line, .int .i64 d2.col, .slice fa2 d2.fields.length fc2, .slice va2 d2.values.length vc2, .slice ma2 d2.methods.length mc2, .slice ia2 d2.inner.length ic2] 46)).heap.size) fs vs ms ins d := fun n fs vs ms ins d hk =>
        (hk.old fun b hb => hbY.block b hb).more fun b hb => by have := hbY.size; omega
      have hCall := sameDecl_any f IH d1 d2 _ _ _ _ _ _ _ _ ((wr.alloc (.cells #[.int .i64 d1.kind, .string (mkB d1.name), .int .i64 d1.line, .int .i64 d1.col, .slice fa1 d1.fields.length fc1, .slice va1 d1.values.length vc1, .slice ma1 d1.methods.length mc1, .slice ia1 d1.inner.length ic1] 46)).alloc (.cells #[.int .i64 d2.kind, .string (mkB d2.name), .int .i64 d2.line, .int .i64 d2.col, .slice fa2 d2.fields.length fc2, .slice va2 d2.values.length vc2, .slice ma2 d2.methods.length mc2, .slice ia2 d2.inner.length ic2] 46)) hm1 hm2 (hKids 1 _ _ _ _ _ ⟨r11, r12, r13, r14⟩) (hKids 2 _ _ _ _ _ ⟨r21, r22, r23, r24⟩)
      have HBY := Lib.hid hbY
      clear hx1 hx2 hk3 hk4 b3 b4 Hf1 Hf2 hKids hcell1 hcell2 r11 r12 r13 r14 r21 r22 r23 r24 hbY hm1 hm2
      go_wp2_with fail
      refine hCall.mono ?_
      rintro e Y ⟨bb, rfl, hbi, hbw⟩
      have HBZ := Lib.hid (HBY.out.trans (hbw.mono HBY.out.size))
      have HBI := Lib.hid hbi
      clear hCall hbi hbw e3_0 e4_0 e3_1 e4_1 e3_2 e4_2 e3_3 e4_3 e3_4 e4_4 e3_5 e4_5 e3_6 e4_6 e3_7 e4_7
      cases bb
      case false =>
        go_wp2_with fail
        go_ret
        exact ⟨false, rfl, by simp; intro h; exact absurd (HBI.out.2 (HX.out h)) (by simp), HBZ.out⟩
      have HTE := Lib.hid (HT'.out (HBI.out.1 (by simp)))
      go_wp2_with fail
      go_roundw
      case rel => exact ⟨q + 1, by go_num, by omega, HTE.out, HBZ.out⟩
      case measure => simp [intOf]; omega
    · have hqn' : ¬ (q : Int) < (ds1.length : Int) := by omega
      have hqe : q = ds1.length := by omega
      have hall : ds1 = ds2 := by
        have := HTK.out
        rw [hqe, List.take_length, HN.out, List.take_length] at this
        exact this
      have HAL := Lib.hid hall
      clear hall hqe
      go_wp2_with fail
      go_ret
      exact ⟨true, rfl, by simp; exact HAL.out, HBQ.out⟩
set_option maxHeartbeats 4000000 in
theorem eqFunc_nil (ad1 ad2 : Option Addr) (c1 c2 : Nat) (w : World) :
    Calls Tryz.prog 23 #[.slice ad1 0 c1, .slice ad2 0 c2, .func (.func 24) #[] #[]] w fun e w' => QAns w ([] : List Dc) [] e w' := by
  go_enter Tryz.func23, Tryz.ntmps23
  go_wp2_with fail
  go_loopw [17] (fun kk wq => kk = .int .i64 0 ∧ wq = w) (fun _ _ => 0)
  case atStart => exact ⟨rfl, rfl⟩
  case round =>
    obtain ⟨rfl, rfl⟩ := hrel
    go_wp2_with fail
    go_ret
    exact ⟨true, rfl, by simp, Below.refl _ _⟩
set_option maxHeartbeats 4000000 in
set_option maxRecDepth 20000 in
theorem sameP_any : ∀ f : Nat, SameTo f := by
  intro f
  induction f with
  | zero =>
    rintro ds1 ds2 v1 v2 w _ _ ⟨rfl, ad1, c1, rfl⟩ ⟨rfl, ad2, c2, rfl⟩
    have hE := eqFunc_nil ad1 ad2 c1 c2 w
    go_enter Tryz.func10, Tryz.ntmps10
    go_wp2_with fail
    refine hE.mono ?_
    rintro e Y ⟨b, rfl, hbi, hbw⟩
    have HBI := Lib.hid hbi
    clear hbi
    go_wp2_with fail
    go_ret
    exact ⟨b, rfl, ⟨fun _ => rfl, fun _ => HBI.out.2 (by simp)⟩, hbw⟩
  | succ f ih =>
    intro ds1 ds2 v1 v2 w f1 f2 h1 h2
    have hE := eqFunc_any f ih ds1 ds2 v1 v2 w f1 f2 h1 h2
    clear h1 h2 f1 f2 ih
    go_enter Tryz.func10, Tryz.ntmps10
    go_wp2_with fail
    refine hE.mono ?_
    rintro e Y ⟨b, rfl, hbi, hbw⟩
    have HBI := Lib.hid hbi
    clear hbi
    go_wp2_with fail
    go_ret
    exact ⟨b, rfl, HBI.out, hbw⟩
end Go.Proofs.YtngmimbpakmkiaaGreatDoor
