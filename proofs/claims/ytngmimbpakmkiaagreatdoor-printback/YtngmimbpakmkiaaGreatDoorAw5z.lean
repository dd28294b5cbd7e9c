/-
  The walk over the laws' own awake, and what a slice of declarations in memory leads to.
-/
import Derived.Test.YtngmimbpakmkiaaGreatDoorDpOz
namespace Go.Proofs.YtngmimbpakmkiaaGreatDoor
set_option linter.unusedVariables false
open Go.ChangeShapes Go.WideShapes Go.ChangeAt Go.RowKit

abbrev awT : List UInt8 := [109, 101, 115, 115, 97, 103, 101, 32, 65, 32, 123, 32, 105, 110, 116, 54, 52, 32, 120, 32, 61, 32, 49, 59, 32, 125]
theorem file_aw : (fileL awT).2.2 = 0 ∧ (fileL awT).1.length = 1 ∧ ((fileL awT).1[0]?.map fun d => d.fields.map fun f => f.num) = some [1] := by
  decide +kernel
/-- one declaration, and the first cells of it -/
theorem held_one {f : Nat} {w : World} {S : Nat → Prop} {v : Value} {d : Dc} {t : List Dc} (h : HeldD f w S v (d :: t)) : ∃ f' g o c fs vs ms ins, f = f' + 1 ∧ v = .slice (some ⟨g, o, none⟩) (t.length + 1) c ∧ t.length + 1 ≤ c ∧ S g ∧
    w.cell? ⟨g, o, none⟩ = some (.int .i64 d.kind) ∧ w.cell? ⟨g, o + 1, none⟩ = some (.string (mkB d.name)) ∧ w.cell? ⟨g, o + 4, none⟩ = some fs ∧ w.cell? ⟨g, o + 5, none⟩ = some vs ∧ w.cell? ⟨g, o + 6, none⟩ = some ms ∧ w.cell? ⟨g, o + 7, none⟩ = some ins ∧
    RowsIn w S 6 frow fs d.fields ∧ RowsIn w S 4 vrow vs d.values ∧ RowsIn w S 5 mrow ms d.methods ∧ HeldD f' w S ins d.inner := by
  cases f with
  | zero => cases h.1
  | succ f =>
    obtain ⟨ad, c, hv, hc, h | ⟨g, o, rfl, hg, h⟩⟩ := h
    · cases h
    · obtain ⟨fs, vs, ms, ins, h0, h1, h2, h3, h4⟩ := h 0 d rfl
      refine ⟨f, g, o, c, fs, vs, ms, ins, rfl, hv, hc, hg, ?_, ?_, ?_, ?_, ?_, ?_, h1, h2, h3, h4⟩
      · have := h0 0 _ rfl; simpa using this
      · have := h0 1 _ rfl; simpa using this
      · have := h0 4 _ rfl; simpa using this
      · have := h0 5 _ rfl; simpa using this
      · have := h0 6 _ rfl; simpa using this
      · have := h0 7 _ rfl; simpa using this
theorem rows_one {α : Type} {w : World} {S : Nat → Prop} {k : Nat} {row : α → List Value} {v : Value} {x : α} {t : List α} (h : RowsIn w S k row v (x :: t)) : ∃ g o c, v = .slice (some ⟨g, o, none⟩) (t.length + 1) c ∧ t.length + 1 ≤ c ∧ ∀ (i : Nat) (u : Value), (row x)[i]? = some u → w.cell? ⟨g, o + i, none⟩ = some u := by
  obtain ⟨ad, c, hv, hc, h | ⟨g, o, rfl, hg, h⟩⟩ := h
  · cases h
  · exact ⟨g, o, c, hv, hc, fun i u hu => by have := h 0 x rfl i u hu; simpa using this⟩
set_option maxHeartbeats 4000000 in
set_option maxRecDepth 20000 in
theorem awake_any (w : World) (hT : Errs w) :
    Calls Tryz.prog 8 #[] w fun e w' => e = .returned (.bool true) ∧ Below w.heap.size w w' := by
  have hF := fileD_any ⟨#[109, 101, 115, 115, 97, 103, 101, 32, 65, 32, 123, 32, 105, 110, 116, 54, 52, 32, 120, 32, 61, 32, 49, 59, 32, 125]⟩ w hT (by decide)
  have eA : (ByteArray.mk #[109, 101, 115, 115, 97, 103, 101, 32, 65, 32, 123, 32, 105, 110, 116, 54, 52, 32, 120, 32, 61, 32, 49, 59, 32, 125]).data.toList = awT := rfl
  rw [eA] at hF
  obtain ⟨f1, f2, f3⟩ := file_aw
  generalize fileL awT = FL at *
  obtain ⟨ds, pp, er⟩ := FL
  have f1' : er = 0 := f1
  subst f1'
  have f2' : ds.length = 1 := f2
  obtain ⟨d, rfl⟩ : ∃ d, ds = [d] := by
    cases ds with
    | nil => cases f2'
    | cons d t =>
      cases t with
      | nil => exact ⟨d, rfl⟩
      | cons a b => simp at f2'
  have f3' : d.fields.map (fun f => f.num) = [1] := by simpa using f3
  obtain ⟨x, hx, hx1⟩ : ∃ x, d.fields = [x] ∧ x.num = 1 := by
    cases hd : d.fields with
    | nil => rw [hd] at f3'; cases f3'
    | cons x t =>
      rw [hd] at f3'
      simp only [List.map_cons, List.cons.injEq, List.map_eq_nil_iff] at f3'
      exact ⟨x, by rw [f3'.2], f3'.1⟩
  clear f1 f2 f3 f2' f3' eA hT
  go_enter Tryz.func8, Tryz.ntmps8
  go_wp2_with fail
  refine hF.mono ?_
  rintro e w1 ⟨⟨ad, c, pl, pc, rfl, hH, _⟩, hb1⟩
  have hHo := hH.old (w' := w1.alloc (.cells #[.int .i64 pl, .int .i64 pc] 38)) (fun b hb => alloc_heap_old _ _ _ hb)
  obtain ⟨f', g, o, c', fs, vs, ms, ins, h10, hv, u1, u2, u3, u4, k4, u5, u6, u7, hR, u8⟩ := held_one hHo
  clear h10 u1 u2 u3 u4 u5 u6 u7 u8
  simp only [Value.slice.injEq] at hv
  obtain ⟨rfl, v1, v2⟩ := hv
  clear v1 v2
  rw [hx] at hR
  obtain ⟨g2, o2, c2, rfl, v3, hrow⟩ := rows_one hR
  clear v3
  have k6 := hrow 3 _ rfl
  rw [hx1] at k6
  have HB := Lib.hid (hb1.alloc hb1.size (.cells #[.int .i64 pl, .int .i64 pc] 38))
  have e1 : ([d] : List Dc).length = 1 := rfl
  clear hF hH hHo hR hrow hb1
  go_upto_region 2 with fail
  generalize w1.alloc (.cells #[.int .i64 pl, .int .i64 pc] 38) = V at *
  go_wp2_with fail
  go_ret
  exact ⟨rfl, HB.out⟩
end Go.Proofs.YtngmimbpakmkiaaGreatDoor
