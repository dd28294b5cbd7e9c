/-
  One declaration of a list that lies in memory; and the walk over the document's own Formed.
-/
import Derived.Test.YtglkgcpfdhneeaaDoorFmR
namespace Go.Proofs.YtglkgcpfdhneeaaDoor
set_option linter.unusedVariables false
open Go.ChangeShapes Go.WideShapes Go.ChangeAt Go.RowKit

/-- the cells of one declaration of a list, and what they lead to -/
theorem decl_at {f : Nat} {w W : World} {S : Nat → Prop} {v : Value} {ds : List Dc} (h : HeldD (f + 1) w S v ds) (hW : ∀ b, S b → W.heap[b]? = w.heap[b]?) {q : Nat} {x : Dc} (hx : ds[q]? = some x) :
    ∃ g o c fa fc va vc ma mc ia ic, v = .slice (some ⟨g, o, none⟩) ds.length c ∧ S g ∧ W.cell? ⟨g, o + q * 8, none⟩ = some (.int .i64 x.kind) ∧ W.cell? ⟨g, o + q * 8 + 1, none⟩ = some (.string (mkB x.name)) ∧
      W.cell? ⟨g, o + q * 8 + 2, none⟩ = some (.int .i64 x.line) ∧ W.cell? ⟨g, o + q * 8 + 3, none⟩ = some (.int .i64 x.col) ∧ W.cell? ⟨g, o + q * 8 + 4, none⟩ = some (.slice fa x.fields.length fc) ∧
      W.cell? ⟨g, o + q * 8 + 5, none⟩ = some (.slice va x.values.length vc) ∧ W.cell? ⟨g, o + q * 8 + 6, none⟩ = some (.slice ma x.methods.length mc) ∧ W.cell? ⟨g, o + q * 8 + 7, none⟩ = some (.slice ia x.inner.length ic) ∧
      Kids f W S (.slice fa x.fields.length fc) (.slice va x.values.length vc) (.slice ma x.methods.length mc) (.slice ia x.inner.length ic) x := by
  obtain ⟨ad, c, hsl, hcc, hrows⟩ := h
  rcases hrows with h0 | ⟨g, o, had, hg, hrow⟩
  · rw [h0] at hx; simp at hx
  subst had
  obtain ⟨fs, vs, ms, ins, hcell, kd⟩ := hrow q x hx
  have kd : Kids f w S fs vs ms ins x := kd
  have kd0 := kd
  obtain ⟨r1, r2, r3, r4⟩ := kd0
  obtain ⟨fa, fc, rfl⟩ := r1.isSl
  obtain ⟨va, vc, rfl⟩ := r2.isSl
  obtain ⟨ma, mc, rfl⟩ := r3.isSl
  obtain ⟨ia, ic, rfl⟩ := r4.isSlD
  have hb := hW g hg
  have hc : ∀ i u, (drow x (.slice fa x.fields.length fc) (.slice va x.values.length vc) (.slice ma x.methods.length mc) (.slice ia x.inner.length ic))[i]? = some u → W.cell? ⟨g, o + (q * 8 + i), none⟩ = some u := fun i u hu => by
    rw [World.cell?_of_block hb]; exact hcell i u hu
  refine ⟨g, o, c, fa, fc, va, vc, ma, mc, ia, ic, hsl, hg, ?_, ?_, ?_, ?_, ?_, ?_, ?_, ?_, kd.old hW⟩
  · have := hc 0 _ rfl; simpa [Nat.add_assoc] using this
  · have := hc 1 _ rfl; simpa [Nat.add_assoc] using this
  · have := hc 2 _ rfl; simpa [Nat.add_assoc] using this
  · have := hc 3 _ rfl; simpa [Nat.add_assoc] using this
  · have := hc 4 _ rfl; simpa [Nat.add_assoc] using this
  · have := hc 5 _ rfl; simpa [Nat.add_assoc] using this
  · have := hc 6 _ rfl; simpa [Nat.add_assoc] using this
  · have := hc 7 _ rfl; simpa [Nat.add_assoc] using this
set_option maxHeartbeats 8000000 in
set_option maxRecDepth 20000 in
theorem formedR_any (f : Nat) (ds : List Dc) (v : Value) (w : World) (hT : Tabs w) (hf : FitD (f + 1) ds) (ht : TxtD (f + 1) ds) (h : HeldD (f + 1) w (fun b => b < w.heap.size) v ds) :
    Calls Tryd.prog 14 #[v] w fun e w' => e = .returned (.bool (fmL (f + 1) 0 ds)) ∧ Below w.heap.size w w' := by
  have HT := Lib.hid hT
  have HF := Lib.hid hf
  have HX := Lib.hid ht
  have HH := Lib.hid h
  have lds := hf.1
  obtain ⟨R, hR⟩ : ∃ R, fmL (f + 1) 0 ds = R := ⟨_, rfl⟩
  have HR : Hid (ds.all (fmD f 0) = R) := by rw [fmL_succ] at hR; exact hR
  rw [hR]
  obtain ⟨ad, c, hv⟩ := h.isSlD
  subst hv
  clear hT hf ht h hR
  go_enter Tryd.func14, Tryd.ntmps14
  go_wp2_with fail
  go_loopw [6] (fun i wq => ∃ q : Nat, q ≤ ds.length ∧ i = .int .i64 (q : Int) ∧ ds.all (fmD f 0) = (ds.drop q).all (fmD f 0) ∧ Below w.heap.size w wq) (fun i _ => ds.length - (intOf i).toNat)
  case atStart => exact ⟨0, by omega, rfl, rfl, Below.refl _ _⟩
  case round =>
    obtain ⟨q, hq, rfl, hall, hbq⟩ := hrel
    have HAL := Lib.hid hall
    have HBQ := Lib.hid hbq
    clear hall hbq
    by_cases hqn : q < ds.length
    · obtain ⟨x, hx⟩ : ∃ x, ds[q]? = some x := ⟨_, List.getElem?_eq_getElem hqn⟩
      have HXA : Hid (ds.all (fmD f 0) = (fmD f 0 x && (ds.drop (q + 1)).all (fmD f 0))) := by
        refine (?_ : _ = _)
        rw [HAL.out, List.drop_eq_getElem_cons hqn, List.all_cons, (List.getElem?_eq_some_iff.1 hx).2]
      have hq0 : (0 : Int) ≤ (q : Int) := by omega
      have hq1 : (q : Int) < (ds.length : Int) := by omega
      have hwq : IntKind.i64.wrap ((q : Int) + 1) = (q : Int) + 1 := by rw [IntKind.wrap_i64]; omega
      obtain ⟨g, o, c0, fa, fc, va, vc, ma, mc, ia, ic, hsl, hg, e0, e1, e2, e3, e4, e5, e6, e7, kd⟩ := decl_at HH.out (W := wr) (fun b hb => HBQ.out.block b hb) hx
      obtain ⟨rfl, rfl⟩ : ad = some ⟨g, o, none⟩ ∧ c = c0 := by
        injection hsl with h1 _ h3
        exact ⟨h1, h3⟩
      have hCall := formR f 0 x _ _ _ _ wr (by omega) (.inl rfl) (tabs_below HT.out HBQ.out) (HF.out.2 x (List.mem_of_getElem? hx)) (HX.out x (List.mem_of_getElem? hx)) (kd.more fun b hb => by have := HBQ.out.size; omega)
      have hdr : depR 0 x = 1 := by unfold depR; split <;> simp
      rw [hdr] at hCall
      obtain ⟨b, hb⟩ : ∃ b, fmD f 0 x = b := ⟨_, rfl⟩
      have HPX : Hid (fmD f 0 x = b) := hb
      rw [hb] at hCall
      clear hb hdr kd hsl hg hx
      go_wp2_with fail
      refine hCall.mono ?_
      rintro e W9 ⟨rfl, hb9⟩
      have HB9 := Lib.hid (HBQ.out.trans (hb9.mono HBQ.out.size))
      clear hCall hb9 e0 e1 e2 e3 e4 e5 e6 e7
      cases b
      · go_wp2_with fail
        go_ret
        exact ⟨retB (by rw [← HR.out, HXA.out, HPX.out]; rfl), HB9.out⟩
      go_wp2_with fail
      go_roundw
      case rel => exact ⟨q + 1, by omega, by go_num, by rw [HXA.out, HPX.out]; rfl, HB9.out⟩
      case measure => simp [intOf]; omega
    · have hqn' : ¬ (q : Int) < (ds.length : Int) := by omega
      go_wp2_with fail
      go_ret
      exact ⟨retB (by rw [← HR.out, HAL.out, List.drop_eq_nil_of_le (by omega)]; rfl), HBQ.out⟩
end Go.Proofs.YtglkgcpfdhneeaaDoor
