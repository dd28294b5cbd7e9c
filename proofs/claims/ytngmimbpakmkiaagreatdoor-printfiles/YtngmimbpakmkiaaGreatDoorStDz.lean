/-
  The walk over the program's own Strip.
-/
import Derived.Test.YtngmimbpakmkiaaGreatDoorStSz
namespace Go.Proofs.YtngmimbpakmkiaaGreatDoor
set_option linter.unusedVariables false
open Go.ChangeShapes Go.WideShapes Go.ChangeAt Go.RowKit

/-- texts short enough to be copied -/
def TxtD : Nat → List Dc → Prop
  | 0, _ => True
  | f + 1, ds => ∀ d ∈ ds, d.name.length ≤ 200000000 ∧ (∀ x ∈ d.fields, x.type.length ≤ 200000000 ∧ x.name.length ≤ 200000000) ∧ (∀ x ∈ d.values, x.name.length ≤ 200000000) ∧ (∀ x ∈ d.methods, x.name.length ≤ 200000000 ∧ x.inp.length ≤ 200000000 ∧ x.out.length ≤ 200000000) ∧ TxtD f d.inner
theorem stripL_len (f : Nat) (ds : List Dc) (h : f = 0 → ds = []) : (stripL f ds).length = ds.length := by
  cases f with
  | zero => rw [h rfl]; rfl
  | succ f => rw [stripL_succ, List.length_map]
theorem RowsIn.isSlS {α : Type} {w : World} {S : Nat → Prop} {k : Nat} {row : α → List Value} {v : Value} {xs : List α} (h : RowsIn w S k row v xs) : ∃ ad c, v = .slice ad xs.length c := by
  obtain ⟨ad, c, hv, _⟩ := h; exact ⟨ad, c, hv⟩
theorem HeldD.isSlS {w : World} {S : Nat → Prop} : ∀ {f : Nat} {v : Value} {ds : List Dc}, HeldD f w S v ds → ∃ ad c, v = .slice ad ds.length c
  | 0, v, ds, ⟨h, ad, c, hv⟩ => by subst h; exact ⟨ad, c, hv⟩
  | f + 1, v, ds, h => by obtain ⟨ad, c, hv, _⟩ := h; exact ⟨ad, c, hv⟩
def StAns (f : Nat) (w : World) (ds : List Dc) (e : Ending) (w' : World) : Prop :=
  ∃ ad c, e = .returned (.slice ad ds.length c) ∧ HeldD f w' (fun b => w.heap.size ≤ b ∧ b < w'.heap.size) (.slice ad ds.length c) (stripL f ds) ∧ Below w.heap.size w w' ∧
    ad = some ⟨w.heap.size, 0, none⟩ ∧ ∃ L, w'.ownsRow w.heap.size 46 8 (.slice ad ds.length c) ds.length L ∧ ∀ (j : Nat) (d : Dc), ds[j]? = some d → ∃ fs vs ms ins, (∀ (i : Nat) (u : Value), (drow (sD (f - 1) d) fs vs ms ins)[i]? = some u → L[j * 8 + i]? = some u) ∧ Kids (f - 1) w' (fun b => w.heap.size < b ∧ b < w'.heap.size) fs vs ms ins (sD (f - 1) d)
set_option maxHeartbeats 16000000 in
set_option maxRecDepth 20000 in
theorem strip_any : ∀ (f : Nat) (ds : List Dc) (v : Value) (w : World), FitD f ds → TxtD f ds → HeldD f w (fun b => b < w.heap.size) v ds →
    Calls Tryz.prog 14 #[v] w fun e w' => StAns f w ds e w' := by
  intro f
  induction f with
  | zero =>
    rintro ds v w _ _ ⟨rfl, ad, c, rfl⟩
    obtain ⟨i0, hi0, hz0, hz1, hz2⟩ := info_parts infoDcD
    go_enter Tryz.func14, Tryz.ntmps14
    go_wp2_with (refine wpList_make_full _ rfl _ _ 26 rfl w.heap.size 46 i0 _ 8 Tryz.underlying26 hi0 hz0 hz1 .i64 .i64 _ _ 0 rfl rfl rfl rfl (by omega) (by unfold maxLen; omega) (Nat.le_refl _) ?_)
    intro w1 hown hg1
    have HB1 : Hid (Below w.heap.size w w1) := ⟨hg1.os, hg1.tape, hg1.output, hg1.size, fun b hb => hg1.block b hb (by simp)⟩
    have HOW := Lib.hid hown
    clear hown hg1 hi0 hz0 hz1 hz2
    go_wp2_with fail
    go_loopw [11] (fun kk wr => kk = .int .i64 0 ∧ wr = w1) (fun _ _ => 0)
    case atStart => exact ⟨rfl, rfl⟩
    case round =>
      obtain ⟨rfl, rfl⟩ := hrel
      go_wp2_with fail
      go_ret
      exact ⟨_, _, rfl, ⟨rfl, _, _, rfl⟩, HB1.out, rfl, _, HOW.out, fun j d hj => by simp at hj⟩
  | succ f ih =>
  intro ds v w hfit htxt hheld
  obtain ⟨ad1, c1, rfl, hc1, H1⟩ := hheld
  have hl := hfit.1
  have HFT := Lib.hid hfit.2
  have HTX := Lib.hid htxt
  have Hf1 := Lib.hid H1
  obtain ⟨n, hn⟩ : ∃ n, ds.length = n := ⟨_, rfl⟩
  have HN := Lib.hid hn
  unfold StAns
  rw [hn] at hc1 hl ⊢
  clear H1 hn hfit htxt
  obtain ⟨i0, hi0, hz0, hz1, hz2⟩ := info_parts infoDcD
  have hby : i0.bytes * n ≤ 281474976710656 := by rw [hz2]; have : 136 * n ≤ 136 * 100000 := Nat.mul_le_mul_left 136 hl; omega
  go_enter Tryz.func14, Tryz.ntmps14
  go_wp2_with (refine wpList_make_full _ rfl _ _ 26 rfl w.heap.size 46 i0 _ 8 Tryz.underlying26 hi0 hz0 hz1 .i64 .i64 _ _ n rfl rfl rfl rfl hby (by unfold maxLen; omega) (Nat.le_refl _) ?_)
  intro w1 hown hg1
  have HOW := Lib.hid hown
  have HB1 : Hid (Below w.heap.size w w1) := ⟨hg1.os, hg1.tape, hg1.output, hg1.size, fun b hb => hg1.block b hb (by simp)⟩
  clear hown hg1 hi0 hz0 hz1 hz2 hby
  go_wp2_with fail
  go_loopw [11] (fun kk wr => ∃ (q : Nat) (L : List Value), kk = .int .i64 (q : Int) ∧ q ≤ n ∧ Below w.heap.size w wr ∧ wr.ownsRow w.heap.size 46 8 (.slice (some ⟨w.heap.size, 0, none⟩) n n) n L ∧ ∀ (j : Nat) (d : Dc), j < q → ds[j]? = some d → ∃ fs vs ms ins, (∀ (i : Nat) (u : Value), (drow (sD f d) fs vs ms ins)[i]? = some u → L[j * 8 + i]? = some u) ∧ Kids f wr (fun b => w.heap.size < b ∧ b < wr.heap.size) fs vs ms ins (sD f d)) (fun kk _ => n - (intOf kk).toNat)
  case atStart => exact ⟨0, _, rfl, by omega, HB1.out, HOW.out, fun j x hj => absurd hj (Nat.not_lt_zero _)⟩
  case round =>
    obtain ⟨q, L, rfl, hq, hbq, hown, hrows⟩ := hrel
    have HBQ := Lib.hid hbq
    have HOW := Lib.hid hown
    have HRO := Lib.hid hrows
    have hszq := hbq.size
    have hgs : w.heap.size < wr.heap.size := by
      obtain ⟨_, ⟨h2, _⟩ | ⟨g', cap', cur, hv, hg, hh, _⟩⟩ := hown
      · cases h2
      · simp only [Value.slice.injEq, Option.some.injEq, Addr.mk.injEq, and_true, true_and] at hv
        obtain ⟨rfl, _⟩ := hv
        exact (Array.getElem?_eq_some_iff.1 hh).1
    clear hbq hown hrows
    by_cases hqn : q < n
    · obtain ⟨d, hx⟩ : ∃ x, ds[q]? = some x := ⟨_, List.getElem?_eq_getElem (by have := HN.out; omega)⟩
      rcases Hf1.out with h0 | ⟨g3, o3, rfl, hg3, hk3⟩
      · rw [h0] at hx; simp at hx
      have b3 := HBQ.out.block g3 hg3
      have hfd := HFT.out d (List.mem_of_getElem? hx)
      have htd := HTX.out d (List.mem_of_getElem? hx)
      obtain ⟨fs, vs, ms, ins, hcell, rF, rV, rM, rI⟩ := hk3 q d hx
      obtain ⟨fa, fc, rfl⟩ := rF.isSlS
      obtain ⟨va, vc, rfl⟩ := rV.isSlS
      obtain ⟨ma, mc, rfl⟩ := rM.isSlS
      obtain ⟨ia, ic, rfl⟩ := rI.isSlS
      have e3_0 : wr.cell? ⟨g3, o3 + q * 8, none⟩ = some (.int .i64 d.kind) := by
        rw [World.cell?_of_block b3]
        have := hcell 0 _ rfl
        simpa [Nat.add_assoc] using this
      have e3_1 : wr.cell? ⟨g3, o3 + q * 8 + 1, none⟩ = some (.string (mkB d.name)) := by
        rw [World.cell?_of_block b3]
        have := hcell 1 _ rfl
        simpa [Nat.add_assoc] using this
      have e3_2 : wr.cell? ⟨g3, o3 + q * 8 + 2, none⟩ = some (.int .i64 d.line) := by
        rw [World.cell?_of_block b3]
        have := hcell 2 _ rfl
        simpa [Nat.add_assoc] using this
      have e3_3 : wr.cell? ⟨g3, o3 + q * 8 + 3, none⟩ = some (.int .i64 d.col) := by
        rw [World.cell?_of_block b3]
        have := hcell 3 _ rfl
        simpa [Nat.add_assoc] using this
      have e3_4 : wr.cell? ⟨g3, o3 + q * 8 + 4, none⟩ = some (.slice fa d.fields.length fc) := by
        rw [World.cell?_of_block b3]
        have := hcell 4 _ rfl
        simpa [Nat.add_assoc] using this
      have e3_5 : wr.cell? ⟨g3, o3 + q * 8 + 5, none⟩ = some (.slice va d.values.length vc) := by
        rw [World.cell?_of_block b3]
        have := hcell 5 _ rfl
        simpa [Nat.add_assoc] using this
      have e3_6 : wr.cell? ⟨g3, o3 + q * 8 + 6, none⟩ = some (.slice ma d.methods.length mc) := by
        rw [World.cell?_of_block b3]
        have := hcell 6 _ rfl
        simpa [Nat.add_assoc] using this
      have e3_7 : wr.cell? ⟨g3, o3 + q * 8 + 7, none⟩ = some (.slice ia d.inner.length ic) := by
        rw [World.cell?_of_block b3]
        have := hcell 7 _ rfl
        simpa [Nat.add_assoc] using this
      have hC1 := fun W => cloneB_any (mkB d.name) W (by rw [mkB_len]; have := htd.1; omega)
      have hC2 := fun W (hW : Below w.heap.size w W) => stF_any (S := fun b => b < w.heap.size) (.slice fa d.fields.length fc) d.fields W (rF.old fun b hb => hW.block b hb) (fun b hb => Nat.lt_of_lt_of_le hb hW.size) hfd.1 htd.2.1
      have hC3 := fun W (hW : Below w.heap.size w W) => stV_any (S := fun b => b < w.heap.size) (.slice va d.values.length vc) d.values W (rV.old fun b hb => hW.block b hb) (fun b hb => Nat.lt_of_lt_of_le hb hW.size) hfd.2.1 htd.2.2.1
      have hC4 := fun W (hW : Below w.heap.size w W) => stM_any (S := fun b => b < w.heap.size) (.slice ma d.methods.length mc) d.methods W (rM.old fun b hb => hW.block b hb) (fun b hb => Nat.lt_of_lt_of_le hb hW.size) hfd.2.2.1 htd.2.2.2.1
      have hC5 := fun W (hW : Below w.heap.size w W) => ih d.inner (.slice ia d.inner.length ic) W hfd.2.2.2 htd.2.2.2.2 ((HeldD.old (fun b hb => hW.block b hb) rI).more fun b hb => Nat.lt_of_lt_of_le hb hW.size)
      unfold StAns at hC5
      have hq0 : (0 : Int) ≤ (q : Int) := by omega
      have hq1 : (q : Int) < (n : Int) := by omega
      have hwq : IntKind.i64.wrap ((q : Int) + 1) = (q : Int) + 1 := by rw [IntKind.wrap_i64]; omega
      have HXX := Lib.hid hx
      have hnw := alloc_heap_new wr (.cells #[.int .i64 d.kind, .string (mkB d.name), .int .i64 d.line, .int .i64 d.col, .slice fa d.fields.length fc, .slice va d.values.length vc, .slice ma d.methods.length mc, .slice ia d.inner.length ic] 46)
      have HOX : Hid ((wr.alloc (.cells #[.int .i64 d.kind, .string (mkB d.name), .int .i64 d.line, .int .i64 d.col, .slice fa d.fields.length fc, .slice va d.values.length vc, .slice ma d.methods.length mc, .slice ia d.inner.length ic] 46)).ownsRow w.heap.size 46 8 (.slice (some ⟨w.heap.size, 0, none⟩) n n) n L) := own_grown HOW.out (alloc_heap_old _ _ _ hgs)
      have HBX := Lib.hid (HBQ.out.alloc hszq (.cells #[.int .i64 d.kind, .string (mkB d.name), .int .i64 d.line, .int .i64 d.col, .slice fa d.fields.length fc, .slice va d.values.length vc, .slice ma d.methods.length mc, .slice ia d.inner.length ic] 46))
      have HBXr := Lib.hid ((Below.refl _ wr).alloc (Nat.le_refl _) (.cells #[.int .i64 d.kind, .string (mkB d.name), .int .i64 d.line, .int .i64 d.col, .slice fa d.fields.length fc, .slice va d.values.length vc, .slice ma d.methods.length mc, .slice ia d.inner.length ic] 46))
      have hszX : (wr.alloc (.cells #[.int .i64 d.kind, .string (mkB d.name), .int .i64 d.line, .int .i64 d.col, .slice fa d.fields.length fc, .slice va d.values.length vc, .slice ma d.methods.length mc, .slice ia d.inner.length ic] 46)).heap.size = wr.heap.size + 1 := by simp
      clear hk3 b3 Hf1 hx hfd htd hcell rF rV rM rI ih
      go_upto_region 5 with fail
      clear e3_0 e3_1 e3_2 e3_3 e3_4 e3_5 e3_6 e3_7
      generalize wr.alloc (.cells #[.int .i64 d.kind, .string (mkB d.name), .int .i64 d.line, .int .i64 d.col, .slice fa d.fields.length fc, .slice va d.values.length vc, .slice ma d.methods.length mc, .slice ia d.inner.length ic] 46) = X at *
      obtain ⟨D, hD⟩ : ∃ D, wr.heap.size = D := ⟨_, rfl⟩
      rw [hD] at hnw hszX hgs ⊢
      obtain ⟨z0, hz0⟩ := own_some HOX.out q 0 hqn (by decide)
      obtain ⟨z1, hz1⟩ := own_some HOX.out q 1 hqn (by decide)
      obtain ⟨z2, hz2⟩ := own_some HOX.out q 2 hqn (by decide)
      obtain ⟨z3, hz3⟩ := own_some HOX.out q 3 hqn (by decide)
      obtain ⟨z4, hz4⟩ := own_some HOX.out q 4 hqn (by decide)
      obtain ⟨z5, hz5⟩ := own_some HOX.out q 5 hqn (by decide)
      obtain ⟨z6, hz6⟩ := own_some HOX.out q 6 hqn (by decide)
      obtain ⟨z7, hz7⟩ := own_some HOX.out q 7 hqn (by decide)
      have k0 : ∀ W, (Below w.heap.size w W ∧ W.heap[D]? = X.heap[D]?) → W.cell? ⟨D, 0, none⟩ = some (.int .i64 d.kind) := fun W hW => by
        have := hW.2.trans hnw
        simp [World.cell?, this]
      have k1 : ∀ W, (Below w.heap.size w W ∧ W.heap[D]? = X.heap[D]?) → W.cell? ⟨D, 1, none⟩ = some (.string (mkB d.name)) := fun W hW => by
        have := hW.2.trans hnw
        simp [World.cell?, this]
      have k4 : ∀ W, (Below w.heap.size w W ∧ W.heap[D]? = X.heap[D]?) → W.cell? ⟨D, 4, none⟩ = some (.slice fa d.fields.length fc) := fun W hW => by
        have := hW.2.trans hnw
        simp [World.cell?, this]
      have k5 : ∀ W, (Below w.heap.size w W ∧ W.heap[D]? = X.heap[D]?) → W.cell? ⟨D, 5, none⟩ = some (.slice va d.values.length vc) := fun W hW => by
        have := hW.2.trans hnw
        simp [World.cell?, this]
      have k6 : ∀ W, (Below w.heap.size w W ∧ W.heap[D]? = X.heap[D]?) → W.cell? ⟨D, 6, none⟩ = some (.slice ma d.methods.length mc) := fun W hW => by
        have := hW.2.trans hnw
        simp [World.cell?, this]
      have k7 : ∀ W, (Below w.heap.size w W ∧ W.heap[D]? = X.heap[D]?) → W.cell? ⟨D, 7, none⟩ = some (.slice ia d.inner.length ic) := fun W hW => by
        have := hW.2.trans hnw
        simp [World.cell?, this]
      have HCF : Hid (∀ W, Below X.heap.size X W → (W.cell? ⟨w.heap.size, q * 8, none⟩ = some z0 ∧ W.frozen? ⟨w.heap.size, q * 8, none⟩ = false) ∧ (W.cell? ⟨w.heap.size, q * 8 + 1, none⟩ = some z1 ∧ W.frozen? ⟨w.heap.size, q * 8 + 1, none⟩ = false) ∧ (W.cell? ⟨w.heap.size, q * 8 + 2, none⟩ = some z2 ∧ W.frozen? ⟨w.heap.size, q * 8 + 2, none⟩ = false) ∧ (W.cell? ⟨w.heap.size, q * 8 + 3, none⟩ = some z3 ∧ W.frozen? ⟨w.heap.size, q * 8 + 3, none⟩ = false) ∧ (W.cell? ⟨w.heap.size, q * 8 + 4, none⟩ = some z4 ∧ W.frozen? ⟨w.heap.size, q * 8 + 4, none⟩ = false) ∧ (W.cell? ⟨w.heap.size, q * 8 + 5, none⟩ = some z5 ∧ W.frozen? ⟨w.heap.size, q * 8 + 5, none⟩ = false) ∧ (W.cell? ⟨w.heap.size, q * 8 + 6, none⟩ = some z6 ∧ W.frozen? ⟨w.heap.size, q * 8 + 6, none⟩ = false) ∧ (W.cell? ⟨w.heap.size, q * 8 + 7, none⟩ = some z7 ∧ W.frozen? ⟨w.heap.size, q * 8 + 7, none⟩ = false)) := fun W hW => ⟨⟨by rw [hW.cell (show w.heap.size < X.heap.size by omega)]; exact (own_at HOX.out _ _ hz0).1, by rw [hW.frozen (show w.heap.size < X.heap.size by omega)]; exact (own_at HOX.out _ _ hz0).2⟩, ⟨by rw [hW.cell (show w.heap.size < X.heap.size by omega)]; exact (own_at HOX.out _ _ hz1).1, by rw [hW.frozen (show w.heap.size < X.heap.size by omega)]; exact (own_at HOX.out _ _ hz1).2⟩, ⟨by rw [hW.cell (show w.heap.size < X.heap.size by omega)]; exact (own_at HOX.out _ _ hz2).1, by rw [hW.frozen (show w.heap.size < X.heap.size by omega)]; exact (own_at HOX.out _ _ hz2).2⟩, ⟨by rw [hW.cell (show w.heap.size < X.heap.size by omega)]; exact (own_at HOX.out _ _ hz3).1, by rw [hW.frozen (show w.heap.size < X.heap.size by omega)]; exact (own_at HOX.out _ _ hz3).2⟩, ⟨by rw [hW.cell (show w.heap.size < X.heap.size by omega)]; exact (own_at HOX.out _ _ hz4).1, by rw [hW.frozen (show w.heap.size < X.heap.size by omega)]; exact (own_at HOX.out _ _ hz4).2⟩, ⟨by rw [hW.cell (show w.heap.size < X.heap.size by omega)]; exact (own_at HOX.out _ _ hz5).1, by rw [hW.frozen (show w.heap.size < X.heap.size by omega)]; exact (own_at HOX.out _ _ hz5).2⟩, ⟨by rw [hW.cell (show w.heap.size < X.heap.size by omega)]; exact (own_at HOX.out _ _ hz6).1, by rw [hW.frozen (show w.heap.size < X.heap.size by omega)]; exact (own_at HOX.out _ _ hz6).2⟩, ⟨by rw [hW.cell (show w.heap.size < X.heap.size by omega)]; exact (own_at HOX.out _ _ hz7).1, by rw [hW.frozen (show w.heap.size < X.heap.size by omega)]; exact (own_at HOX.out _ _ hz7).2⟩⟩
      have hSb : ∀ W, Below X.heap.size X W → (Below w.heap.size w W ∧ W.heap[D]? = X.heap[D]?) := fun W hW => ⟨HBX.out.trans (hW.mono HBX.out.size), hW.block D (by omega)⟩
      have hSt : ∀ (W : World) (u0 u1 u2 u3 u4 u5 u6 u7 : Value), (Below w.heap.size w W ∧ W.heap[D]? = X.heap[D]?) → (Below w.heap.size w ((((((((W.setCell ⟨w.heap.size, q * 8, none⟩ u0).setCell ⟨w.heap.size, q * 8 + 1, none⟩ u1).setCell ⟨w.heap.size, q * 8 + 2, none⟩ u2).setCell ⟨w.heap.size, q * 8 + 3, none⟩ u3).setCell ⟨w.heap.size, q * 8 + 4, none⟩ u4).setCell ⟨w.heap.size, q * 8 + 5, none⟩ u5).setCell ⟨w.heap.size, q * 8 + 6, none⟩ u6).setCell ⟨w.heap.size, q * 8 + 7, none⟩ u7) ∧ ((((((((W.setCell ⟨w.heap.size, q * 8, none⟩ u0).setCell ⟨w.heap.size, q * 8 + 1, none⟩ u1).setCell ⟨w.heap.size, q * 8 + 2, none⟩ u2).setCell ⟨w.heap.size, q * 8 + 3, none⟩ u3).setCell ⟨w.heap.size, q * 8 + 4, none⟩ u4).setCell ⟨w.heap.size, q * 8 + 5, none⟩ u5).setCell ⟨w.heap.size, q * 8 + 6, none⟩ u6).setCell ⟨w.heap.size, q * 8 + 7, none⟩ u7).heap[D]? = X.heap[D]?) := fun W u0 u1 u2 u3 u4 u5 u6 u7 hW => ⟨((((((((hW.1.setCell (p := ⟨w.heap.size, _, none⟩) (Nat.le_refl _) _).setCell (p := ⟨w.heap.size, _, none⟩) (Nat.le_refl _) _).setCell (p := ⟨w.heap.size, _, none⟩) (Nat.le_refl _) _).setCell (p := ⟨w.heap.size, _, none⟩) (Nat.le_refl _) _).setCell (p := ⟨w.heap.size, _, none⟩) (Nat.le_refl _) _).setCell (p := ⟨w.heap.size, _, none⟩) (Nat.le_refl _) _).setCell (p := ⟨w.heap.size, _, none⟩) (Nat.le_refl _) _).setCell (p := ⟨w.heap.size, _, none⟩) (Nat.le_refl _) _), by rw [Below.heap_setCell _ _ _ _ (show D ≠ w.heap.size by omega), Below.heap_setCell _ _ _ _ (show D ≠ w.heap.size by omega), Below.heap_setCell _ _ _ _ (show D ≠ w.heap.size by omega), Below.heap_setCell _ _ _ _ (show D ≠ w.heap.size by omega), Below.heap_setCell _ _ _ _ (show D ≠ w.heap.size by omega), Below.heap_setCell _ _ _ _ (show D ≠ w.heap.size by omega), Below.heap_setCell _ _ _ _ (show D ≠ w.heap.size by omega), Below.heap_setCell _ _ _ _ (show D ≠ w.heap.size by omega)]; exact hW.2⟩
      have hSr := hSb _ ((Below.refl _ X).drew)
      have hbr : Below X.heap.size X X.drew := (Below.refl _ _).drew
      clear hnw hz0 hz1 hz2 hz3 hz4 hz5 hz6 hz7
      have HEND : Hid (∀ (W : World) (F' V' M' I' : Value), Below X.heap.size X W → Kids f W (fun b => X.heap.size ≤ b ∧ b < W.heap.size) F' V' M' I' (sD f d) → ∃ (L' : List Value), Below w.heap.size w ((((((((W.setCell ⟨w.heap.size, q * 8, none⟩ (.int .i64 d.kind)).setCell ⟨w.heap.size, q * 8 + 1, none⟩ (.string (mkB d.name))).setCell ⟨w.heap.size, q * 8 + 2, none⟩ (.int .i64 0)).setCell ⟨w.heap.size, q * 8 + 3, none⟩ (.int .i64 0)).setCell ⟨w.heap.size, q * 8 + 4, none⟩ F').setCell ⟨w.heap.size, q * 8 + 5, none⟩ V').setCell ⟨w.heap.size, q * 8 + 6, none⟩ M').setCell ⟨w.heap.size, q * 8 + 7, none⟩ I') ∧ ((((((((W.setCell ⟨w.heap.size, q * 8, none⟩ (.int .i64 d.kind)).setCell ⟨w.heap.size, q * 8 + 1, none⟩ (.string (mkB d.name))).setCell ⟨w.heap.size, q * 8 + 2, none⟩ (.int .i64 0)).setCell ⟨w.heap.size, q * 8 + 3, none⟩ (.int .i64 0)).setCell ⟨w.heap.size, q * 8 + 4, none⟩ F').setCell ⟨w.heap.size, q * 8 + 5, none⟩ V').setCell ⟨w.heap.size, q * 8 + 6, none⟩ M').setCell ⟨w.heap.size, q * 8 + 7, none⟩ I').ownsRow w.heap.size 46 8 (.slice (some ⟨w.heap.size, 0, none⟩) n n) n L' ∧ ∀ (j : Nat) (y : Dc), j < q + 1 → ds[j]? = some y → ∃ fs vs ms ins, (∀ (i : Nat) (u : Value), (drow (sD f y) fs vs ms ins)[i]? = some u → L'[j * 8 + i]? = some u) ∧ Kids f ((((((((W.setCell ⟨w.heap.size, q * 8, none⟩ (.int .i64 d.kind)).setCell ⟨w.heap.size, q * 8 + 1, none⟩ (.string (mkB d.name))).setCell ⟨w.heap.size, q * 8 + 2, none⟩ (.int .i64 0)).setCell ⟨w.heap.size, q * 8 + 3, none⟩ (.int .i64 0)).setCell ⟨w.heap.size, q * 8 + 4, none⟩ F').setCell ⟨w.heap.size, q * 8 + 5, none⟩ V').setCell ⟨w.heap.size, q * 8 + 6, none⟩ M').setCell ⟨w.heap.size, q * 8 + 7, none⟩ I') (fun b => w.heap.size < b ∧ b < ((((((((W.setCell ⟨w.heap.size, q * 8, none⟩ (.int .i64 d.kind)).setCell ⟨w.heap.size, q * 8 + 1, none⟩ (.string (mkB d.name))).setCell ⟨w.heap.size, q * 8 + 2, none⟩ (.int .i64 0)).setCell ⟨w.heap.size, q * 8 + 3, none⟩ (.int .i64 0)).setCell ⟨w.heap.size, q * 8 + 4, none⟩ F').setCell ⟨w.heap.size, q * 8 + 5, none⟩ V').setCell ⟨w.heap.size, q * 8 + 6, none⟩ M').setCell ⟨w.heap.size, q * 8 + 7, none⟩ I').heap.size) fs vs ms ins (sD f y)) := fun W F' V' M' I' hW hkd => by
        have ho := own_grown HOX.out (hW.block w.heap.size (by omega))
        have hsz : ((((((((W.setCell ⟨w.heap.size, q * 8, none⟩ (.int .i64 d.kind)).setCell ⟨w.heap.size, q * 8 + 1, none⟩ (.string (mkB d.name))).setCell ⟨w.heap.size, q * 8 + 2, none⟩ (.int .i64 0)).setCell ⟨w.heap.size, q * 8 + 3, none⟩ (.int .i64 0)).setCell ⟨w.heap.size, q * 8 + 4, none⟩ F').setCell ⟨w.heap.size, q * 8 + 5, none⟩ V').setCell ⟨w.heap.size, q * 8 + 6, none⟩ M').setCell ⟨w.heap.size, q * 8 + 7, none⟩ I').heap.size = W.heap.size := by simp [World.setCell]
        have hfar : ∀ b, b ≠ w.heap.size → ((((((((W.setCell ⟨w.heap.size, q * 8, none⟩ (.int .i64 d.kind)).setCell ⟨w.heap.size, q * 8 + 1, none⟩ (.string (mkB d.name))).setCell ⟨w.heap.size, q * 8 + 2, none⟩ (.int .i64 0)).setCell ⟨w.heap.size, q * 8 + 3, none⟩ (.int .i64 0)).setCell ⟨w.heap.size, q * 8 + 4, none⟩ F').setCell ⟨w.heap.size, q * 8 + 5, none⟩ V').setCell ⟨w.heap.size, q * 8 + 6, none⟩ M').setCell ⟨w.heap.size, q * 8 + 7, none⟩ I').heap[b]? = W.heap[b]? := fun b hb => by rw [Below.heap_setCell _ _ _ _ (show b ≠ w.heap.size from hb), Below.heap_setCell _ _ _ _ (show b ≠ w.heap.size from hb), Below.heap_setCell _ _ _ _ (show b ≠ w.heap.size from hb), Below.heap_setCell _ _ _ _ (show b ≠ w.heap.size from hb), Below.heap_setCell _ _ _ _ (show b ≠ w.heap.size from hb), Below.heap_setCell _ _ _ _ (show b ≠ w.heap.size from hb), Below.heap_setCell _ _ _ _ (show b ≠ w.heap.size from hb), Below.heap_setCell _ _ _ _ (show b ≠ w.heap.size from hb)]
        have hWs := hW.size
        refine ⟨_, ?_, (own_setAt (own_setAt (own_setAt (own_setAt (own_setAt (own_setAt (own_setAt (own_setAt ho (q * 8) (.int .i64 d.kind)) (q * 8 + 1) (.string (mkB d.name))) (q * 8 + 2) (.int .i64 0)) (q * 8 + 3) (.int .i64 0)) (q * 8 + 4) F') (q * 8 + 5) V') (q * 8 + 6) M') (q * 8 + 7) I'), ?_⟩
        · exact (((((((((HBX.out.trans (hW.mono HBX.out.size)).setCell (p := ⟨w.heap.size, _, none⟩) (Nat.le_refl _) _).setCell (p := ⟨w.heap.size, _, none⟩) (Nat.le_refl _) _).setCell (p := ⟨w.heap.size, _, none⟩) (Nat.le_refl _) _).setCell (p := ⟨w.heap.size, _, none⟩) (Nat.le_refl _) _).setCell (p := ⟨w.heap.size, _, none⟩) (Nat.le_refl _) _).setCell (p := ⟨w.heap.size, _, none⟩) (Nat.le_refl _) _).setCell (p := ⟨w.heap.size, _, none⟩) (Nat.le_refl _) _).setCell (p := ⟨w.heap.size, _, none⟩) (Nat.le_refl _) _)
        · intro j y hj hy
          have hlen : L.length = n * 8 := ho.1
          by_cases hjq : j = q
          · subst hjq
            obtain rfl : d = y := Option.some.inj (HXX.out.symm.trans hy)
            refine ⟨F', V', M', I', fun i u hu => ?_, (hkd.old fun b hb => hfar b (by have := hb.1; omega)).more fun b hb => ⟨by have := hb.1; omega, by rw [hsz]; exact hb.2⟩⟩
            have hiK : i < 8 := (List.getElem?_eq_some_iff.1 hu).1
            have hm : (j + 1) * 8 ≤ n * 8 := Nat.mul_le_mul_right 8 hqn
            rw [Nat.succ_mul] at hm
            have hi6 : i = 0 ∨ i = 1 ∨ i = 2 ∨ i = 3 ∨ i = 4 ∨ i = 5 ∨ i = 6 ∨ i = 7 := by omega
            rcases hi6 with rfl | rfl | rfl | rfl | rfl | rfl | rfl | rfl
            all_goals
              simp only [drow, sD] at hu
              simp [List.getElem?_set, hlen] at hu ⊢
              first | (subst hu; omega) | (refine ⟨?_, hu⟩; omega) | (constructor <;> omega) | omega
          · obtain ⟨fs, vs, ms, ins, h0, h1⟩ := HRO.out j y (by omega) hy
            refine ⟨fs, vs, ms, ins, fun i u hu => ?_, (h1.old fun b hb => ?_).more fun b hb => ⟨hb.1, by rw [hsz]; have := hb.2; omega⟩⟩
            · have hiK : i < 8 := (List.getElem?_eq_some_iff.1 hu).1
              have h0 := h0 i u hu
              rw [List.getElem?_set_ne (fun e => (row_other 8 j q i 7 hiK (by decide) hjq) (by simpa using e.symm))]
              rw [List.getElem?_set_ne (fun e => (row_other 8 j q i 6 hiK (by decide) hjq) (by simpa using e.symm))]
              rw [List.getElem?_set_ne (fun e => (row_other 8 j q i 5 hiK (by decide) hjq) (by simpa using e.symm))]
              rw [List.getElem?_set_ne (fun e => (row_other 8 j q i 4 hiK (by decide) hjq) (by simpa using e.symm))]
              rw [List.getElem?_set_ne (fun e => (row_other 8 j q i 3 hiK (by decide) hjq) (by simpa using e.symm))]
              rw [List.getElem?_set_ne (fun e => (row_other 8 j q i 2 hiK (by decide) hjq) (by simpa using e.symm))]
              rw [List.getElem?_set_ne (fun e => (row_other 8 j q i 1 hiK (by decide) hjq) (by simpa using e.symm))]
              rw [List.getElem?_set_ne (fun e => (row_other 8 j q i 0 hiK (by decide) hjq) (by simpa using e.symm))]
              exact h0
            · rw [hfar b (by have := hb.1; omega), hW.block b (by have := hb.2; omega), HBXr.out.block b hb.2]
      clear hszX
      go_region_held_law (fun W => Below w.heap.size w W ∧ W.heap[D]? = X.heap[D]?) (first | with_reducible exact hSr | with_reducible exact hS5 | with_reducible exact hS4 | with_reducible exact hS3 | with_reducible exact hS2 | with_reducible exact hS1 | with_reducible exact hSt _ _ _ _ _ _ _ _ _ hS5)
        (first
          | (go_at_call 25; refine (hC1 _).mono ?_; rintro e W1 ⟨rfl, hb1'⟩; have hb1 : Below X.heap.size X W1 := Below.trans hbr (hb1'.mono hbr.size); have hS1 := hSb W1 hb1)
          | (go_at_call 26; refine (hC2 _ (And.left (by assumption))).mono ?_; rintro e W2 ⟨rfl, hR2, hb2', hz2⟩; have hb2 : Below X.heap.size X W2 := Below.trans hb1 (hb2'.mono hb1.size); have hS2 := hSb W2 hb2; have HR2 := Lib.hid hR2; clear hR2)
          | (go_at_call 27; refine (hC3 _ (And.left (by assumption))).mono ?_; rintro e W3 ⟨rfl, hR3, hb3', hz3⟩; have hb3 : Below X.heap.size X W3 := Below.trans hb2 (hb3'.mono hb2.size); have hS3 := hSb W3 hb3; have HR3 := Lib.hid hR3; clear hR3)
          | (go_at_call 28; refine (hC4 _ (And.left (by assumption))).mono ?_; rintro e W4 ⟨rfl, hR4, hb4', hz4⟩; have hb4 : Below X.heap.size X W4 := Below.trans hb3 (hb4'.mono hb3.size); have hS4 := hSb W4 hb4; have HR4 := Lib.hid hR4; clear hR4)
          | (go_at_call 14; refine (hC5 _ (And.left (by assumption))).mono ?_; rintro e W5 ⟨ai, ci, rfl, hR5, hb5', hqa, hqb⟩; clear hqa hqb; have hb5 : Below X.heap.size X W5 := Below.trans hb4 (hb5'.mono hb4.size); have hS5 := hSb W5 hb5; have HR5 := Lib.hid hR5; clear hR5; obtain ⟨⟨c0, f0⟩, ⟨c1, f1⟩, ⟨c2, f2⟩, ⟨c3, f3⟩, ⟨c4, f4⟩, ⟨c5, f5⟩, ⟨c6, f6⟩, ⟨c7, f7⟩⟩ := HCF.out W5 hb5))
      all_goals
        have z1 := hb1.size
        have z2 := hb2.size
        have z3 := hb3.size
        have z4 := hb4.size
        have z5 := hb5'.size
        have z6 := hb4'.size
        have z7 := hb3'.size
        have hKD : Kids f W5 (fun b => X.heap.size ≤ b ∧ b < W5.heap.size) (.slice (some ⟨W1.heap.size, 0, none⟩) d.fields.length d.fields.length) (.slice (some ⟨W2.heap.size, 0, none⟩) d.values.length d.values.length) (.slice (some ⟨W3.heap.size, 0, none⟩) d.methods.length d.methods.length) (.slice ai d.inner.length ci) (sD f d) :=
          ⟨(HR2.out.old fun b hb => by rw [hb5'.block b (by omega), hb4'.block b (by omega), hb3'.block b (by omega)]).more fun b hb => by omega,
           (HR3.out.old fun b hb => by rw [hb5'.block b (by omega), hb4'.block b (by omega)]).more fun b hb => by omega,
           (HR4.out.old fun b hb => by rw [hb5'.block b (by omega)]).more fun b hb => by omega,
           HR5.out.more fun b hb => by omega⟩
        obtain ⟨L', r1, r2, r3⟩ := HEND.out W5 _ _ _ _ hb5 hKD
        have HRR1 := Lib.hid r1
        have HRR2 := Lib.hid r2
        have HRR3 := Lib.hid r3
        clear r1 r2 r3 hKD z1 z2 z3 z4 z5 z6 z7
        go_wp2_with fail
        go_roundw
        case rel => exact ⟨q + 1, L', by go_num, by omega, HRR1.out, HRR2.out, HRR3.out⟩
        case measure => simp [intOf]; omega
    · have hqn' : ¬ (q : Int) < (n : Int) := by omega
      obtain rfl : q = n := by omega
      have HAN : Hid (HeldD (f + 1) wr (fun b => w.heap.size ≤ b ∧ b < wr.heap.size) (.slice (some ⟨w.heap.size, 0, none⟩) q q) (stripL (f + 1) ds)) := by
        refine (?_ : HeldD _ _ _ _ _)
        rw [stripL_succ]
        refine ⟨_, q, by rw [List.length_map, HN.out], by rw [List.length_map, HN.out]; exact Nat.le_refl _, .inr ⟨w.heap.size, 0, rfl, ⟨Nat.le_refl _, hgs⟩, fun j y hj => ?_⟩⟩
        rw [List.getElem?_map] at hj
        obtain ⟨z, hz, rfl⟩ := Option.map_eq_some_iff.1 hj
        have hjn := (List.getElem?_eq_some_iff.1 hz).1
        obtain ⟨fs, vs, ms, ins, h0, h1⟩ := HRO.out j z (by have := HN.out; omega) hz
        have h1 := h1.more (S' := fun b => w.heap.size ≤ b ∧ b < wr.heap.size) fun b hb => ⟨by have := hb.1; omega, hb.2⟩
        refine ⟨fs, vs, ms, ins, fun i u hu => ?_, h1⟩
        rw [Nat.zero_add]
        exact (own_at HOW.out _ _ (h0 i u hu)).1
      go_wp2_with fail
      go_ret
      exact ⟨_, _, rfl, HAN.out, HBQ.out, rfl, L, HOW.out, fun j z hz => HRO.out j z (by have := HN.out; have := (List.getElem?_eq_some_iff.1 hz).1; omega) hz⟩
end Go.Proofs.YtngmimbpakmkiaaGreatDoor
