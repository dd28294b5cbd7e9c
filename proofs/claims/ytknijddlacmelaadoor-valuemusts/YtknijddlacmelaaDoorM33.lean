/-
  The walk over the document's small, of any value that a machine can hold: if its answer is not below 0, all lists and texts are short.
-/
import Derived.Test.YtknijddlacmelaaDoorM10
import Derived.Test.YtknijddlacmelaaDoorM12
namespace Go.Proofs.YtknijddlacmelaaDoor
set_option linter.unusedVariables false
open Go.ChangeShapes Go.WideShapes Go.ChangeAt Go.RowKit


def SmN (f : Nat) (left : Int) (x : Nd) (w : World) (e : Ending) (w' : World) : Prop := ∃ r : Int, e = .returned (.int .i64 r) ∧ (0 ≤ r → r < left ∧ FitG 100000 10000 f x ∧ (wtN f x : Int) + r ≤ left) ∧ Below w.heap.size w w'
set_option maxHeartbeats 32000000 in
set_option maxRecDepth 20000 in
theorem smallN_any : ∀ (f : Nat) (x : Nd) (fs : Value) (dep left : Int) (w : World), FitG 140737488355328 140737488355328 f x → 0 ≤ dep ∧ dep ≤ 41 → -100000000000000000 ≤ left ∧ left ≤ 1000 → HeldG rawS w (fun b => b < w.heap.size) f fs x.fields →
    Calls Tryd.prog 14 #[.agg #[.int .i64 x.kind, .int .i64 x.n, .int .u64 x.u, .bool x.b, .string (mkB x.s), .int .i64 x.type, fs], .int .i64 dep, .int .i64 left] w fun e w' => SmN f left x w e w' := by
  intro f
  induction f using Nat.strongRecOn with
  | _ f ih =>
  intro x fs dep left w hfit hdep hleft hHG
  obtain ⟨xa, xc, rfl⟩ := HeldG.isSl hHG
  obtain ⟨xkind, xn, xu, xb, xs, xt, fl⟩ := x
  dsimp only at hHG ⊢
  have hsl := hfit.s
  dsimp only at hsl
  obtain ⟨n, hn⟩ : ∃ n, fl.length = n := ⟨_, rfl⟩
  have HN := Lib.hid hn
  rw [hn] at hHG ⊢
  have HHG := Lib.hid hHG
  have HFIT := Lib.hid hfit
  have HIH := Lib.hid ih
  have HL := Lib.hid hleft
  obtain ⟨Y, hY, hC, hb, hYs⟩ := box_new w #[.int .i64 xkind, .int .i64 xn, .int .u64 xu, .bool xb, .string (mkB xs), .int .i64 xt, .slice xa n xc] 25
  have HY := Lib.hid hY
  have HBY := Lib.hid hb
  have HC := Lib.hid hC
  have c4 : Y.cell? ⟨w.heap.size, 4, none⟩ = some (.string (mkB xs)) := cell_at hC 4 rfl
  have c6 : Y.cell? ⟨w.heap.size, 6, none⟩ = some (.slice xa n xc) := cell_at hC 6 rfl
  have HSL : Hid (xs.length ≤ 140737488355328) := hsl
  have HNO : Hid (∀ W, Below w.heap.size w W → SmN f left ⟨xkind, xn, xu, xb, xs, xt, fl⟩ w (.returned (.int .i64 (-1))) W) := fun W hW => ⟨-1, rfl, fun h => absurd h (by decide), hW⟩
  have hYl : w.heap.size + 1 ≤ Y.heap.size := by omega
  clear hn hHG hfit ih hY hb hC hYs hsl hleft
  go_enter Tryd.func14, Tryd.ntmps14
  go_upto_region 1 with fail
  rw [HY.out]
  go_upto_region 2 with fail
  generalize hE : wrap64 (wrap64 (left - 1) - wrap64 (((mkB xs).size : Int) / 100)) = L1 at *
  have HL1 : Hid (L1 = left - 1 - (xs.length : Int) / 100) := by
    refine (?_ : _ = _)
    have h1 := HL.out
    have h2 := HSL.out
    rw [← hE, mkB_size]
    unfold wrap64
    omega
  clear hE c4
  by_cases hd : 40 < dep
  · go_wp2_with fail
    go_ret
    exact HNO.out _ HBY.out
  by_cases hL : L1 < 0
  · go_wp2_with fail
    go_ret
    exact HNO.out _ HBY.out
  have HL0 : Hid (0 ≤ L1) := by
    refine (?_ : (0 : Int) ≤ L1)
    omega
  go_wp2_with fail
  clear c6 hL
  go_loopw [2, 25] (fun l i wr => ∃ (j : Nat) (lf : Int), l = .int .i64 lf ∧ i = .int .i64 (j : Int) ∧ j ≤ n ∧ (lf + (j : Int) ≤ L1 ∧ -(j : Int) ≤ lf) ∧ ((∀ p ∈ fl.take j, p.2.length ≤ 10000 ∧ ∀ y ∈ p.2, FitG 100000 10000 (f - 1) y) ∧ lf + ((sumL (fun p => 1 + sumL (wtN (f - 1)) p.2) (fl.take j) : Nat) : Int) ≤ L1) ∧ Below Y.heap.size Y wr) (fun _ i _ => n - (intOf i).toNat)
  case atStart => exact ⟨0, L1, rfl, rfl, Nat.zero_le _, ⟨by omega, by have := HL0.out; omega⟩, ⟨fun p hp => by simp at hp, by simp [sumL]⟩, Below.refl _ _⟩
  case round =>
    generalize wr = w1 at *
    obtain ⟨j, lf, rfl, rfl, hj, hlf, hoks, hbel⟩ := hrel
    have HLF := Lib.hid hlf
    have HOK := Lib.hid hoks
    have HBE := Lib.hid hbel
    have hBw := HBY.out.trans (hbel.mono HBY.out.size)
    have HBW := Lib.hid hBw
    have hws := hbel.size
    have hc1 := (hbel.block _ (by omega)).trans HC.out
    have a6 : w1.cell? ⟨w.heap.size, 6, none⟩ = some (.slice xa n xc) := cell_at hc1 6 rfl
    clear hlf hoks hbel hc1
    by_cases hjn : j < n
    · obtain ⟨y, hy⟩ : ∃ y, fl[j]? = some y := ⟨_, List.getElem?_eq_getElem (by have := HN.out; omega)⟩
      obtain ⟨f', g, go, gc, va, vc, hf', hsl, hg, e0, e1, hvals⟩ := HeldG.at HHG.out (W := w1) (fun b hb => hBw.block b hb) hy
      subst hf'
      rw [HN.out] at hsl
      obtain ⟨rfl, rfl⟩ := slice_two hsl
      have HTK : Hid (fl.take (j + 1) = fl.take j ++ [y]) := take_snoc hy
      obtain ⟨hfl1, hfl2⟩ := HFIT.out.2.2 y (List.mem_of_getElem? hy)
      have hn1 : n ≤ 140737488355328 := by have h1 := HFIT.out.2.1; have h2 := HN.out; dsimp only at h1; omega
      obtain ⟨ynum, ys⟩ := y
      dsimp only at hvals e0 e1 hfl1 hfl2
      obtain ⟨mv, hmv⟩ : ∃ n, ys.length = n := ⟨_, rfl⟩
      have HMV := Lib.hid hmv
      rw [hmv] at e1 hvals hfl1
      have HFL2 := Lib.hid hfl2
      have HVA := Lib.hid hvals
      have hj0 : (0 : Int) ≤ (j : Int) := by omega
      have hj1 : (j : Int) < (n : Int) := by omega
      have hwq : IntKind.i64.wrap ((j : Int) + 1) = (j : Int) + 1 := by rw [IntKind.wrap_i64]; omega
      obtain ⟨l0, hl0⟩ : ∃ l, lf - 1 = l := ⟨_, rfl⟩
      have hwl : IntKind.i64.wrap (lf - 1) = l0 := by
        rw [IntKind.wrap_i64]
        have h1 := HLF.out
        have h2 := HL1.out
        have h3 := HL.out
        omega
      have HL00 := Lib.hid hl0
      have HE1 := Lib.hid e1
      have HA6 := Lib.hid a6
      have hgN : g < w.heap.size := hg
      have HMB : Hid (mv ≤ 140737488355328) := hfl1
      clear hsl hy hvals hmv hfl2 hBw hg hl0 e0 hfl1
      go_wp2_with fail
      clear a6 e1 hwl
      go_loopw [2, 37] (fun l i wr => ∃ (q : Nat) (lq : Int), l = .int .i64 lq ∧ i = .int .i64 (q : Int) ∧ q ≤ mv ∧ ((q = 0 → lq = l0) ∧ (0 < q → 0 ≤ lq ∧ lq + (q : Int) ≤ l0)) ∧ ((∀ y ∈ ys.take q, FitG 100000 10000 f' y) ∧ lq + ((sumL (wtN f') (ys.take q) : Nat) : Int) ≤ l0) ∧ Below w1.heap.size w1 wr) (fun _ i _ => mv - (intOf i).toNat)
      case atStart => exact ⟨0, l0, rfl, rfl, Nat.zero_le _, ⟨fun _ => rfl, fun h => absurd h (Nat.lt_irrefl _)⟩, ⟨fun y hy => by simp at hy, by simp [sumL]⟩, Below.refl _ _⟩
      case round =>
        generalize wr = w2 at *
        obtain ⟨q, lq, rfl, rfl, hq, hlq, hokq, hbel2⟩ := hrel
        have HLQ := Lib.hid hlq
        have HOQ := Lib.hid hokq
        have HB2 := Lib.hid hbel2
        have hBw2 := HBW.out.trans (hbel2.mono HBW.out.size)
        have HBW2 := Lib.hid hBw2
        have hws2 := hbel2.size
        have z6 : w2.cell? ⟨w.heap.size, 6, none⟩ = some (.slice (some ⟨g, go, none⟩) n xc) := (hbel2.cell (by simp; omega)).trans HA6.out
        have z1 : w2.cell? ⟨g, go + j * 2 + 1, none⟩ = some (.slice va mv vc) := (hbel2.cell (by simp; omega)).trans HE1.out
        clear hlq hokq hbel2
        by_cases hqn : q < mv
        · obtain ⟨c, hc⟩ : ∃ c, ys[q]? = some c := ⟨_, List.getElem?_eq_getElem (by have := HMV.out; omega)⟩
          obtain ⟨g2, o2, c2, fs2, hsl2, hg2, hcl, hheld⟩ := ValsG.at HVA.out hc
          rw [HMV.out] at hsl2
          obtain ⟨rfl, rfl⟩ := slice_two hsl2
          have hg2N : g2 < w.heap.size := hg2
          have HTK2 : Hid (ys.take (q + 1) = ys.take q ++ [c]) := take_snoc hc
          have hcl2 := hcl.old (hBw2.block g2 hg2N)
          have hfitc := HFL2.out c (List.mem_of_getElem? hc)
          obtain ⟨sa, sc, rfl⟩ : ∃ sa sc, fs2 = .slice sa c.fields.length sc := HeldG.isSl (hheld rfl)
          have y0 : w2.cell? ⟨g2, o2 + q * 7, none⟩ = some (.int .i64 c.kind) := by have := hcl2 0 _ rfl; simpa [rawS] using this
          have y1 : w2.cell? ⟨g2, o2 + q * 7 + 1, none⟩ = some (.int .i64 c.n) := by have := hcl2 1 _ rfl; simpa [rawS] using this
          have y2 : w2.cell? ⟨g2, o2 + q * 7 + 2, none⟩ = some (.int .u64 c.u) := by have := hcl2 2 _ rfl; simpa [rawS] using this
          have y3 : w2.cell? ⟨g2, o2 + q * 7 + 3, none⟩ = some (.bool c.b) := by have := hcl2 3 _ rfl; simpa [rawS] using this
          have y4 : w2.cell? ⟨g2, o2 + q * 7 + 4, none⟩ = some (.string (mkB c.s)) := by have := hcl2 4 _ rfl; simpa [rawS] using this
          have y5 : w2.cell? ⟨g2, o2 + q * 7 + 5, none⟩ = some (.int .i64 c.type) := by have := hcl2 5 _ rfl; simpa [rawS] using this
          have y6 : w2.cell? ⟨g2, o2 + q * 7 + 6, none⟩ = some (.slice sa c.fields.length sc) := by have := hcl2 6 _ rfl; simpa [rawS] using this
          have HLB : Hid (-100000000000000000 ≤ lq ∧ lq ≤ 1000) := by
            refine (?_ : _ ∧ _)
            have h1 := HLF.out
            have h2 := HL1.out
            have h3 := HL.out
            have h4 := HL00.out
            have h5 := HLQ.out
            rcases Nat.eq_zero_or_pos q with h0 | h0
            · have := h5.1 h0; omega
            · have := h5.2 h0; omega
          have h := HIH.out f' (by omega) c (.slice sa c.fields.length sc) (dep + 1) lq w2 hfitc (by omega) HLB.out (HeldG.mv (fun b hb => hBw2.block b hb) (fun b hb => by have hb' : b < w.heap.size := hb; have := hBw2.size; omega) (hheld rfl))
          have hq0 : (0 : Int) ≤ (q : Int) := by omega
          have hq1 : (q : Int) < (mv : Int) := by omega
          have hwq2 : IntKind.i64.wrap ((q : Int) + 1) = (q : Int) + 1 := by rw [IntKind.wrap_i64]; have := HMB.out; omega
          have hwd : IntKind.i64.wrap (dep + 1) = dep + 1 := by rw [IntKind.wrap_i64]; omega
          clear hsl2 hc hg2 hcl hheld hcl2 hfitc hBw2
          go_wp2_with fail
          refine h.mono ?_
          rintro e W2 ⟨r, rfl, hr, hb2⟩
          have HR := Lib.hid hr
          have HBR := Lib.hid (HB2.out.trans (hb2.mono hws2))
          have HBRW := Lib.hid (HBW2.out.trans (hb2.mono HBW2.out.size))
          clear h hr hb2 y0 y1 y2 y3 y4 y5 y6 z6 z1
          by_cases hrn : r < 0
          · go_wp2_with fail
            go_ret
            exact HNO.out _ HBRW.out
          · have HRP : Hid (0 ≤ r) := by
              refine (?_ : (0 : Int) ≤ r)
              omega
            go_wp2_with fail
            go_roundw
            case rel =>
              have h1 := HR.out HRP.out
              refine ⟨q + 1, r, rfl, by go_num, by omega, ⟨fun h => absurd h (by omega), fun _ => ⟨HRP.out, ?_⟩⟩, ?_, HBR.out⟩
              · have h5 := HLQ.out
                rcases Nat.eq_zero_or_pos q with h0 | h0
                · have := h5.1 h0; omega
                · have := h5.2 h0; omega
              · rw [HTK2.out]
                refine ⟨fun y hy => ?_, ?_⟩
                · rcases List.mem_append.1 hy with hy | hy
                  · exact HOQ.out.1 y hy
                  · have e : y = c := by simpa using hy
                    rw [e]; exact h1.2.1
                · rw [sumL_append]
                  have h7 := HOQ.out.2
                  have h8 := h1.2.2
                  simp only [sumL]
                  omega
            case measure => simp [intOf]; omega
        · have hqn' : ¬ (q : Int) < (mv : Int) := by omega
          have hte : ys.take q = ys := List.take_of_length_le (by have := HMV.out; omega)
          rw [hte] at HOQ
          have HRW : Hid (lq + ((sumL (fun p => 1 + sumL (wtN f') p.2) (fl.take j ++ [(ynum, ys)]) : Nat) : Int) ≤ L1) := by
            refine (?_ : (_ : Int) ≤ _)
            have h1 : lf + ((sumL (fun p => 1 + sumL (wtN f') p.2) (fl.take j) : Nat) : Int) ≤ L1 := HOK.out.2
            have h4 := HL00.out
            have h7 := HOQ.out.2
            rw [sumL_append]
            simp only [sumL]
            omega
          have HRL : Hid ((lq + ((j + 1 : Nat) : Int) ≤ L1 ∧ -((j + 1 : Nat) : Int) ≤ lq) ∧ ys.length ≤ 10000) := by
            refine (?_ : _ ∧ _)
            have h1 := HLF.out
            have h2 := HL1.out
            have h3 := HL.out
            have h4 := HL00.out
            have h5 := HLQ.out
            have h6 := HMV.out
            rcases Nat.eq_zero_or_pos q with h0 | h0
            · have := h5.1 h0; omega
            · have := h5.2 h0; omega
          have HBR := Lib.hid (HBE.out.trans (HB2.out.mono hws))
          clear hte z6 z1 hBw2
          go_wp2_with fail
          go_roundw
          case rel =>
            refine ⟨j + 1, lq, rfl, by go_num, by omega, HRL.out.1, ?_, HBR.out⟩
            rw [HTK.out]
            refine ⟨fun p hp => ?_, HRW.out⟩
            rcases List.mem_append.1 hp with hp | hp
            · exact HOK.out.1 p hp
            · have e : p = (ynum, ys) := by simpa using hp
              rw [e]; exact ⟨HRL.out.2, HOQ.out.1⟩
          case measure => simp [intOf]; omega
    · have hjn' : ¬ (j : Int) < (n : Int) := by omega
      have hte : fl.take j = fl := List.take_of_length_le (by have := HN.out; omega)
      rw [hte] at HOK
      have HRES : Hid (SmN f left ⟨xkind, xn, xu, xb, xs, xt, fl⟩ w (.returned (.int .i64 lf)) w1) := by
        refine ⟨lf, rfl, fun h0 => ?_, HBW.out⟩
        have h1 := HLF.out
        have h2 := HL1.out
        have h3 := HL.out
        have h4 := HL0.out
        have h5 := HN.out
        have h6 := HOK.out.2
        refine ⟨by omega, ?_⟩
        cases f with
        | zero => exact ⟨by show xs.length ≤ 100000; omega, by simp only [wtN]; omega⟩
        | succ f =>
          refine ⟨⟨by show xs.length ≤ 100000; omega, by show fl.length ≤ 10000; omega, HOK.out.1⟩, ?_⟩
          have h7 : lf + ((sumL (fun p => 1 + sumL (wtN f) p.2) fl : Nat) : Int) ≤ L1 := h6
          simp only [wtN]
          omega
      clear hte a6 hBw
      go_wp2_with fail
      go_ret
      exact HRES.out
set_option maxHeartbeats 8000000 in
set_option maxRecDepth 20000 in
theorem smallV_any (f : Nat) (x : Nd) (fs : Value) (w : World) (hfit : FitG 140737488355328 140737488355328 f x) (hHG : HeldG rawS w (fun b => b < w.heap.size) f fs x.fields) :
    Calls Tryd.prog 5 #[.agg #[.int .i64 x.kind, .int .i64 x.n, .int .u64 x.u, .bool x.b, .string (mkB x.s), .int .i64 x.type, fs]] w fun e w' => ∃ b, e = .returned (.bool b) ∧ (b = true → FitG 100000 10000 f x ∧ wtN f x ≤ 400) ∧ Below w.heap.size w w' := by
  obtain ⟨Y, hY, hC, hb, hYs⟩ := box_new w #[.int .i64 x.kind, .int .i64 x.n, .int .u64 x.u, .bool x.b, .string (mkB x.s), .int .i64 x.type, fs] 25
  obtain ⟨xa, xc, rfl⟩ := HeldG.isSl hHG
  have h := smallN_any f x _ 0 400 Y hfit (by decide) (by decide) (HeldG.mv (fun b h => hb.block b h) (fun b h => by have h' : b < w.heap.size := h; have := hb.size; omega) hHG)
  have HY := Lib.hid hY
  have HB := Lib.hid hb
  have c0 : Y.cell? ⟨w.heap.size, 0, none⟩ = some (.int .i64 x.kind) := cell_at hC 0 rfl
  have c1 : Y.cell? ⟨w.heap.size, 1, none⟩ = some (.int .i64 x.n) := cell_at hC 1 rfl
  have c2 : Y.cell? ⟨w.heap.size, 2, none⟩ = some (.int .u64 x.u) := cell_at hC 2 rfl
  have c3 : Y.cell? ⟨w.heap.size, 3, none⟩ = some (.bool x.b) := cell_at hC 3 rfl
  have c4 : Y.cell? ⟨w.heap.size, 4, none⟩ = some (.string (mkB x.s)) := cell_at hC 4 rfl
  have c5 : Y.cell? ⟨w.heap.size, 5, none⟩ = some (.int .i64 x.type) := cell_at hC 5 rfl
  have c6 : Y.cell? ⟨w.heap.size, 6, none⟩ = some (.slice xa x.fields.length xc) := cell_at hC 6 rfl
  clear hY hb hC hYs hfit hHG
  go_enter Tryd.func5, Tryd.ntmps5
  go_upto_region 1 with fail
  rw [HY.out]
  go_wp2_with fail
  refine h.mono ?_
  rintro e W ⟨r, rfl, hr, hbW⟩
  have HR := Lib.hid hr
  have HBW := Lib.hid (HB.out.trans (hbW.mono HB.out.size))
  clear h hr hbW c0 c1 c2 c3 c4 c5 c6
  go_wp2_with fail
  go_ret
  exact ⟨_, rfl, fun h => (by have h1 := HR.out (of_decide_eq_true h); have h2 := of_decide_eq_true h; exact ⟨h1.2.1, by have := h1.2.2; omega⟩), HBW.out⟩
end Go.Proofs.YtknijddlacmelaaDoor
