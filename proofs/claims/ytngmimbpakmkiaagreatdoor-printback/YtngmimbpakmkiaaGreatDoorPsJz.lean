/-
  The walk over the document's own Same: it says whether two lists of declarations are one.
-/
import Derived.Test.YtngmimbpakmkiaaGreatDoorPsYz
import Derived.Lib.SlicesS
namespace Go.Proofs.YtngmimbpakmkiaaGreatDoor
set_option linter.unusedVariables false
open Go.ChangeShapes Go.WideShapes Go.ChangeAt Go.RowKit
theorem fd_eq {a b : Fd} (h0 : a.rep = b.rep) (h1 : a.type = b.type) (h2 : a.name = b.name) (h3 : a.num = b.num) (h4 : a.line = b.line) (h5 : a.col = b.col) : a = b := by
  cases a; cases b; simp_all
theorem vl_eq {a b : Vl} (h2 : a.name = b.name) (h3 : a.num = b.num) (h4 : a.line = b.line) (h5 : a.col = b.col) : a = b := by
  cases a; cases b; simp_all
theorem mt_eq {a b : Mt} (h2 : a.name = b.name) (h3 : a.inp = b.inp) (h3' : a.out = b.out) (h4 : a.line = b.line) (h5 : a.col = b.col) : a = b := by
  cases a; cases b; simp_all
theorem dc_eq {a b : Dc} (h0 : a.kind = b.kind) (h1 : a.name = b.name) (h2 : a.line = b.line) (h3 : a.col = b.col) (h4 : a.fields = b.fields) (h5 : a.values = b.values) (h6 : a.methods = b.methods) (h7 : a.inner = b.inner) : a = b := by
  cases a; cases b; simp_all
theorem take_next {α : Type} {l1 l2 : List α} {q : Nat} {x : α} (h : l1.take q = l2.take q) (h1 : l1[q]? = some x) (h2 : l2[q]? = some x) : l1.take (q + 1) = l2.take (q + 1) := by
  rw [List.take_add_one, List.take_add_one, h, h1, h2]
theorem mkB_ne {a b : List UInt8} (h : ¬ a = b) : mkB a ≠ mkB b := fun e => h (by simpa [mkB] using e)
theorem mkB_beq {a b : List UInt8} (h : ¬ a = b) : ((mkB a).toList == (mkB b).toList) = false := (Lib.bytes_beq_false_iff _ _).2 (mkB_ne h)
/-- what Same answers -/
def SAns (w : World) (ds1 ds2 : List Dc) (e : Ending) (w' : World) : Prop := ∃ b : Bool, e = .returned (.bool b) ∧ (b = true ↔ ds1 = ds2) ∧ Below w.heap.size w w'
set_option maxHeartbeats 16000000 in
set_option maxRecDepth 20000 in
theorem same_any : ∀ (f : Nat) (ds1 ds2 : List Dc) (v1 v2 : Value) (w : World), FitD f ds1 → FitD f ds2 → HeldD f w (fun b => b < w.heap.size) v1 ds1 → HeldD f w (fun b => b < w.heap.size) v2 ds2 →
    Calls Tryz.prog 12 #[v1, v2] w fun e w' => SAns w ds1 ds2 e w' := by
  intro f
  induction f with
  | zero =>
    rintro ds1 ds2 v1 v2 w _ _ ⟨rfl, ad1, c1, rfl⟩ ⟨rfl, ad2, c2, rfl⟩
    go_enter Tryz.func12, Tryz.ntmps12
    go_wp2_with fail
    go_loopw [5, 18] (fun _ i wr => i = .int .i64 0 ∧ wr = w) (fun _ _ _ => 0)
    case atStart => exact ⟨rfl, rfl⟩
    case round =>
      obtain ⟨rfl, hwr⟩ := hrel
      subst hwr
      go_wp2_with fail
      go_ret
      exact ⟨true, rfl, by simp, Below.refl _ _⟩
  | succ f ih =>
  rintro ds1 ds2 v1 v2 w ⟨hlen, hfit1⟩ ⟨_, hfit2⟩ ⟨ad1, c1, rfl, hcap1, hheld1⟩ ⟨ad2, c2, rfl, hcap2, hheld2⟩
  have HFT1 := Lib.hid hfit1
  have HFT2 := Lib.hid hfit2
  have HH1 := Lib.hid hheld1
  have HH2 := Lib.hid hheld2
  by_cases hne : ds1.length = ds2.length
  case neg =>
    have hne' : ¬ (ds1.length : Int) = (ds2.length : Int) := by omega
    go_enter Tryz.func12, Tryz.ntmps12
    go_wp2_with fail
    go_ret
    exact ⟨false, rfl, by simp; intro h; exact hne (by rw [h]), Below.refl _ _⟩
  obtain ⟨n, hn⟩ : ∃ n, ds1.length = n := ⟨_, rfl⟩
  have HN := Lib.hid hn
  have HN2 : Hid (ds2.length = n) := hne.symm.trans hn
  rw [← hne] at hcap2 ⊢
  rw [hn] at hlen hcap1 hcap2 ⊢
  clear hfit1 hfit2 hheld1 hheld2 hn hne
  go_enter Tryz.func12, Tryz.ntmps12
  go_wp2_with fail
  go_loopw [5, 18] (fun _ i wr => ∃ j : Nat, i = .int .i64 (j : Int) ∧ j ≤ n ∧ ds1.take j = ds2.take j ∧ Below w.heap.size w wr) (fun _ i _ => n - (intOf i).toNat)
  case atStart => exact ⟨0, rfl, by omega, rfl, Below.refl _ _⟩
  case round =>
    obtain ⟨j, rfl, hj, htk, hbel⟩ := hrel
    generalize wr = w1 at *
    have HB := Lib.hid hbel
    have HTJ := Lib.hid htk
    have hww := hbel.size
    clear hbel htk
    by_cases hjn : j < n
    · obtain ⟨d1, hd1⟩ : ∃ d, ds1[j]? = some d := ⟨_, List.getElem?_eq_getElem (by have := HN.out; omega)⟩
      obtain ⟨d2, hd2⟩ : ∃ d, ds2[j]? = some d := ⟨_, List.getElem?_eq_getElem (by have := HN2.out; omega)⟩
      have hfd := HFT1.out d1 (List.mem_of_getElem? hd1)
      have hfe := HFT2.out d2 (List.mem_of_getElem? hd2)
      rcases HH1.out with h0 | ⟨g1, o1, rfl, hg1, hk1⟩
      · rw [h0] at hd1; simp at hd1
      rcases HH2.out with h0 | ⟨g2, o2, rfl, hg2, hk2⟩
      · rw [h0] at hd2; simp at hd2
      obtain ⟨fs1, vs1, ms1, i1, hcell1, ⟨fa1, fc1, rfl, _, hF1⟩, ⟨va1, vc1, rfl, _, hV1⟩, ⟨ma1, mc1, rfl, _, hM1⟩, hI1⟩ := hk1 j d1 hd1
      obtain ⟨fs2, vs2, ms2, i2, hcell2, ⟨fa2, fc2, rfl, _, hF2⟩, ⟨va2, vc2, rfl, _, hV2⟩, ⟨ma2, mc2, rfl, _, hM2⟩, hI2⟩ := hk2 j d2 hd2
      obtain ⟨ia1, ic1, rfl⟩ := HeldD.isSlice hI1
      obtain ⟨ia2, ic2, rfl⟩ := HeldD.isSlice hI2
      have Hf1 := Lib.hid hF1
      have Hf2 := Lib.hid hF2
      have Hv1 := Lib.hid hV1
      have Hv2 := Lib.hid hV2
      have Hm1 := Lib.hid hM1
      have Hm2 := Lib.hid hM2
      have HD : Hid (ds1 = ds2 → d1 = d2) := fun h => by subst h; exact Option.some.inj (hd1.symm.trans hd2)
      have HTN : Hid (d1 = d2 → ds1.take (j + 1) = ds2.take (j + 1)) := fun h => take_next HTJ.out hd1 (h ▸ hd2)
      have HB0 : Hid (∀ W, Below w1.heap.size w1 W → Below w.heap.size w W) := fun W hW => HB.out.trans (hW.mono HB.out.size)
      have k1_0 : ∀ W, Below w1.heap.size w1 W → W.cell? ⟨g1, o1 + j * 8, none⟩ = some (.int .i64 d1.kind) := fun W hW => by
        rw [(HB0.out W hW).cell (show g1 < w.heap.size from hg1)]
        have := hcell1 0 _ rfl
        simpa [Nat.add_assoc] using this
      have k1_1 : ∀ W, Below w1.heap.size w1 W → W.cell? ⟨g1, o1 + j * 8 + 1, none⟩ = some (.string (mkB d1.name)) := fun W hW => by
        rw [(HB0.out W hW).cell (show g1 < w.heap.size from hg1)]
        have := hcell1 1 _ rfl
        simpa [Nat.add_assoc] using this
      have k1_2 : ∀ W, Below w1.heap.size w1 W → W.cell? ⟨g1, o1 + j * 8 + 2, none⟩ = some (.int .i64 d1.line) := fun W hW => by
        rw [(HB0.out W hW).cell (show g1 < w.heap.size from hg1)]
        have := hcell1 2 _ rfl
        simpa [Nat.add_assoc] using this
      have k1_3 : ∀ W, Below w1.heap.size w1 W → W.cell? ⟨g1, o1 + j * 8 + 3, none⟩ = some (.int .i64 d1.col) := fun W hW => by
        rw [(HB0.out W hW).cell (show g1 < w.heap.size from hg1)]
        have := hcell1 3 _ rfl
        simpa [Nat.add_assoc] using this
      have k1_4 : ∀ W, Below w1.heap.size w1 W → W.cell? ⟨g1, o1 + j * 8 + 4, none⟩ = some (.slice fa1 d1.fields.length fc1) := fun W hW => by
        rw [(HB0.out W hW).cell (show g1 < w.heap.size from hg1)]
        have := hcell1 4 _ rfl
        simpa [Nat.add_assoc] using this
      have k1_5 : ∀ W, Below w1.heap.size w1 W → W.cell? ⟨g1, o1 + j * 8 + 5, none⟩ = some (.slice va1 d1.values.length vc1) := fun W hW => by
        rw [(HB0.out W hW).cell (show g1 < w.heap.size from hg1)]
        have := hcell1 5 _ rfl
        simpa [Nat.add_assoc] using this
      have k1_6 : ∀ W, Below w1.heap.size w1 W → W.cell? ⟨g1, o1 + j * 8 + 6, none⟩ = some (.slice ma1 d1.methods.length mc1) := fun W hW => by
        rw [(HB0.out W hW).cell (show g1 < w.heap.size from hg1)]
        have := hcell1 6 _ rfl
        simpa [Nat.add_assoc] using this
      have k1_7 : ∀ W, Below w1.heap.size w1 W → W.cell? ⟨g1, o1 + j * 8 + 7, none⟩ = some (.slice ia1 d1.inner.length ic1) := fun W hW => by
        rw [(HB0.out W hW).cell (show g1 < w.heap.size from hg1)]
        have := hcell1 7 _ rfl
        simpa [Nat.add_assoc] using this
      have k2_0 : ∀ W, Below w1.heap.size w1 W → W.cell? ⟨g2, o2 + j * 8, none⟩ = some (.int .i64 d2.kind) := fun W hW => by
        rw [(HB0.out W hW).cell (show g2 < w.heap.size from hg2)]
        have := hcell2 0 _ rfl
        simpa [Nat.add_assoc] using this
      have k2_1 : ∀ W, Below w1.heap.size w1 W → W.cell? ⟨g2, o2 + j * 8 + 1, none⟩ = some (.string (mkB d2.name)) := fun W hW => by
        rw [(HB0.out W hW).cell (show g2 < w.heap.size from hg2)]
        have := hcell2 1 _ rfl
        simpa [Nat.add_assoc] using this
      have k2_2 : ∀ W, Below w1.heap.size w1 W → W.cell? ⟨g2, o2 + j * 8 + 2, none⟩ = some (.int .i64 d2.line) := fun W hW => by
        rw [(HB0.out W hW).cell (show g2 < w.heap.size from hg2)]
        have := hcell2 2 _ rfl
        simpa [Nat.add_assoc] using this
      have k2_3 : ∀ W, Below w1.heap.size w1 W → W.cell? ⟨g2, o2 + j * 8 + 3, none⟩ = some (.int .i64 d2.col) := fun W hW => by
        rw [(HB0.out W hW).cell (show g2 < w.heap.size from hg2)]
        have := hcell2 3 _ rfl
        simpa [Nat.add_assoc] using this
      have k2_4 : ∀ W, Below w1.heap.size w1 W → W.cell? ⟨g2, o2 + j * 8 + 4, none⟩ = some (.slice fa2 d2.fields.length fc2) := fun W hW => by
        rw [(HB0.out W hW).cell (show g2 < w.heap.size from hg2)]
        have := hcell2 4 _ rfl
        simpa [Nat.add_assoc] using this
      have k2_5 : ∀ W, Below w1.heap.size w1 W → W.cell? ⟨g2, o2 + j * 8 + 5, none⟩ = some (.slice va2 d2.values.length vc2) := fun W hW => by
        rw [(HB0.out W hW).cell (show g2 < w.heap.size from hg2)]
        have := hcell2 5 _ rfl
        simpa [Nat.add_assoc] using this
      have k2_6 : ∀ W, Below w1.heap.size w1 W → W.cell? ⟨g2, o2 + j * 8 + 6, none⟩ = some (.slice ma2 d2.methods.length mc2) := fun W hW => by
        rw [(HB0.out W hW).cell (show g2 < w.heap.size from hg2)]
        have := hcell2 6 _ rfl
        simpa [Nat.add_assoc] using this
      have k2_7 : ∀ W, Below w1.heap.size w1 W → W.cell? ⟨g2, o2 + j * 8 + 7, none⟩ = some (.slice ia2 d2.inner.length ic2) := fun W hW => by
        rw [(HB0.out W hW).cell (show g2 < w.heap.size from hg2)]
        have := hcell2 7 _ rfl
        simpa [Nat.add_assoc] using this
      have HRC : Hid (∀ W, Below w1.heap.size w1 W → Calls Tryz.prog 12 #[.slice ia1 d1.inner.length ic1, .slice ia2 d2.inner.length ic2] W fun e w' => SAns W d1.inner d2.inner e w') := fun W hW =>
        ih d1.inner d2.inner _ _ W hfd.2.2.2 hfe.2.2.2 ((HeldD.old (fun b hb => (HB0.out W hW).block b hb) hI1).more fun b hb => by have := (HB0.out W hW).size; omega) ((HeldD.old (fun b hb => (HB0.out W hW).block b hb) hI2).more fun b hb => by have := (HB0.out W hW).size; omega)
      have hfd0 := hfd.1
      have hfd1 := hfd.2.1
      have hfd2 := hfd.2.2.1
      have hj0 : (0 : Int) ≤ (j : Int) := by omega
      have hj1 : (j : Int) < (n : Int) := by omega
      have hwj : IntKind.i64.wrap ((j : Int) + 1) = (j : Int) + 1 := by rw [IntKind.wrap_i64]; omega
      have hbr : Below w1.heap.size w1 w1.drew := (Below.refl _ _).drew
      have hbb : ∀ o o', Below w1.heap.size w1 ((w1.alloc o).alloc o').drew := fun o o' => (((Below.refl _ w1).alloc (Nat.le_refl _) o).alloc (by simp) o').drew
      have hba : ∀ o, Below w1.heap.size w1 (w1.alloc o).drew := fun o => ((Below.refl _ w1).alloc (Nat.le_refl _) o).drew
      clear hcell1 hcell2 hF1 hF2 hV1 hV2 hM1 hM2 hI1 hI2 hk1 hk2 hd1 hd2 hfd hfe ih HTJ
      go_upto_region 6 with fail
      go_cut [6, 7] (fun s6 s7 wx => ∃ D1 D2 : Nat, s6 = .pointer (some ⟨D1, 0, none⟩) ∧ s7 = .pointer (some ⟨D2, 0, none⟩) ∧ wx.heap[D1]? = some (.cells (drow d1 (.slice fa1 d1.fields.length fc1) (.slice va1 d1.values.length vc1) (.slice ma1 d1.methods.length mc1) (.slice ia1 d1.inner.length ic1)).toArray 56 (0, 0)) ∧ wx.heap[D2]? = some (.cells (drow d2 (.slice fa2 d2.fields.length fc2) (.slice va2 d2.values.length vc2) (.slice ma2 d2.methods.length mc2) (.slice ia2 d2.inner.length ic2)).toArray 56 (0, 0)) ∧ Below w1.heap.size w1 wx)
      case first =>
        go_region_held_law (fun W => Below w1.heap.size w1 W) (first | with_reducible exact hbr | with_reducible exact hba _ | with_reducible exact hbb _ _) (fail)
        all_goals go_wp2_with fail
        all_goals go_meet
        · exact ⟨w1.heap.size, w1.heap.size + 1, rfl, rfl, two_first _ _ _, two_second _ _ _, hbb _ _⟩
        · exact ⟨w1.heap.size + 1, w1.heap.size, rfl, rfl, two_second _ _ _, two_first _ _ _, hbb _ _⟩
      case rest =>
        obtain ⟨D1, D2, rfl, rfl, hA1, hA2, hbX⟩ := hcut
        generalize wc = X at *
        have x1_0 : X.cell? ⟨D1, 0, none⟩ = some (.int .i64 d1.kind) := by simp [World.cell?, hA1, drow]
        have x1_1 : X.cell? ⟨D1, 1, none⟩ = some (.string (mkB d1.name)) := by simp [World.cell?, hA1, drow]
        have x1_2 : X.cell? ⟨D1, 2, none⟩ = some (.int .i64 d1.line) := by simp [World.cell?, hA1, drow]
        have x1_3 : X.cell? ⟨D1, 3, none⟩ = some (.int .i64 d1.col) := by simp [World.cell?, hA1, drow]
        have x1_4 : X.cell? ⟨D1, 4, none⟩ = some (.slice fa1 d1.fields.length fc1) := by simp [World.cell?, hA1, drow]
        have x1_5 : X.cell? ⟨D1, 5, none⟩ = some (.slice va1 d1.values.length vc1) := by simp [World.cell?, hA1, drow]
        have x1_6 : X.cell? ⟨D1, 6, none⟩ = some (.slice ma1 d1.methods.length mc1) := by simp [World.cell?, hA1, drow]
        have x1_7 : X.cell? ⟨D1, 7, none⟩ = some (.slice ia1 d1.inner.length ic1) := by simp [World.cell?, hA1, drow]
        have x2_0 : X.cell? ⟨D2, 0, none⟩ = some (.int .i64 d2.kind) := by simp [World.cell?, hA2, drow]
        have x2_1 : X.cell? ⟨D2, 1, none⟩ = some (.string (mkB d2.name)) := by simp [World.cell?, hA2, drow]
        have x2_2 : X.cell? ⟨D2, 2, none⟩ = some (.int .i64 d2.line) := by simp [World.cell?, hA2, drow]
        have x2_3 : X.cell? ⟨D2, 3, none⟩ = some (.int .i64 d2.col) := by simp [World.cell?, hA2, drow]
        have x2_4 : X.cell? ⟨D2, 4, none⟩ = some (.slice fa2 d2.fields.length fc2) := by simp [World.cell?, hA2, drow]
        have x2_5 : X.cell? ⟨D2, 5, none⟩ = some (.slice va2 d2.values.length vc2) := by simp [World.cell?, hA2, drow]
        have x2_6 : X.cell? ⟨D2, 6, none⟩ = some (.slice ma2 d2.methods.length mc2) := by simp [World.cell?, hA2, drow]
        have x2_7 : X.cell? ⟨D2, 7, none⟩ = some (.slice ia2 d2.inner.length ic2) := by simp [World.cell?, hA2, drow]
        have HA0' := Lib.hid hA1
        have HB0' := Lib.hid hA2
        have hD1 : D1 < X.heap.size := (Array.getElem?_eq_some_iff.1 hA1).1
        have hD2 : D2 < X.heap.size := (Array.getElem?_eq_some_iff.1 hA2).1
        have hRX := HRC.out X hbX
        have HXX := Lib.hid hbX
        clear hA1 hA2 hbr hba hbb HRC hbX
        by_cases t0 : d1.kind = d2.kind
        case neg =>
          have HQ := Lib.hid t0
          go_wp2_with fail
          go_ret
          exact ⟨false, rfl, by simp; intro h; exact HQ.out (by rw [HD.out h]), HB0.out X HXX.out⟩
        rw [← t0] at x2_0
        have HC0 := Lib.hid t0
        clear t0
        by_cases t1 : d1.name = d2.name
        case neg =>
          have t' := mkB_beq t1
          have t'' := beq_eq_false_iff_ne.2 t1
          have HQ := Lib.hid t1
          go_wp2_with fail
          go_ret
          exact ⟨false, rfl, by simp; intro h; exact HQ.out (by rw [HD.out h]), HB0.out X HXX.out⟩
        rw [← t1] at x2_1
        have HC1 := Lib.hid t1
        clear t1
        by_cases t2 : d1.line = d2.line
        case neg =>
          have HQ := Lib.hid t2
          go_wp2_with fail
          go_ret
          exact ⟨false, rfl, by simp; intro h; exact HQ.out (by rw [HD.out h]), HB0.out X HXX.out⟩
        rw [← t2] at x2_2
        have HC2 := Lib.hid t2
        clear t2
        by_cases t3 : d1.col = d2.col
        case neg =>
          have HQ := Lib.hid t3
          go_wp2_with fail
          go_ret
          exact ⟨false, rfl, by simp; intro h; exact HQ.out (by rw [HD.out h]), HB0.out X HXX.out⟩
        rw [← t3] at x2_3
        have HC3 := Lib.hid t3
        clear t3
        by_cases t4 : d1.fields.length = d2.fields.length
        case neg =>
          have t' : ¬ (d1.fields.length : Int) = (d2.fields.length : Int) := by omega
          have HQ := Lib.hid t4
          go_wp2_with fail
          go_ret
          exact ⟨false, rfl, by simp; intro h; exact HQ.out (by rw [HD.out h]), HB0.out X HXX.out⟩
        rw [← t4] at x2_4
        have HC4 := Lib.hid t4
        clear t4
        by_cases t5 : d1.values.length = d2.values.length
        case neg =>
          have t' : ¬ (d1.values.length : Int) = (d2.values.length : Int) := by omega
          have HQ := Lib.hid t5
          go_wp2_with fail
          go_ret
          exact ⟨false, rfl, by simp; intro h; exact HQ.out (by rw [HD.out h]), HB0.out X HXX.out⟩
        rw [← t5] at x2_5
        have HC5 := Lib.hid t5
        clear t5
        by_cases t6 : d1.methods.length = d2.methods.length
        case neg =>
          have t' : ¬ (d1.methods.length : Int) = (d2.methods.length : Int) := by omega
          have HQ := Lib.hid t6
          go_wp2_with fail
          go_ret
          exact ⟨false, rfl, by simp; intro h; exact HQ.out (by rw [HD.out h]), HB0.out X HXX.out⟩
        rw [← t6] at x2_6
        have HC6 := Lib.hid t6
        clear t6
        go_wp2_with fail
        refine hRX.mono ?_
        rintro e Y0 ⟨bb, rfl, hbi, hb0⟩
        have hz0 := hb0.size
        have HT0 : Hid (Below w.heap.size w Y0) := (HB0.out X HXX.out).trans (hb0.mono (by have := HXX.out.size; omega))
        have HBI := Lib.hid hbi
        clear hbi
        cases bb
        case false =>
          go_wp2_with fail
          go_ret
          exact ⟨false, rfl, by simp; intro h; exact absurd (HBI.out.2 (by rw [HD.out h])) (by simp), HT0.out⟩
        have HIN : Hid (d1.inner = d2.inner) := HBI.out.1 rfl
        have HS0 : Hid (w.heap.size ≤ Y0.heap.size ∧ D1 < Y0.heap.size ∧ D2 < Y0.heap.size) := by
          refine (?_ : _ ∧ _)
          have := HXX.out.size
          omega
        have HA0 : Hid (Y0.heap[D1]? = some (.cells (drow d1 (.slice fa1 d1.fields.length fc1) (.slice va1 d1.values.length vc1) (.slice ma1 d1.methods.length mc1) (.slice ia1 d1.inner.length ic1)).toArray 56 (0, 0))) := by refine (?_ : _ = _); rw [hb0.block D1 hD1]; exact HA0'.out
        have HBz : Hid (Y0.heap[D2]? = some (.cells (drow d2 (.slice fa2 d2.fields.length fc2) (.slice va2 d2.values.length vc2) (.slice ma2 d2.methods.length mc2) (.slice ia2 d2.inner.length ic2)).toArray 56 (0, 0))) := by refine (?_ : _ = _); rw [hb0.block D2 hD2]; exact HB0'.out
        have HO0 : Hid (∀ b, b < w.heap.size → Y0.heap[b]? = w.heap[b]?) := fun b hb => HT0.out.block b hb
        have HB0 := HBz
        have l1 := HA0.out
        have n1 : Y0.cell? ⟨D1, 4, none⟩ = some (.slice fa1 d1.fields.length fc1) := by simp [World.cell?, l1, drow]
        clear l1 hRX hb0 HA0' HB0' HBz HBI
        go_wp2_with fail
        go_loopw [8, 86] (fun _ kk wq => ∃ q : Nat, kk = .int .i64 (q : Int) ∧ q ≤ d1.fields.length ∧ d1.fields.take q = d2.fields.take q ∧ Below Y0.heap.size Y0 wq) (fun _ kk _ => d1.fields.length - (intOf kk).toNat)
        case atStart => exact ⟨0, rfl, by omega, rfl, Below.refl _ _⟩
        case round =>
          obtain ⟨q, rfl, hq, htk, hbq⟩ := hrel
          have HBQ := Lib.hid hbq
          have HTK := Lib.hid htk
          have hsz := HS0.out
          have l1 : wr.heap[D1]? = some (.cells (drow d1 (.slice fa1 d1.fields.length fc1) (.slice va1 d1.values.length vc1) (.slice ma1 d1.methods.length mc1) (.slice ia1 d1.inner.length ic1)).toArray 56 (0, 0)) := by rw [hbq.block D1 (by omega)]; exact HA0.out
          have l2 : wr.heap[D2]? = some (.cells (drow d2 (.slice fa2 d2.fields.length fc2) (.slice va2 d2.values.length vc2) (.slice ma2 d2.methods.length mc2) (.slice ia2 d2.inner.length ic2)).toArray 56 (0, 0)) := by rw [hbq.block D2 (by omega)]; exact HB0.out
          have p1 : wr.cell? ⟨D1, 4, none⟩ = some (.slice fa1 d1.fields.length fc1) := by simp [World.cell?, l1, drow]
          have p2 : wr.cell? ⟨D2, 4, none⟩ = some (.slice fa2 d1.fields.length fc2) := by rw [HC4.out]; simp [World.cell?, l2, drow]
          have HOw : Hid (∀ b, b < w.heap.size → wr.heap[b]? = w.heap[b]?) := fun b hb => by rw [HBQ.out.block b (by omega)]; exact HO0.out b hb
          clear hbq l1 l2 htk
          by_cases hqn : q < d1.fields.length
          · obtain ⟨x1, hx1⟩ : ∃ x, d1.fields[q]? = some x := ⟨_, List.getElem?_eq_getElem hqn⟩
            obtain ⟨x2, hx2⟩ : ∃ x, d2.fields[q]? = some x := ⟨_, List.getElem?_eq_getElem (by have := HC4.out; omega)⟩
            rcases Hf1.out with h0 | ⟨g3, o3, rfl, hg3, hk3⟩
            · rw [h0] at hx1; simp at hx1
            rcases Hf2.out with h0 | ⟨g4, o4, rfl, hg4, hk4⟩
            · rw [h0] at hx2; simp at hx2
            have b3 := HOw.out g3 hg3
            have b4 := HOw.out g4 hg4
            have e3_0 : wr.cell? ⟨g3, o3 + q * 6, none⟩ = some (.bool x1.rep) := by
              rw [World.cell?_of_block b3]
              have := hk3 q x1 hx1 0 _ rfl
              simpa [Nat.add_assoc] using this
            have e4_0 : wr.cell? ⟨g4, o4 + q * 6, none⟩ = some (.bool x2.rep) := by
              rw [World.cell?_of_block b4]
              have := hk4 q x2 hx2 0 _ rfl
              simpa [Nat.add_assoc] using this
            have e3_1 : wr.cell? ⟨g3, o3 + q * 6 + 1, none⟩ = some (.string (mkB x1.type)) := by
              rw [World.cell?_of_block b3]
              have := hk3 q x1 hx1 1 _ rfl
              simpa [Nat.add_assoc] using this
            have e4_1 : wr.cell? ⟨g4, o4 + q * 6 + 1, none⟩ = some (.string (mkB x2.type)) := by
              rw [World.cell?_of_block b4]
              have := hk4 q x2 hx2 1 _ rfl
              simpa [Nat.add_assoc] using this
            have e3_2 : wr.cell? ⟨g3, o3 + q * 6 + 2, none⟩ = some (.string (mkB x1.name)) := by
              rw [World.cell?_of_block b3]
              have := hk3 q x1 hx1 2 _ rfl
              simpa [Nat.add_assoc] using this
            have e4_2 : wr.cell? ⟨g4, o4 + q * 6 + 2, none⟩ = some (.string (mkB x2.name)) := by
              rw [World.cell?_of_block b4]
              have := hk4 q x2 hx2 2 _ rfl
              simpa [Nat.add_assoc] using this
            have e3_3 : wr.cell? ⟨g3, o3 + q * 6 + 3, none⟩ = some (.int .i64 x1.num) := by
              rw [World.cell?_of_block b3]
              have := hk3 q x1 hx1 3 _ rfl
              simpa [Nat.add_assoc] using this
            have e4_3 : wr.cell? ⟨g4, o4 + q * 6 + 3, none⟩ = some (.int .i64 x2.num) := by
              rw [World.cell?_of_block b4]
              have := hk4 q x2 hx2 3 _ rfl
              simpa [Nat.add_assoc] using this
            have e3_4 : wr.cell? ⟨g3, o3 + q * 6 + 4, none⟩ = some (.int .i64 x1.line) := by
              rw [World.cell?_of_block b3]
              have := hk3 q x1 hx1 4 _ rfl
              simpa [Nat.add_assoc] using this
            have e4_4 : wr.cell? ⟨g4, o4 + q * 6 + 4, none⟩ = some (.int .i64 x2.line) := by
              rw [World.cell?_of_block b4]
              have := hk4 q x2 hx2 4 _ rfl
              simpa [Nat.add_assoc] using this
            have e3_5 : wr.cell? ⟨g3, o3 + q * 6 + 5, none⟩ = some (.int .i64 x1.col) := by
              rw [World.cell?_of_block b3]
              have := hk3 q x1 hx1 5 _ rfl
              simpa [Nat.add_assoc] using this
            have e4_5 : wr.cell? ⟨g4, o4 + q * 6 + 5, none⟩ = some (.int .i64 x2.col) := by
              rw [World.cell?_of_block b4]
              have := hk4 q x2 hx2 5 _ rfl
              simpa [Nat.add_assoc] using this
            have hq0 : (0 : Int) ≤ (q : Int) := by omega
            have hq1 : (q : Int) < (d1.fields.length : Int) := by omega
            have hwq : IntKind.i64.wrap ((q : Int) + 1) = (q : Int) + 1 := by rw [IntKind.wrap_i64]; have := hfd0; omega
            have HTQ : Hid (∀ nq : Nat, Below w.heap.size w (wr.drewN nq)) := fun nq => (HT0.out.trans (HBQ.out.mono (by omega))).trans ⟨rfl, rfl, rfl, Nat.le_refl _, fun _ _ => rfl⟩
            have HX : Hid (ds1 = ds2 → x1 = x2) := fun h => by have := HD.out h; subst this; exact Option.some.inj (hx1.symm.trans hx2)
            have HT' : Hid (x1 = x2 → d1.fields.take (q + 1) = d2.fields.take (q + 1)) := fun h => take_next HTK.out hx1 (h ▸ hx2)
            clear hx1 hx2 hk3 hk4 b3 b4
            by_cases t0 : x1.rep = x2.rep
            case neg =>
              have HQ := Lib.hid t0
              go_wp2_with fail
              go_quiet (fail)
              go_wp2_with fail
              go_ret
              exact ⟨false, rfl, by simp; intro h; exact HQ.out (by rw [HX.out h]), HTQ.out _⟩
            rw [← t0] at e4_0
            have U0 := Lib.hid t0
            clear t0
            by_cases t1 : x1.type = x2.type
            case neg =>
              have t' := mkB_beq t1
              have t'' := beq_eq_false_iff_ne.2 t1
              have HQ := Lib.hid t1
              go_wp2_with fail
              go_quiet (fail)
              go_wp2_with fail
              go_ret
              exact ⟨false, rfl, by simp; intro h; exact HQ.out (by rw [HX.out h]), HTQ.out _⟩
            rw [← t1] at e4_1
            have U1 := Lib.hid t1
            clear t1
            by_cases t2 : x1.name = x2.name
            case neg =>
              have t' := mkB_beq t2
              have t'' := beq_eq_false_iff_ne.2 t2
              have HQ := Lib.hid t2
              go_wp2_with fail
              go_quiet (fail)
              go_wp2_with fail
              go_ret
              exact ⟨false, rfl, by simp; intro h; exact HQ.out (by rw [HX.out h]), HTQ.out _⟩
            rw [← t2] at e4_2
            have U2 := Lib.hid t2
            clear t2
            by_cases t3 : x1.num = x2.num
            case neg =>
              have HQ := Lib.hid t3
              go_wp2_with fail
              go_quiet (fail)
              go_wp2_with fail
              go_ret
              exact ⟨false, rfl, by simp; intro h; exact HQ.out (by rw [HX.out h]), HTQ.out _⟩
            rw [← t3] at e4_3
            have U3 := Lib.hid t3
            clear t3
            by_cases t4 : x1.line = x2.line
            case neg =>
              have HQ := Lib.hid t4
              go_wp2_with fail
              go_quiet (fail)
              go_wp2_with fail
              go_ret
              exact ⟨false, rfl, by simp; intro h; exact HQ.out (by rw [HX.out h]), HTQ.out _⟩
            rw [← t4] at e4_4
            have U4 := Lib.hid t4
            clear t4
            by_cases t5 : x1.col = x2.col
            case neg =>
              have HQ := Lib.hid t5
              go_wp2_with fail
              go_quiet (fail)
              go_wp2_with fail
              go_ret
              exact ⟨false, rfl, by simp; intro h; exact HQ.out (by rw [HX.out h]), HTQ.out _⟩
            rw [← t5] at e4_5
            have U5 := Lib.hid t5
            clear t5
            go_wp2_with fail
            go_quiet (fail)
            go_wp2_with fail
            go_roundw
            case rel => exact ⟨q + 1, by go_num, by omega, HT'.out (fd_eq U0.out U1.out U2.out U3.out U4.out U5.out), HBQ.out.trans ⟨rfl, rfl, rfl, Nat.le_refl _, fun _ _ => rfl⟩⟩
            case measure => simp [intOf]; omega
          · obtain rfl : q = d1.fields.length := by omega
            have hqq : ¬ ((d1.fields.length : Int) < (d1.fields.length : Int)) := by omega
            generalize wr = Y1 at *
            have HE0 : Hid (d1.fields = d2.fields) := by
              refine (?_ : _ = _)
              have h := HTK.out
              rw [List.take_length, HC4.out, List.take_length] at h
              exact h
            have HS1 : Hid (w.heap.size ≤ Y1.heap.size ∧ D1 < Y1.heap.size ∧ D2 < Y1.heap.size) := by
              refine (?_ : _ ∧ _)
              have := HBQ.out.size
              omega
            have HA1 : Hid (Y1.heap[D1]? = some (.cells (drow d1 (.slice fa1 d1.fields.length fc1) (.slice va1 d1.values.length vc1) (.slice ma1 d1.methods.length mc1) (.slice ia1 d1.inner.length ic1)).toArray 56 (0, 0))) := by refine (?_ : _ = _); rw [HBQ.out.block D1 (by omega)]; exact HA0.out
            have HB1 : Hid (Y1.heap[D2]? = some (.cells (drow d2 (.slice fa2 d2.fields.length fc2) (.slice va2 d2.values.length vc2) (.slice ma2 d2.methods.length mc2) (.slice ia2 d2.inner.length ic2)).toArray 56 (0, 0))) := by refine (?_ : _ = _); rw [HBQ.out.block D2 (by omega)]; exact HB0.out
            have HO1 := HOw
            have HT1 : Hid (Below w.heap.size w Y1) := HT0.out.trans (HBQ.out.mono (by omega))
            clear HBQ HOw HTK
            have l1 := HA1.out
            have n1 : Y1.cell? ⟨D1, 5, none⟩ = some (.slice va1 d1.values.length vc1) := by simp [World.cell?, l1, drow]
            clear l1
            go_wp2_with fail
            go_loopw [9, 104] (fun _ kk wq => ∃ q : Nat, kk = .int .i64 (q : Int) ∧ q ≤ d1.values.length ∧ d1.values.take q = d2.values.take q ∧ Below Y1.heap.size Y1 wq) (fun _ kk _ => d1.values.length - (intOf kk).toNat)
            case atStart => exact ⟨0, rfl, by omega, rfl, Below.refl _ _⟩
            case round =>
              obtain ⟨q, rfl, hq, htk, hbq⟩ := hrel
              have HBQ := Lib.hid hbq
              have HTK := Lib.hid htk
              have hsz := HS1.out
              have l1 : wr.heap[D1]? = some (.cells (drow d1 (.slice fa1 d1.fields.length fc1) (.slice va1 d1.values.length vc1) (.slice ma1 d1.methods.length mc1) (.slice ia1 d1.inner.length ic1)).toArray 56 (0, 0)) := by rw [hbq.block D1 (by omega)]; exact HA1.out
              have l2 : wr.heap[D2]? = some (.cells (drow d2 (.slice fa2 d2.fields.length fc2) (.slice va2 d2.values.length vc2) (.slice ma2 d2.methods.length mc2) (.slice ia2 d2.inner.length ic2)).toArray 56 (0, 0)) := by rw [hbq.block D2 (by omega)]; exact HB1.out
              have p1 : wr.cell? ⟨D1, 5, none⟩ = some (.slice va1 d1.values.length vc1) := by simp [World.cell?, l1, drow]
              have p2 : wr.cell? ⟨D2, 5, none⟩ = some (.slice va2 d1.values.length vc2) := by rw [HC5.out]; simp [World.cell?, l2, drow]
              have HOw : Hid (∀ b, b < w.heap.size → wr.heap[b]? = w.heap[b]?) := fun b hb => by rw [HBQ.out.block b (by omega)]; exact HO1.out b hb
              clear hbq l1 l2 htk
              by_cases hqn : q < d1.values.length
              · obtain ⟨x1, hx1⟩ : ∃ x, d1.values[q]? = some x := ⟨_, List.getElem?_eq_getElem hqn⟩
                obtain ⟨x2, hx2⟩ : ∃ x, d2.values[q]? = some x := ⟨_, List.getElem?_eq_getElem (by have := HC5.out; omega)⟩
                rcases Hv1.out with h0 | ⟨g3, o3, rfl, hg3, hk3⟩
                · rw [h0] at hx1; simp at hx1
                rcases Hv2.out with h0 | ⟨g4, o4, rfl, hg4, hk4⟩
                · rw [h0] at hx2; simp at hx2
                have b3 := HOw.out g3 hg3
                have b4 := HOw.out g4 hg4
                have e3_0 : wr.cell? ⟨g3, o3 + q * 4, none⟩ = some (.string (mkB x1.name)) := by
                  rw [World.cell?_of_block b3]
                  have := hk3 q x1 hx1 0 _ rfl
                  simpa [Nat.add_assoc] using this
                have e4_0 : wr.cell? ⟨g4, o4 + q * 4, none⟩ = some (.string (mkB x2.name)) := by
                  rw [World.cell?_of_block b4]
                  have := hk4 q x2 hx2 0 _ rfl
                  simpa [Nat.add_assoc] using this
                have e3_1 : wr.cell? ⟨g3, o3 + q * 4 + 1, none⟩ = some (.int .i64 x1.num) := by
                  rw [World.cell?_of_block b3]
                  have := hk3 q x1 hx1 1 _ rfl
                  simpa [Nat.add_assoc] using this
                have e4_1 : wr.cell? ⟨g4, o4 + q * 4 + 1, none⟩ = some (.int .i64 x2.num) := by
                  rw [World.cell?_of_block b4]
                  have := hk4 q x2 hx2 1 _ rfl
                  simpa [Nat.add_assoc] using this
                have e3_2 : wr.cell? ⟨g3, o3 + q * 4 + 2, none⟩ = some (.int .i64 x1.line) := by
                  rw [World.cell?_of_block b3]
                  have := hk3 q x1 hx1 2 _ rfl
                  simpa [Nat.add_assoc] using this
                have e4_2 : wr.cell? ⟨g4, o4 + q * 4 + 2, none⟩ = some (.int .i64 x2.line) := by
                  rw [World.cell?_of_block b4]
                  have := hk4 q x2 hx2 2 _ rfl
                  simpa [Nat.add_assoc] using this
                have e3_3 : wr.cell? ⟨g3, o3 + q * 4 + 3, none⟩ = some (.int .i64 x1.col) := by
                  rw [World.cell?_of_block b3]
                  have := hk3 q x1 hx1 3 _ rfl
                  simpa [Nat.add_assoc] using this
                have e4_3 : wr.cell? ⟨g4, o4 + q * 4 + 3, none⟩ = some (.int .i64 x2.col) := by
                  rw [World.cell?_of_block b4]
                  have := hk4 q x2 hx2 3 _ rfl
                  simpa [Nat.add_assoc] using this
                have hq0 : (0 : Int) ≤ (q : Int) := by omega
                have hq1 : (q : Int) < (d1.values.length : Int) := by omega
                have hwq : IntKind.i64.wrap ((q : Int) + 1) = (q : Int) + 1 := by rw [IntKind.wrap_i64]; have := hfd1; omega
                have HTQ : Hid (∀ nq : Nat, Below w.heap.size w (wr.drewN nq)) := fun nq => (HT1.out.trans (HBQ.out.mono (by omega))).trans ⟨rfl, rfl, rfl, Nat.le_refl _, fun _ _ => rfl⟩
                have HX : Hid (ds1 = ds2 → x1 = x2) := fun h => by have := HD.out h; subst this; exact Option.some.inj (hx1.symm.trans hx2)
                have HT' : Hid (x1 = x2 → d1.values.take (q + 1) = d2.values.take (q + 1)) := fun h => take_next HTK.out hx1 (h ▸ hx2)
                clear hx1 hx2 hk3 hk4 b3 b4
                by_cases t0 : x1.name = x2.name
                case neg =>
                  have t' := mkB_beq t0
                  have t'' := beq_eq_false_iff_ne.2 t0
                  have HQ := Lib.hid t0
                  go_wp2_with fail
                  go_quiet (fail)
                  go_wp2_with fail
                  go_ret
                  exact ⟨false, rfl, by simp; intro h; exact HQ.out (by rw [HX.out h]), HTQ.out _⟩
                rw [← t0] at e4_0
                have U0 := Lib.hid t0
                clear t0
                by_cases t1 : x1.num = x2.num
                case neg =>
                  have HQ := Lib.hid t1
                  go_wp2_with fail
                  go_quiet (fail)
                  go_wp2_with fail
                  go_ret
                  exact ⟨false, rfl, by simp; intro h; exact HQ.out (by rw [HX.out h]), HTQ.out _⟩
                rw [← t1] at e4_1
                have U1 := Lib.hid t1
                clear t1
                by_cases t2 : x1.line = x2.line
                case neg =>
                  have HQ := Lib.hid t2
                  go_wp2_with fail
                  go_quiet (fail)
                  go_wp2_with fail
                  go_ret
                  exact ⟨false, rfl, by simp; intro h; exact HQ.out (by rw [HX.out h]), HTQ.out _⟩
                rw [← t2] at e4_2
                have U2 := Lib.hid t2
                clear t2
                by_cases t3 : x1.col = x2.col
                case neg =>
                  have HQ := Lib.hid t3
                  go_wp2_with fail
                  go_quiet (fail)
                  go_wp2_with fail
                  go_ret
                  exact ⟨false, rfl, by simp; intro h; exact HQ.out (by rw [HX.out h]), HTQ.out _⟩
                rw [← t3] at e4_3
                have U3 := Lib.hid t3
                clear t3
                go_wp2_with fail
                go_quiet (fail)
                go_wp2_with fail
                go_roundw
                case rel => exact ⟨q + 1, by go_num, by omega, HT'.out (vl_eq U0.out U1.out U2.out U3.out), HBQ.out.trans ⟨rfl, rfl, rfl, Nat.le_refl _, fun _ _ => rfl⟩⟩
                case measure => simp [intOf]; omega
              · obtain rfl : q = d1.values.length := by omega
                have hqq : ¬ ((d1.values.length : Int) < (d1.values.length : Int)) := by omega
                generalize wr = Y2 at *
                have HE1 : Hid (d1.values = d2.values) := by
                  refine (?_ : _ = _)
                  have h := HTK.out
                  rw [List.take_length, HC5.out, List.take_length] at h
                  exact h
                have HS2 : Hid (w.heap.size ≤ Y2.heap.size ∧ D1 < Y2.heap.size ∧ D2 < Y2.heap.size) := by
                  refine (?_ : _ ∧ _)
                  have := HBQ.out.size
                  omega
                have HA2 : Hid (Y2.heap[D1]? = some (.cells (drow d1 (.slice fa1 d1.fields.length fc1) (.slice va1 d1.values.length vc1) (.slice ma1 d1.methods.length mc1) (.slice ia1 d1.inner.length ic1)).toArray 56 (0, 0))) := by refine (?_ : _ = _); rw [HBQ.out.block D1 (by omega)]; exact HA1.out
                have HB2 : Hid (Y2.heap[D2]? = some (.cells (drow d2 (.slice fa2 d2.fields.length fc2) (.slice va2 d2.values.length vc2) (.slice ma2 d2.methods.length mc2) (.slice ia2 d2.inner.length ic2)).toArray 56 (0, 0))) := by refine (?_ : _ = _); rw [HBQ.out.block D2 (by omega)]; exact HB1.out
                have HO2 := HOw
                have HT2 : Hid (Below w.heap.size w Y2) := HT1.out.trans (HBQ.out.mono (by omega))
                clear HBQ HOw HTK
                have l1 := HA2.out
                have n1 : Y2.cell? ⟨D1, 6, none⟩ = some (.slice ma1 d1.methods.length mc1) := by simp [World.cell?, l1, drow]
                clear l1
                go_wp2_with fail
                go_loopw [10, 122] (fun _ kk wq => ∃ q : Nat, kk = .int .i64 (q : Int) ∧ q ≤ d1.methods.length ∧ d1.methods.take q = d2.methods.take q ∧ Below Y2.heap.size Y2 wq) (fun _ kk _ => d1.methods.length - (intOf kk).toNat)
                case atStart => exact ⟨0, rfl, by omega, rfl, Below.refl _ _⟩
                case round =>
                  obtain ⟨q, rfl, hq, htk, hbq⟩ := hrel
                  have HBQ := Lib.hid hbq
                  have HTK := Lib.hid htk
                  have hsz := HS2.out
                  have l1 : wr.heap[D1]? = some (.cells (drow d1 (.slice fa1 d1.fields.length fc1) (.slice va1 d1.values.length vc1) (.slice ma1 d1.methods.length mc1) (.slice ia1 d1.inner.length ic1)).toArray 56 (0, 0)) := by rw [hbq.block D1 (by omega)]; exact HA2.out
                  have l2 : wr.heap[D2]? = some (.cells (drow d2 (.slice fa2 d2.fields.length fc2) (.slice va2 d2.values.length vc2) (.slice ma2 d2.methods.length mc2) (.slice ia2 d2.inner.length ic2)).toArray 56 (0, 0)) := by rw [hbq.block D2 (by omega)]; exact HB2.out
                  have p1 : wr.cell? ⟨D1, 6, none⟩ = some (.slice ma1 d1.methods.length mc1) := by simp [World.cell?, l1, drow]
                  have p2 : wr.cell? ⟨D2, 6, none⟩ = some (.slice ma2 d1.methods.length mc2) := by rw [HC6.out]; simp [World.cell?, l2, drow]
                  have HOw : Hid (∀ b, b < w.heap.size → wr.heap[b]? = w.heap[b]?) := fun b hb => by rw [HBQ.out.block b (by omega)]; exact HO2.out b hb
                  clear hbq l1 l2 htk
                  by_cases hqn : q < d1.methods.length
                  · obtain ⟨x1, hx1⟩ : ∃ x, d1.methods[q]? = some x := ⟨_, List.getElem?_eq_getElem hqn⟩
                    obtain ⟨x2, hx2⟩ : ∃ x, d2.methods[q]? = some x := ⟨_, List.getElem?_eq_getElem (by have := HC6.out; omega)⟩
                    rcases Hm1.out with h0 | ⟨g3, o3, rfl, hg3, hk3⟩
                    · rw [h0] at hx1; simp at hx1
                    rcases Hm2.out with h0 | ⟨g4, o4, rfl, hg4, hk4⟩
                    · rw [h0] at hx2; simp at hx2
                    have b3 := HOw.out g3 hg3
                    have b4 := HOw.out g4 hg4
                    have e3_0 : wr.cell? ⟨g3, o3 + q * 5, none⟩ = some (.string (mkB x1.name)) := by
                      rw [World.cell?_of_block b3]
                      have := hk3 q x1 hx1 0 _ rfl
                      simpa [Nat.add_assoc] using this
                    have e4_0 : wr.cell? ⟨g4, o4 + q * 5, none⟩ = some (.string (mkB x2.name)) := by
                      rw [World.cell?_of_block b4]
                      have := hk4 q x2 hx2 0 _ rfl
                      simpa [Nat.add_assoc] using this
                    have e3_1 : wr.cell? ⟨g3, o3 + q * 5 + 1, none⟩ = some (.string (mkB x1.inp)) := by
                      rw [World.cell?_of_block b3]
                      have := hk3 q x1 hx1 1 _ rfl
                      simpa [Nat.add_assoc] using this
                    have e4_1 : wr.cell? ⟨g4, o4 + q * 5 + 1, none⟩ = some (.string (mkB x2.inp)) := by
                      rw [World.cell?_of_block b4]
                      have := hk4 q x2 hx2 1 _ rfl
                      simpa [Nat.add_assoc] using this
                    have e3_2 : wr.cell? ⟨g3, o3 + q * 5 + 2, none⟩ = some (.string (mkB x1.out)) := by
                      rw [World.cell?_of_block b3]
                      have := hk3 q x1 hx1 2 _ rfl
                      simpa [Nat.add_assoc] using this
                    have e4_2 : wr.cell? ⟨g4, o4 + q * 5 + 2, none⟩ = some (.string (mkB x2.out)) := by
                      rw [World.cell?_of_block b4]
                      have := hk4 q x2 hx2 2 _ rfl
                      simpa [Nat.add_assoc] using this
                    have e3_3 : wr.cell? ⟨g3, o3 + q * 5 + 3, none⟩ = some (.int .i64 x1.line) := by
                      rw [World.cell?_of_block b3]
                      have := hk3 q x1 hx1 3 _ rfl
                      simpa [Nat.add_assoc] using this
                    have e4_3 : wr.cell? ⟨g4, o4 + q * 5 + 3, none⟩ = some (.int .i64 x2.line) := by
                      rw [World.cell?_of_block b4]
                      have := hk4 q x2 hx2 3 _ rfl
                      simpa [Nat.add_assoc] using this
                    have e3_4 : wr.cell? ⟨g3, o3 + q * 5 + 4, none⟩ = some (.int .i64 x1.col) := by
                      rw [World.cell?_of_block b3]
                      have := hk3 q x1 hx1 4 _ rfl
                      simpa [Nat.add_assoc] using this
                    have e4_4 : wr.cell? ⟨g4, o4 + q * 5 + 4, none⟩ = some (.int .i64 x2.col) := by
                      rw [World.cell?_of_block b4]
                      have := hk4 q x2 hx2 4 _ rfl
                      simpa [Nat.add_assoc] using this
                    have hq0 : (0 : Int) ≤ (q : Int) := by omega
                    have hq1 : (q : Int) < (d1.methods.length : Int) := by omega
                    have hwq : IntKind.i64.wrap ((q : Int) + 1) = (q : Int) + 1 := by rw [IntKind.wrap_i64]; have := hfd2; omega
                    have HTQ : Hid (∀ nq : Nat, Below w.heap.size w (wr.drewN nq)) := fun nq => (HT2.out.trans (HBQ.out.mono (by omega))).trans ⟨rfl, rfl, rfl, Nat.le_refl _, fun _ _ => rfl⟩
                    have HX : Hid (ds1 = ds2 → x1 = x2) := fun h => by have := HD.out h; subst this; exact Option.some.inj (hx1.symm.trans hx2)
                    have HT' : Hid (x1 = x2 → d1.methods.take (q + 1) = d2.methods.take (q + 1)) := fun h => take_next HTK.out hx1 (h ▸ hx2)
                    clear hx1 hx2 hk3 hk4 b3 b4
                    by_cases t0 : x1.name = x2.name
                    case neg =>
                      have t' := mkB_beq t0
                      have t'' := beq_eq_false_iff_ne.2 t0
                      have HQ := Lib.hid t0
                      go_wp2_with fail
                      go_quiet (fail)
                      go_wp2_with fail
                      go_ret
                      exact ⟨false, rfl, by simp; intro h; exact HQ.out (by rw [HX.out h]), HTQ.out _⟩
                    rw [← t0] at e4_0
                    have U0 := Lib.hid t0
                    clear t0
                    by_cases t1 : x1.inp = x2.inp
                    case neg =>
                      have t' := mkB_beq t1
                      have t'' := beq_eq_false_iff_ne.2 t1
                      have HQ := Lib.hid t1
                      go_wp2_with fail
                      go_quiet (fail)
                      go_wp2_with fail
                      go_ret
                      exact ⟨false, rfl, by simp; intro h; exact HQ.out (by rw [HX.out h]), HTQ.out _⟩
                    rw [← t1] at e4_1
                    have U1 := Lib.hid t1
                    clear t1
                    by_cases t2 : x1.out = x2.out
                    case neg =>
                      have t' := mkB_beq t2
                      have t'' := beq_eq_false_iff_ne.2 t2
                      have HQ := Lib.hid t2
                      go_wp2_with fail
                      go_quiet (fail)
                      go_wp2_with fail
                      go_ret
                      exact ⟨false, rfl, by simp; intro h; exact HQ.out (by rw [HX.out h]), HTQ.out _⟩
                    rw [← t2] at e4_2
                    have U2 := Lib.hid t2
                    clear t2
                    by_cases t3 : x1.line = x2.line
                    case neg =>
                      have HQ := Lib.hid t3
                      go_wp2_with fail
                      go_quiet (fail)
                      go_wp2_with fail
                      go_ret
                      exact ⟨false, rfl, by simp; intro h; exact HQ.out (by rw [HX.out h]), HTQ.out _⟩
                    rw [← t3] at e4_3
                    have U3 := Lib.hid t3
                    clear t3
                    by_cases t4 : x1.col = x2.col
                    case neg =>
                      have HQ := Lib.hid t4
                      go_wp2_with fail
                      go_quiet (fail)
                      go_wp2_with fail
                      go_ret
                      exact ⟨false, rfl, by simp; intro h; exact HQ.out (by rw [HX.out h]), HTQ.out _⟩
                    rw [← t4] at e4_4
                    have U4 := Lib.hid t4
                    clear t4
                    go_wp2_with fail
                    go_quiet (fail)
                    go_wp2_with fail
                    go_roundw
                    case rel => exact ⟨q + 1, by go_num, by omega, HT'.out (mt_eq U0.out U1.out U2.out U3.out U4.out), HBQ.out.trans ⟨rfl, rfl, rfl, Nat.le_refl _, fun _ _ => rfl⟩⟩
                    case measure => simp [intOf]; omega
                  · obtain rfl : q = d1.methods.length := by omega
                    have hqq : ¬ ((d1.methods.length : Int) < (d1.methods.length : Int)) := by omega
                    generalize wr = Y3 at *
                    have HE2 : Hid (d1.methods = d2.methods) := by
                      refine (?_ : _ = _)
                      have h := HTK.out
                      rw [List.take_length, HC6.out, List.take_length] at h
                      exact h
                    have HS3 : Hid (w.heap.size ≤ Y3.heap.size ∧ D1 < Y3.heap.size ∧ D2 < Y3.heap.size) := by
                      refine (?_ : _ ∧ _)
                      have := HBQ.out.size
                      omega
                    have HA3 : Hid (Y3.heap[D1]? = some (.cells (drow d1 (.slice fa1 d1.fields.length fc1) (.slice va1 d1.values.length vc1) (.slice ma1 d1.methods.length mc1) (.slice ia1 d1.inner.length ic1)).toArray 56 (0, 0))) := by refine (?_ : _ = _); rw [HBQ.out.block D1 (by omega)]; exact HA2.out
                    have HB3 : Hid (Y3.heap[D2]? = some (.cells (drow d2 (.slice fa2 d2.fields.length fc2) (.slice va2 d2.values.length vc2) (.slice ma2 d2.methods.length mc2) (.slice ia2 d2.inner.length ic2)).toArray 56 (0, 0))) := by refine (?_ : _ = _); rw [HBQ.out.block D2 (by omega)]; exact HB2.out
                    have HO3 := HOw
                    have HT3 : Hid (Below w.heap.size w Y3) := HT2.out.trans (HBQ.out.mono (by omega))
                    clear HBQ HOw HTK
                    go_wp2_with fail
                    go_roundw
                    case rel => exact ⟨j + 1, by go_num, by omega, HTN.out (dc_eq HC0.out HC1.out HC2.out HC3.out HE0.out HE1.out HE2.out HIN.out), HT3.out⟩
                    case measure => simp [intOf]; omega
    · obtain rfl : j = n := by omega
      have hnn : ¬ ((j : Int) < (j : Int)) := by omega
      go_wp2_with fail
      go_ret
      exact ⟨true, rfl, by simp; have h := HTJ.out; rw [← HN.out, List.take_length, HN.out, ← HN2.out, List.take_length] at h; exact h, HB.out⟩
end Go.Proofs.YtngmimbpakmkiaaGreatDoor
