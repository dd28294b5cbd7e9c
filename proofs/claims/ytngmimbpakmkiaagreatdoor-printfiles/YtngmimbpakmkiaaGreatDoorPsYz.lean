/-
  The walk over the document's own Same, of two that lie in memory as one list of declarations: true.
-/
import Derived.Test.YtngmimbpakmkiaaGreatDoorGmB
import Derived.Deep.Cut
import Derived.Deep.DeepCutAuto
import Derived.BigQuiet
import Derived.Deep.QuietTactic
namespace Go.Proofs.YtngmimbpakmkiaaGreatDoor
set_option linter.unusedVariables false
open Go.ChangeShapes Go.WideShapes Go.ChangeAt Go.RowKit

theorem two_first (w : World) (o o' : Obj) : ((w.alloc o).alloc o').drew.heap[w.heap.size]? = some o := by
  show ((w.heap.push o).push o')[w.heap.size]? = some o
  simp [Array.getElem?_push]
theorem two_second (w : World) (o o' : Obj) : ((w.alloc o).alloc o').drew.heap[w.heap.size + 1]? = some o' := by
  show ((w.heap.push o).push o')[w.heap.size + 1]? = some o'
  rw [Array.getElem?_push]
  simp
theorem HeldD.isSlice {w : World} {S : Nat → Prop} : ∀ {f : Nat} {v : Value} {ds : List Dc}, HeldD f w S v ds → ∃ ad c, v = .slice ad ds.length c
  | 0, v, ds, h => by obtain ⟨rfl, ad, c, rfl⟩ := h; exact ⟨ad, c, rfl⟩
  | f + 1, v, ds, h => by obtain ⟨ad, c, rfl, _⟩ := h; exact ⟨ad, c, rfl⟩
set_option maxHeartbeats 16000000 in
set_option maxRecDepth 20000 in
theorem same_refl : ∀ (f : Nat) (ds : List Dc) (v1 v2 : Value) (w : World), FitD f ds → HeldD f w (fun b => b < w.heap.size) v1 ds → HeldD f w (fun b => b < w.heap.size) v2 ds →
    Calls Tryz.prog 12 #[v1, v2] w fun e w' => e = .returned (.bool true) ∧ Below w.heap.size w w' := by
  intro f
  induction f with
  | zero =>
    rintro ds v1 v2 w _ ⟨rfl, ad1, c1, rfl⟩ ⟨_, ad2, c2, rfl⟩
    go_enter Tryz.func12, Tryz.ntmps12
    go_wp2_with fail
    go_loopw [5, 18] (fun _ i wr => i = .int .i64 0 ∧ wr = w) (fun _ _ _ => 0)
    case atStart => exact ⟨rfl, rfl⟩
    case round =>
      obtain ⟨rfl, hwr⟩ := hrel
      subst hwr
      go_wp2_with fail
      go_ret
      exact ⟨rfl, Below.refl _ _⟩
  | succ f ih =>
  rintro ds v1 v2 w ⟨hlen, hfit⟩ ⟨ad1, c1, rfl, hcap1, hheld1⟩ ⟨ad2, c2, rfl, hcap2, hheld2⟩
  have HFT := Lib.hid hfit
  have HH1 := Lib.hid hheld1
  have HH2 := Lib.hid hheld2
  obtain ⟨n, hn⟩ : ∃ n, ds.length = n := ⟨_, rfl⟩
  have HN := Lib.hid hn
  rw [hn] at hlen hcap1 hcap2 ⊢
  clear hfit hheld1 hheld2 hn
  go_enter Tryz.func12, Tryz.ntmps12
  go_wp2_with fail
  go_loopw [5, 18] (fun _ i wr => ∃ j : Nat, i = .int .i64 (j : Int) ∧ j ≤ n ∧ Below w.heap.size w wr) (fun _ i _ => n - (intOf i).toNat)
  case atStart => exact ⟨0, rfl, by omega, Below.refl _ _⟩
  case round =>
    obtain ⟨j, rfl, hj, hbel⟩ := hrel
    generalize wr = w1 at *
    have HB := Lib.hid hbel
    have hww := hbel.size
    clear hbel
    by_cases hjn : j < n
    · obtain ⟨d, hd⟩ : ∃ d, ds[j]? = some d := ⟨_, List.getElem?_eq_getElem (by have := HN.out; omega)⟩
      have hfd := HFT.out d (List.mem_of_getElem? hd)
      rcases HH1.out with h0 | ⟨g1, o1, rfl, hg1, hk1⟩
      · rw [h0] at hd; simp at hd
      rcases HH2.out with h0 | ⟨g2, o2, rfl, hg2, hk2⟩
      · rw [h0] at hd; simp at hd
      obtain ⟨fs1, vs1, ms1, i1, hcell1, ⟨fa1, fc1, rfl, _, hF1⟩, ⟨va1, vc1, rfl, _, hV1⟩, ⟨ma1, mc1, rfl, _, hM1⟩, hI1⟩ := hk1 j d hd
      obtain ⟨fs2, vs2, ms2, i2, hcell2, ⟨fa2, fc2, rfl, _, hF2⟩, ⟨va2, vc2, rfl, _, hV2⟩, ⟨ma2, mc2, rfl, _, hM2⟩, hI2⟩ := hk2 j d hd
      obtain ⟨ia1, ic1, rfl⟩ := HeldD.isSlice hI1
      obtain ⟨ia2, ic2, rfl⟩ := HeldD.isSlice hI2
      have Hf1 := Lib.hid hF1
      have Hf2 := Lib.hid hF2
      have Hv1 := Lib.hid hV1
      have Hv2 := Lib.hid hV2
      have Hm1 := Lib.hid hM1
      have Hm2 := Lib.hid hM2
      have HB0 : Hid (∀ W, Below w1.heap.size w1 W → Below w.heap.size w W) := fun W hW => HB.out.trans (hW.mono HB.out.size)
      have k1_0 : ∀ W, Below w1.heap.size w1 W → W.cell? ⟨g1, o1 + j * 8, none⟩ = some (.int .i64 d.kind) := fun W hW => by
        rw [(HB0.out W hW).cell (show g1 < w.heap.size from hg1)]
        have := hcell1 0 _ rfl
        simpa [Nat.add_assoc] using this
      have k1_1 : ∀ W, Below w1.heap.size w1 W → W.cell? ⟨g1, o1 + j * 8 + 1, none⟩ = some (.string (mkB d.name)) := fun W hW => by
        rw [(HB0.out W hW).cell (show g1 < w.heap.size from hg1)]
        have := hcell1 1 _ rfl
        simpa [Nat.add_assoc] using this
      have k1_2 : ∀ W, Below w1.heap.size w1 W → W.cell? ⟨g1, o1 + j * 8 + 2, none⟩ = some (.int .i64 d.line) := fun W hW => by
        rw [(HB0.out W hW).cell (show g1 < w.heap.size from hg1)]
        have := hcell1 2 _ rfl
        simpa [Nat.add_assoc] using this
      have k1_3 : ∀ W, Below w1.heap.size w1 W → W.cell? ⟨g1, o1 + j * 8 + 3, none⟩ = some (.int .i64 d.col) := fun W hW => by
        rw [(HB0.out W hW).cell (show g1 < w.heap.size from hg1)]
        have := hcell1 3 _ rfl
        simpa [Nat.add_assoc] using this
      have k1_4 : ∀ W, Below w1.heap.size w1 W → W.cell? ⟨g1, o1 + j * 8 + 4, none⟩ = some (.slice fa1 d.fields.length fc1) := fun W hW => by
        rw [(HB0.out W hW).cell (show g1 < w.heap.size from hg1)]
        have := hcell1 4 _ rfl
        simpa [Nat.add_assoc] using this
      have k1_5 : ∀ W, Below w1.heap.size w1 W → W.cell? ⟨g1, o1 + j * 8 + 5, none⟩ = some (.slice va1 d.values.length vc1) := fun W hW => by
        rw [(HB0.out W hW).cell (show g1 < w.heap.size from hg1)]
        have := hcell1 5 _ rfl
        simpa [Nat.add_assoc] using this
      have k1_6 : ∀ W, Below w1.heap.size w1 W → W.cell? ⟨g1, o1 + j * 8 + 6, none⟩ = some (.slice ma1 d.methods.length mc1) := fun W hW => by
        rw [(HB0.out W hW).cell (show g1 < w.heap.size from hg1)]
        have := hcell1 6 _ rfl
        simpa [Nat.add_assoc] using this
      have k1_7 : ∀ W, Below w1.heap.size w1 W → W.cell? ⟨g1, o1 + j * 8 + 7, none⟩ = some ((.slice ia1 d.inner.length ic1)) := fun W hW => by
        rw [(HB0.out W hW).cell (show g1 < w.heap.size from hg1)]
        have := hcell1 7 _ rfl
        simpa [Nat.add_assoc] using this
      have k2_0 : ∀ W, Below w1.heap.size w1 W → W.cell? ⟨g2, o2 + j * 8, none⟩ = some (.int .i64 d.kind) := fun W hW => by
        rw [(HB0.out W hW).cell (show g2 < w.heap.size from hg2)]
        have := hcell2 0 _ rfl
        simpa [Nat.add_assoc] using this
      have k2_1 : ∀ W, Below w1.heap.size w1 W → W.cell? ⟨g2, o2 + j * 8 + 1, none⟩ = some (.string (mkB d.name)) := fun W hW => by
        rw [(HB0.out W hW).cell (show g2 < w.heap.size from hg2)]
        have := hcell2 1 _ rfl
        simpa [Nat.add_assoc] using this
      have k2_2 : ∀ W, Below w1.heap.size w1 W → W.cell? ⟨g2, o2 + j * 8 + 2, none⟩ = some (.int .i64 d.line) := fun W hW => by
        rw [(HB0.out W hW).cell (show g2 < w.heap.size from hg2)]
        have := hcell2 2 _ rfl
        simpa [Nat.add_assoc] using this
      have k2_3 : ∀ W, Below w1.heap.size w1 W → W.cell? ⟨g2, o2 + j * 8 + 3, none⟩ = some (.int .i64 d.col) := fun W hW => by
        rw [(HB0.out W hW).cell (show g2 < w.heap.size from hg2)]
        have := hcell2 3 _ rfl
        simpa [Nat.add_assoc] using this
      have k2_4 : ∀ W, Below w1.heap.size w1 W → W.cell? ⟨g2, o2 + j * 8 + 4, none⟩ = some (.slice fa2 d.fields.length fc2) := fun W hW => by
        rw [(HB0.out W hW).cell (show g2 < w.heap.size from hg2)]
        have := hcell2 4 _ rfl
        simpa [Nat.add_assoc] using this
      have k2_5 : ∀ W, Below w1.heap.size w1 W → W.cell? ⟨g2, o2 + j * 8 + 5, none⟩ = some (.slice va2 d.values.length vc2) := fun W hW => by
        rw [(HB0.out W hW).cell (show g2 < w.heap.size from hg2)]
        have := hcell2 5 _ rfl
        simpa [Nat.add_assoc] using this
      have k2_6 : ∀ W, Below w1.heap.size w1 W → W.cell? ⟨g2, o2 + j * 8 + 6, none⟩ = some (.slice ma2 d.methods.length mc2) := fun W hW => by
        rw [(HB0.out W hW).cell (show g2 < w.heap.size from hg2)]
        have := hcell2 6 _ rfl
        simpa [Nat.add_assoc] using this
      have k2_7 : ∀ W, Below w1.heap.size w1 W → W.cell? ⟨g2, o2 + j * 8 + 7, none⟩ = some ((.slice ia2 d.inner.length ic2)) := fun W hW => by
        rw [(HB0.out W hW).cell (show g2 < w.heap.size from hg2)]
        have := hcell2 7 _ rfl
        simpa [Nat.add_assoc] using this
      have HRC : Hid (∀ W, Below w1.heap.size w1 W → Calls Tryz.prog 12 #[(.slice ia1 d.inner.length ic1), (.slice ia2 d.inner.length ic2)] W fun e w' => e = .returned (.bool true) ∧ Below W.heap.size W w') := fun W hW =>
        ih d.inner (.slice ia1 d.inner.length ic1) (.slice ia2 d.inner.length ic2) W hfd.2.2.2 ((HeldD.old (fun b hb => (HB0.out W hW).block b hb) hI1).more fun b hb => by have := (HB0.out W hW).size; omega) ((HeldD.old (fun b hb => (HB0.out W hW).block b hb) hI2).more fun b hb => by have := (HB0.out W hW).size; omega)
      have hfd0 := hfd.1
      have hfd1 := hfd.2.1
      have hfd2 := hfd.2.2.1
      have hj0 : (0 : Int) ≤ (j : Int) := by omega
      have hj1 : (j : Int) < (n : Int) := by omega
      have hwj : IntKind.i64.wrap ((j : Int) + 1) = (j : Int) + 1 := by rw [IntKind.wrap_i64]; omega
      have hbr : Below w1.heap.size w1 w1.drew := (Below.refl _ _).drew
      have hbb : ∀ o o', Below w1.heap.size w1 ((w1.alloc o).alloc o').drew := fun o o' => (((Below.refl _ w1).alloc (Nat.le_refl _) o).alloc (by simp) o').drew
      have hba : ∀ o, Below w1.heap.size w1 (w1.alloc o).drew := fun o => ((Below.refl _ w1).alloc (Nat.le_refl _) o).drew
      clear hcell1 hcell2 hF1 hF2 hV1 hV2 hM1 hM2 hI1 hI2 hk1 hk2 hd hfd ih
      go_upto_region 6 with fail
      go_cut [6, 7] (fun s6 s7 wx => ∃ D1 D2 : Nat, s6 = .pointer (some ⟨D1, 0, none⟩) ∧ s7 = .pointer (some ⟨D2, 0, none⟩) ∧ wx.heap[D1]? = some (.cells (drow d (.slice fa1 d.fields.length fc1) (.slice va1 d.values.length vc1) (.slice ma1 d.methods.length mc1) (.slice ia1 d.inner.length ic1)).toArray 56 (0, 0)) ∧ wx.heap[D2]? = some (.cells (drow d (.slice fa2 d.fields.length fc2) (.slice va2 d.values.length vc2) (.slice ma2 d.methods.length mc2) (.slice ia2 d.inner.length ic2)).toArray 56 (0, 0)) ∧ Below w1.heap.size w1 wx)
      case first =>
        go_region_held_law (fun W => Below w1.heap.size w1 W) (first | with_reducible exact hbr | with_reducible exact hba _ | with_reducible exact hbb _ _) (fail)
        all_goals go_wp2_with fail
        all_goals go_meet
        · exact ⟨w1.heap.size, w1.heap.size + 1, rfl, rfl, two_first _ _ _, two_second _ _ _, hbb _ _⟩
        · exact ⟨w1.heap.size + 1, w1.heap.size, rfl, rfl, two_second _ _ _, two_first _ _ _, hbb _ _⟩
      case rest =>
        obtain ⟨D1, D2, rfl, rfl, hA1, hA2, hbX⟩ := hcut
        generalize wc = X at *
        have x1_0 : X.cell? ⟨D1, 0, none⟩ = some (.int .i64 d.kind) := by simp [World.cell?, hA1, drow]
        have x1_1 : X.cell? ⟨D1, 1, none⟩ = some (.string (mkB d.name)) := by simp [World.cell?, hA1, drow]
        have x1_2 : X.cell? ⟨D1, 2, none⟩ = some (.int .i64 d.line) := by simp [World.cell?, hA1, drow]
        have x1_3 : X.cell? ⟨D1, 3, none⟩ = some (.int .i64 d.col) := by simp [World.cell?, hA1, drow]
        have x1_4 : X.cell? ⟨D1, 4, none⟩ = some (.slice fa1 d.fields.length fc1) := by simp [World.cell?, hA1, drow]
        have x1_5 : X.cell? ⟨D1, 5, none⟩ = some (.slice va1 d.values.length vc1) := by simp [World.cell?, hA1, drow]
        have x1_6 : X.cell? ⟨D1, 6, none⟩ = some (.slice ma1 d.methods.length mc1) := by simp [World.cell?, hA1, drow]
        have x1_7 : X.cell? ⟨D1, 7, none⟩ = some ((.slice ia1 d.inner.length ic1)) := by simp [World.cell?, hA1, drow]
        have x2_0 : X.cell? ⟨D2, 0, none⟩ = some (.int .i64 d.kind) := by simp [World.cell?, hA2, drow]
        have x2_1 : X.cell? ⟨D2, 1, none⟩ = some (.string (mkB d.name)) := by simp [World.cell?, hA2, drow]
        have x2_2 : X.cell? ⟨D2, 2, none⟩ = some (.int .i64 d.line) := by simp [World.cell?, hA2, drow]
        have x2_3 : X.cell? ⟨D2, 3, none⟩ = some (.int .i64 d.col) := by simp [World.cell?, hA2, drow]
        have x2_4 : X.cell? ⟨D2, 4, none⟩ = some (.slice fa2 d.fields.length fc2) := by simp [World.cell?, hA2, drow]
        have x2_5 : X.cell? ⟨D2, 5, none⟩ = some (.slice va2 d.values.length vc2) := by simp [World.cell?, hA2, drow]
        have x2_6 : X.cell? ⟨D2, 6, none⟩ = some (.slice ma2 d.methods.length mc2) := by simp [World.cell?, hA2, drow]
        have x2_7 : X.cell? ⟨D2, 7, none⟩ = some ((.slice ia2 d.inner.length ic2)) := by simp [World.cell?, hA2, drow]
        have HA0' := Lib.hid hA1
        have HB0' := Lib.hid hA2
        have hD1 : D1 < X.heap.size := (Array.getElem?_eq_some_iff.1 hA1).1
        have hD2 : D2 < X.heap.size := (Array.getElem?_eq_some_iff.1 hA2).1
        have hRX := HRC.out X hbX
        have HXX := Lib.hid hbX
        clear hA1 hA2 hbr hba hbb HRC hbX
        go_wp2_with fail
        refine hRX.mono ?_
        rintro e Y0 ⟨rfl, hb0⟩
        have hz0 := hb0.size
        have HS0 : Hid (w.heap.size ≤ Y0.heap.size ∧ D1 < Y0.heap.size ∧ D2 < Y0.heap.size) := by
          refine (?_ : _ ∧ _)
          have := HXX.out.size
          omega
        have HA0 : Hid (Y0.heap[D1]? = some (.cells (drow d (.slice fa1 d.fields.length fc1) (.slice va1 d.values.length vc1) (.slice ma1 d.methods.length mc1) (.slice ia1 d.inner.length ic1)).toArray 56 (0, 0))) := by refine (?_ : _ = _); rw [hb0.block D1 hD1]; exact HA0'.out
        have HBz : Hid (Y0.heap[D2]? = some (.cells (drow d (.slice fa2 d.fields.length fc2) (.slice va2 d.values.length vc2) (.slice ma2 d.methods.length mc2) (.slice ia2 d.inner.length ic2)).toArray 56 (0, 0))) := by refine (?_ : _ = _); rw [hb0.block D2 hD2]; exact HB0'.out
        have HT0 : Hid (Below w.heap.size w Y0) := (HB0.out X HXX.out).trans (hb0.mono (by have := HXX.out.size; omega))
        have HO0 : Hid (∀ b, b < w.heap.size → Y0.heap[b]? = w.heap[b]?) := fun b hb => HT0.out.block b hb
        have HB0 := HBz
        have l1 := HA0.out
        have n1 : Y0.cell? ⟨D1, 4, none⟩ = some (.slice fa1 d.fields.length fc1) := by simp [World.cell?, l1, drow]
        clear l1 hRX hb0 HA0' HB0' HBz
        go_wp2_with fail
        go_loopw [8, 86] (fun _ kk wq => ∃ q : Nat, kk = .int .i64 (q : Int) ∧ q ≤ d.fields.length ∧ Below Y0.heap.size Y0 wq) (fun _ kk _ => d.fields.length - (intOf kk).toNat)
        case atStart => exact ⟨0, rfl, by omega, Below.refl _ _⟩
        case round =>
          obtain ⟨q, rfl, hq, hbq⟩ := hrel
          have HBQ := Lib.hid hbq
          have hsz := HS0.out
          have l1 : wr.heap[D1]? = some (.cells (drow d (.slice fa1 d.fields.length fc1) (.slice va1 d.values.length vc1) (.slice ma1 d.methods.length mc1) (.slice ia1 d.inner.length ic1)).toArray 56 (0, 0)) := by rw [hbq.block D1 (by omega)]; exact HA0.out
          have l2 : wr.heap[D2]? = some (.cells (drow d (.slice fa2 d.fields.length fc2) (.slice va2 d.values.length vc2) (.slice ma2 d.methods.length mc2) (.slice ia2 d.inner.length ic2)).toArray 56 (0, 0)) := by rw [hbq.block D2 (by omega)]; exact HB0.out
          have p1 : wr.cell? ⟨D1, 4, none⟩ = some (.slice fa1 d.fields.length fc1) := by simp [World.cell?, l1, drow]
          have p2 : wr.cell? ⟨D2, 4, none⟩ = some (.slice fa2 d.fields.length fc2) := by simp [World.cell?, l2, drow]
          have HOw : Hid (∀ b, b < w.heap.size → wr.heap[b]? = w.heap[b]?) := fun b hb => by rw [HBQ.out.block b (by omega)]; exact HO0.out b hb
          clear hbq l1 l2
          by_cases hqn : q < d.fields.length
          · obtain ⟨x, hx⟩ : ∃ x, d.fields[q]? = some x := ⟨_, List.getElem?_eq_getElem hqn⟩
            rcases Hf1.out with h0 | ⟨g3, o3, rfl, hg3, hk3⟩
            · rw [h0] at hx; simp at hx
            rcases Hf2.out with h0 | ⟨g4, o4, rfl, hg4, hk4⟩
            · rw [h0] at hx; simp at hx
            have b3 := HOw.out g3 hg3
            have b4 := HOw.out g4 hg4
            have e3_0 : wr.cell? ⟨g3, o3 + q * 6, none⟩ = some (.bool x.rep) := by
              rw [World.cell?_of_block b3]
              have := hk3 q x hx 0 _ rfl
              simpa [Nat.add_assoc] using this
            have e4_0 : wr.cell? ⟨g4, o4 + q * 6, none⟩ = some (.bool x.rep) := by
              rw [World.cell?_of_block b4]
              have := hk4 q x hx 0 _ rfl
              simpa [Nat.add_assoc] using this
            have e3_1 : wr.cell? ⟨g3, o3 + q * 6 + 1, none⟩ = some (.string (mkB x.type)) := by
              rw [World.cell?_of_block b3]
              have := hk3 q x hx 1 _ rfl
              simpa [Nat.add_assoc] using this
            have e4_1 : wr.cell? ⟨g4, o4 + q * 6 + 1, none⟩ = some (.string (mkB x.type)) := by
              rw [World.cell?_of_block b4]
              have := hk4 q x hx 1 _ rfl
              simpa [Nat.add_assoc] using this
            have e3_2 : wr.cell? ⟨g3, o3 + q * 6 + 2, none⟩ = some (.string (mkB x.name)) := by
              rw [World.cell?_of_block b3]
              have := hk3 q x hx 2 _ rfl
              simpa [Nat.add_assoc] using this
            have e4_2 : wr.cell? ⟨g4, o4 + q * 6 + 2, none⟩ = some (.string (mkB x.name)) := by
              rw [World.cell?_of_block b4]
              have := hk4 q x hx 2 _ rfl
              simpa [Nat.add_assoc] using this
            have e3_3 : wr.cell? ⟨g3, o3 + q * 6 + 3, none⟩ = some (.int .i64 x.num) := by
              rw [World.cell?_of_block b3]
              have := hk3 q x hx 3 _ rfl
              simpa [Nat.add_assoc] using this
            have e4_3 : wr.cell? ⟨g4, o4 + q * 6 + 3, none⟩ = some (.int .i64 x.num) := by
              rw [World.cell?_of_block b4]
              have := hk4 q x hx 3 _ rfl
              simpa [Nat.add_assoc] using this
            have e3_4 : wr.cell? ⟨g3, o3 + q * 6 + 4, none⟩ = some (.int .i64 x.line) := by
              rw [World.cell?_of_block b3]
              have := hk3 q x hx 4 _ rfl
              simpa [Nat.add_assoc] using this
            have e4_4 : wr.cell? ⟨g4, o4 + q * 6 + 4, none⟩ = some (.int .i64 x.line) := by
              rw [World.cell?_of_block b4]
              have := hk4 q x hx 4 _ rfl
              simpa [Nat.add_assoc] using this
            have e3_5 : wr.cell? ⟨g3, o3 + q * 6 + 5, none⟩ = some (.int .i64 x.col) := by
              rw [World.cell?_of_block b3]
              have := hk3 q x hx 5 _ rfl
              simpa [Nat.add_assoc] using this
            have e4_5 : wr.cell? ⟨g4, o4 + q * 6 + 5, none⟩ = some (.int .i64 x.col) := by
              rw [World.cell?_of_block b4]
              have := hk4 q x hx 5 _ rfl
              simpa [Nat.add_assoc] using this
            have hq0 : (0 : Int) ≤ (q : Int) := by omega
            have hq1 : (q : Int) < (d.fields.length : Int) := by omega
            have hwq : IntKind.i64.wrap ((q : Int) + 1) = (q : Int) + 1 := by rw [IntKind.wrap_i64]; have := hfd0; omega
            clear hx hk3 hk4 b3 b4
            go_wp2_with fail
            go_quiet (fail)
            go_wp2_with fail
            go_roundw
            case rel => exact ⟨q + 1, by go_num, by omega, HBQ.out.trans ⟨rfl, rfl, rfl, Nat.le_refl _, fun _ _ => rfl⟩⟩
            case measure => simp [intOf]; omega
          · obtain rfl : q = d.fields.length := by omega
            have hqq : ¬ ((d.fields.length : Int) < (d.fields.length : Int)) := by omega
            generalize wr = Y1 at *
            have HS1 : Hid (w.heap.size ≤ Y1.heap.size ∧ D1 < Y1.heap.size ∧ D2 < Y1.heap.size) := by
              refine (?_ : _ ∧ _)
              have := HBQ.out.size
              omega
            have HA1 : Hid (Y1.heap[D1]? = some (.cells (drow d (.slice fa1 d.fields.length fc1) (.slice va1 d.values.length vc1) (.slice ma1 d.methods.length mc1) (.slice ia1 d.inner.length ic1)).toArray 56 (0, 0))) := by refine (?_ : _ = _); rw [HBQ.out.block D1 (by omega)]; exact HA0.out
            have HB1 : Hid (Y1.heap[D2]? = some (.cells (drow d (.slice fa2 d.fields.length fc2) (.slice va2 d.values.length vc2) (.slice ma2 d.methods.length mc2) (.slice ia2 d.inner.length ic2)).toArray 56 (0, 0))) := by refine (?_ : _ = _); rw [HBQ.out.block D2 (by omega)]; exact HB0.out
            have HO1 := HOw
            have HT1 : Hid (Below w.heap.size w Y1) := HT0.out.trans (HBQ.out.mono (by omega))
            clear HBQ HOw
            have l1 := HA1.out
            have n1 : Y1.cell? ⟨D1, 5, none⟩ = some (.slice va1 d.values.length vc1) := by simp [World.cell?, l1, drow]
            clear l1
            go_wp2_with fail
            go_loopw [9, 104] (fun _ kk wq => ∃ q : Nat, kk = .int .i64 (q : Int) ∧ q ≤ d.values.length ∧ Below Y1.heap.size Y1 wq) (fun _ kk _ => d.values.length - (intOf kk).toNat)
            case atStart => exact ⟨0, rfl, by omega, Below.refl _ _⟩
            case round =>
              obtain ⟨q, rfl, hq, hbq⟩ := hrel
              have HBQ := Lib.hid hbq
              have hsz := HS1.out
              have l1 : wr.heap[D1]? = some (.cells (drow d (.slice fa1 d.fields.length fc1) (.slice va1 d.values.length vc1) (.slice ma1 d.methods.length mc1) (.slice ia1 d.inner.length ic1)).toArray 56 (0, 0)) := by rw [hbq.block D1 (by omega)]; exact HA1.out
              have l2 : wr.heap[D2]? = some (.cells (drow d (.slice fa2 d.fields.length fc2) (.slice va2 d.values.length vc2) (.slice ma2 d.methods.length mc2) (.slice ia2 d.inner.length ic2)).toArray 56 (0, 0)) := by rw [hbq.block D2 (by omega)]; exact HB1.out
              have p1 : wr.cell? ⟨D1, 5, none⟩ = some (.slice va1 d.values.length vc1) := by simp [World.cell?, l1, drow]
              have p2 : wr.cell? ⟨D2, 5, none⟩ = some (.slice va2 d.values.length vc2) := by simp [World.cell?, l2, drow]
              have HOw : Hid (∀ b, b < w.heap.size → wr.heap[b]? = w.heap[b]?) := fun b hb => by rw [HBQ.out.block b (by omega)]; exact HO1.out b hb
              clear hbq l1 l2
              by_cases hqn : q < d.values.length
              · obtain ⟨x, hx⟩ : ∃ x, d.values[q]? = some x := ⟨_, List.getElem?_eq_getElem hqn⟩
                rcases Hv1.out with h0 | ⟨g3, o3, rfl, hg3, hk3⟩
                · rw [h0] at hx; simp at hx
                rcases Hv2.out with h0 | ⟨g4, o4, rfl, hg4, hk4⟩
                · rw [h0] at hx; simp at hx
                have b3 := HOw.out g3 hg3
                have b4 := HOw.out g4 hg4
                have e3_0 : wr.cell? ⟨g3, o3 + q * 4, none⟩ = some (.string (mkB x.name)) := by
                  rw [World.cell?_of_block b3]
                  have := hk3 q x hx 0 _ rfl
                  simpa [Nat.add_assoc] using this
                have e4_0 : wr.cell? ⟨g4, o4 + q * 4, none⟩ = some (.string (mkB x.name)) := by
                  rw [World.cell?_of_block b4]
                  have := hk4 q x hx 0 _ rfl
                  simpa [Nat.add_assoc] using this
                have e3_1 : wr.cell? ⟨g3, o3 + q * 4 + 1, none⟩ = some (.int .i64 x.num) := by
                  rw [World.cell?_of_block b3]
                  have := hk3 q x hx 1 _ rfl
                  simpa [Nat.add_assoc] using this
                have e4_1 : wr.cell? ⟨g4, o4 + q * 4 + 1, none⟩ = some (.int .i64 x.num) := by
                  rw [World.cell?_of_block b4]
                  have := hk4 q x hx 1 _ rfl
                  simpa [Nat.add_assoc] using this
                have e3_2 : wr.cell? ⟨g3, o3 + q * 4 + 2, none⟩ = some (.int .i64 x.line) := by
                  rw [World.cell?_of_block b3]
                  have := hk3 q x hx 2 _ rfl
                  simpa [Nat.add_assoc] using this
                have e4_2 : wr.cell? ⟨g4, o4 + q * 4 + 2, none⟩ = some (.int .i64 x.line) := by
                  rw [World.cell?_of_block b4]
                  have := hk4 q x hx 2 _ rfl
                  simpa [Nat.add_assoc] using this
                have e3_3 : wr.cell? ⟨g3, o3 + q * 4 + 3, none⟩ = some (.int .i64 x.col) := by
                  rw [World.cell?_of_block b3]
                  have := hk3 q x hx 3 _ rfl
                  simpa [Nat.add_assoc] using this
                have e4_3 : wr.cell? ⟨g4, o4 + q * 4 + 3, none⟩ = some (.int .i64 x.col) := by
                  rw [World.cell?_of_block b4]
                  have := hk4 q x hx 3 _ rfl
                  simpa [Nat.add_assoc] using this
                have hq0 : (0 : Int) ≤ (q : Int) := by omega
                have hq1 : (q : Int) < (d.values.length : Int) := by omega
                have hwq : IntKind.i64.wrap ((q : Int) + 1) = (q : Int) + 1 := by rw [IntKind.wrap_i64]; have := hfd1; omega
                clear hx hk3 hk4 b3 b4
                go_wp2_with fail
                go_quiet (fail)
                go_wp2_with fail
                go_roundw
                case rel => exact ⟨q + 1, by go_num, by omega, HBQ.out.trans ⟨rfl, rfl, rfl, Nat.le_refl _, fun _ _ => rfl⟩⟩
                case measure => simp [intOf]; omega
              · obtain rfl : q = d.values.length := by omega
                have hqq : ¬ ((d.values.length : Int) < (d.values.length : Int)) := by omega
                generalize wr = Y2 at *
                have HS2 : Hid (w.heap.size ≤ Y2.heap.size ∧ D1 < Y2.heap.size ∧ D2 < Y2.heap.size) := by
                  refine (?_ : _ ∧ _)
                  have := HBQ.out.size
                  omega
                have HA2 : Hid (Y2.heap[D1]? = some (.cells (drow d (.slice fa1 d.fields.length fc1) (.slice va1 d.values.length vc1) (.slice ma1 d.methods.length mc1) (.slice ia1 d.inner.length ic1)).toArray 56 (0, 0))) := by refine (?_ : _ = _); rw [HBQ.out.block D1 (by omega)]; exact HA1.out
                have HB2 : Hid (Y2.heap[D2]? = some (.cells (drow d (.slice fa2 d.fields.length fc2) (.slice va2 d.values.length vc2) (.slice ma2 d.methods.length mc2) (.slice ia2 d.inner.length ic2)).toArray 56 (0, 0))) := by refine (?_ : _ = _); rw [HBQ.out.block D2 (by omega)]; exact HB1.out
                have HO2 := HOw
                have HT2 : Hid (Below w.heap.size w Y2) := HT1.out.trans (HBQ.out.mono (by omega))
                clear HBQ HOw
                have l1 := HA2.out
                have n1 : Y2.cell? ⟨D1, 6, none⟩ = some (.slice ma1 d.methods.length mc1) := by simp [World.cell?, l1, drow]
                clear l1
                go_wp2_with fail
                go_loopw [10, 122] (fun _ kk wq => ∃ q : Nat, kk = .int .i64 (q : Int) ∧ q ≤ d.methods.length ∧ Below Y2.heap.size Y2 wq) (fun _ kk _ => d.methods.length - (intOf kk).toNat)
                case atStart => exact ⟨0, rfl, by omega, Below.refl _ _⟩
                case round =>
                  obtain ⟨q, rfl, hq, hbq⟩ := hrel
                  have HBQ := Lib.hid hbq
                  have hsz := HS2.out
                  have l1 : wr.heap[D1]? = some (.cells (drow d (.slice fa1 d.fields.length fc1) (.slice va1 d.values.length vc1) (.slice ma1 d.methods.length mc1) (.slice ia1 d.inner.length ic1)).toArray 56 (0, 0)) := by rw [hbq.block D1 (by omega)]; exact HA2.out
                  have l2 : wr.heap[D2]? = some (.cells (drow d (.slice fa2 d.fields.length fc2) (.slice va2 d.values.length vc2) (.slice ma2 d.methods.length mc2) (.slice ia2 d.inner.length ic2)).toArray 56 (0, 0)) := by rw [hbq.block D2 (by omega)]; exact HB2.out
                  have p1 : wr.cell? ⟨D1, 6, none⟩ = some (.slice ma1 d.methods.length mc1) := by simp [World.cell?, l1, drow]
                  have p2 : wr.cell? ⟨D2, 6, none⟩ = some (.slice ma2 d.methods.length mc2) := by simp [World.cell?, l2, drow]
                  have HOw : Hid (∀ b, b < w.heap.size → wr.heap[b]? = w.heap[b]?) := fun b hb => by rw [HBQ.out.block b (by omega)]; exact HO2.out b hb
                  clear hbq l1 l2
                  by_cases hqn : q < d.methods.length
                  · obtain ⟨x, hx⟩ : ∃ x, d.methods[q]? = some x := ⟨_, List.getElem?_eq_getElem hqn⟩
                    rcases Hm1.out with h0 | ⟨g3, o3, rfl, hg3, hk3⟩
                    · rw [h0] at hx; simp at hx
                    rcases Hm2.out with h0 | ⟨g4, o4, rfl, hg4, hk4⟩
                    · rw [h0] at hx; simp at hx
                    have b3 := HOw.out g3 hg3
                    have b4 := HOw.out g4 hg4
                    have e3_0 : wr.cell? ⟨g3, o3 + q * 5, none⟩ = some (.string (mkB x.name)) := by
                      rw [World.cell?_of_block b3]
                      have := hk3 q x hx 0 _ rfl
                      simpa [Nat.add_assoc] using this
                    have e4_0 : wr.cell? ⟨g4, o4 + q * 5, none⟩ = some (.string (mkB x.name)) := by
                      rw [World.cell?_of_block b4]
                      have := hk4 q x hx 0 _ rfl
                      simpa [Nat.add_assoc] using this
                    have e3_1 : wr.cell? ⟨g3, o3 + q * 5 + 1, none⟩ = some (.string (mkB x.inp)) := by
                      rw [World.cell?_of_block b3]
                      have := hk3 q x hx 1 _ rfl
                      simpa [Nat.add_assoc] using this
                    have e4_1 : wr.cell? ⟨g4, o4 + q * 5 + 1, none⟩ = some (.string (mkB x.inp)) := by
                      rw [World.cell?_of_block b4]
                      have := hk4 q x hx 1 _ rfl
                      simpa [Nat.add_assoc] using this
                    have e3_2 : wr.cell? ⟨g3, o3 + q * 5 + 2, none⟩ = some (.string (mkB x.out)) := by
                      rw [World.cell?_of_block b3]
                      have := hk3 q x hx 2 _ rfl
                      simpa [Nat.add_assoc] using this
                    have e4_2 : wr.cell? ⟨g4, o4 + q * 5 + 2, none⟩ = some (.string (mkB x.out)) := by
                      rw [World.cell?_of_block b4]
                      have := hk4 q x hx 2 _ rfl
                      simpa [Nat.add_assoc] using this
                    have e3_3 : wr.cell? ⟨g3, o3 + q * 5 + 3, none⟩ = some (.int .i64 x.line) := by
                      rw [World.cell?_of_block b3]
                      have := hk3 q x hx 3 _ rfl
                      simpa [Nat.add_assoc] using this
                    have e4_3 : wr.cell? ⟨g4, o4 + q * 5 + 3, none⟩ = some (.int .i64 x.line) := by
                      rw [World.cell?_of_block b4]
                      have := hk4 q x hx 3 _ rfl
                      simpa [Nat.add_assoc] using this
                    have e3_4 : wr.cell? ⟨g3, o3 + q * 5 + 4, none⟩ = some (.int .i64 x.col) := by
                      rw [World.cell?_of_block b3]
                      have := hk3 q x hx 4 _ rfl
                      simpa [Nat.add_assoc] using this
                    have e4_4 : wr.cell? ⟨g4, o4 + q * 5 + 4, none⟩ = some (.int .i64 x.col) := by
                      rw [World.cell?_of_block b4]
                      have := hk4 q x hx 4 _ rfl
                      simpa [Nat.add_assoc] using this
                    have hq0 : (0 : Int) ≤ (q : Int) := by omega
                    have hq1 : (q : Int) < (d.methods.length : Int) := by omega
                    have hwq : IntKind.i64.wrap ((q : Int) + 1) = (q : Int) + 1 := by rw [IntKind.wrap_i64]; have := hfd2; omega
                    clear hx hk3 hk4 b3 b4
                    go_wp2_with fail
                    go_quiet (fail)
                    go_wp2_with fail
                    go_roundw
                    case rel => exact ⟨q + 1, by go_num, by omega, HBQ.out.trans ⟨rfl, rfl, rfl, Nat.le_refl _, fun _ _ => rfl⟩⟩
                    case measure => simp [intOf]; omega
                  · obtain rfl : q = d.methods.length := by omega
                    have hqq : ¬ ((d.methods.length : Int) < (d.methods.length : Int)) := by omega
                    generalize wr = Y3 at *
                    have HS3 : Hid (w.heap.size ≤ Y3.heap.size ∧ D1 < Y3.heap.size ∧ D2 < Y3.heap.size) := by
                      refine (?_ : _ ∧ _)
                      have := HBQ.out.size
                      omega
                    have HA3 : Hid (Y3.heap[D1]? = some (.cells (drow d (.slice fa1 d.fields.length fc1) (.slice va1 d.values.length vc1) (.slice ma1 d.methods.length mc1) (.slice ia1 d.inner.length ic1)).toArray 56 (0, 0))) := by refine (?_ : _ = _); rw [HBQ.out.block D1 (by omega)]; exact HA2.out
                    have HB3 : Hid (Y3.heap[D2]? = some (.cells (drow d (.slice fa2 d.fields.length fc2) (.slice va2 d.values.length vc2) (.slice ma2 d.methods.length mc2) (.slice ia2 d.inner.length ic2)).toArray 56 (0, 0))) := by refine (?_ : _ = _); rw [HBQ.out.block D2 (by omega)]; exact HB2.out
                    have HO3 := HOw
                    have HT3 : Hid (Below w.heap.size w Y3) := HT2.out.trans (HBQ.out.mono (by omega))
                    clear HBQ HOw
                    go_wp2_with fail
                    go_roundw
                    case rel => exact ⟨j + 1, by go_num, by omega, HT3.out⟩
                    case measure => simp [intOf]; omega
    · obtain rfl : j = n := by omega
      have hnn : ¬ ((j : Int) < (j : Int)) := by omega
      go_wp2_with fail
      go_ret
      exact ⟨rfl, HB.out⟩
end Go.Proofs.YtngmimbpakmkiaaGreatDoor
