/-
  The walk over the document's Same, of two nodes that lie in memory as one tree.
-/
import Derived.Test.YteajlfgbmefncaaGreatDoorM7
import Derived.Test.YteajlfgbmefncaaGreatDoorM13
import Derived.BigQuiet
import Derived.Deep.QuietTactic
import Derived.Deep.Cut
import Derived.Deep.DeepCutAuto
import Derived.Deep.RegionHeldLaw
namespace Go.Proofs.YteajlfgbmefncaaGreatDoor
set_option linter.unusedVariables false
open Go.ChangeShapes Go.WideShapes Go.ChangeAt Go.RowKit

theorem twoN_first (w : World) (o o' : Obj) : ((w.alloc o).alloc o').drew.heap[w.heap.size]? = some o := by
  show ((w.heap.push o).push o')[w.heap.size]? = some o
  simp [Array.getElem?_push]
theorem twoN_second (w : World) (o o' : Obj) : ((w.alloc o).alloc o').drew.heap[w.heap.size + 1]? = some o' := by
  show ((w.heap.push o).push o')[w.heap.size + 1]? = some o'
  rw [Array.getElem?_push]
  simp
/-- how a clean node's fields lie there -/
def ClF (w : World) (S : Nat → Prop) (f : Nat) (v : Value) (ln : Nat) (x : Nd) : Prop := (x.kind = 7 → HeldG clS w S f v x.fields ∧ x.fields.length = ln) ∧ (x.kind ≠ 7 → ln = 0)
theorem ClF.mv {w w' : World} {S S' : Nat → Prop} (hb : ∀ b, S b → w'.heap[b]? = w.heap[b]?) (hS : ∀ b, S b → S' b) {f : Nat} {v : Value} {ln : Nat} {x : Nd} (h : ClF w S f v ln x) : ClF w' S' f v ln x := ⟨fun h7 => ⟨HeldG.mv hb hS (h.1 h7).1, (h.1 h7).2⟩, h.2⟩
set_option maxHeartbeats 32000000 in
set_option maxRecDepth 20000 in
theorem sameN_any : ∀ (f : Nat) (x z : Nd) (la1 la2 : Option Addr) (ln lc1 lc2 : Nat) (w : World), z = cn x → FitG 100000 10000 f x → ClF w (fun b => b < w.heap.size) f (.slice la1 ln lc1) ln x → ClF w (fun b => b < w.heap.size) f (.slice la2 ln lc2) ln x →
    Calls Tryz.prog 9 #[.agg #[.int .i64 z.kind, .int .i64 z.n, .int .u64 z.u, .bool z.b, .string (mkB z.s), .int .i64 z.type, .slice la1 ln lc1], .agg #[.int .i64 z.kind, .int .i64 z.n, .int .u64 z.u, .bool z.b, .string (mkB z.s), .int .i64 z.type, .slice la2 ln lc2]] w fun e w' => e = .returned (.bool true) ∧ Below w.heap.size w w' := by
  intro f
  induction f using Nat.strongRecOn with
  | _ f ih =>
  intro x z la1 la2 ln lc1 lc2 w hz hfit h1 h2
  obtain ⟨zk, zn, zu, zb, zs, zt, zf⟩ := z
  dsimp only
  obtain ⟨Y, hY, hC, hb, hYs⟩ := box_new w #[.int .i64 zk, .int .i64 zn, .int .u64 zu, .bool zb, .string (mkB zs), .int .i64 zt, .slice la1 ln lc1] 38
  obtain ⟨V, hV, hD, hVb, hVs⟩ := box_new Y #[.int .i64 zk, .int .i64 zn, .int .u64 zu, .bool zb, .string (mkB zs), .int .i64 zt, .slice la2 ln lc2] 38
  rw [hYs] at hD
  have HY := Lib.hid hY
  have HV := Lib.hid hV
  have hBV := hb.trans (hVb.mono hb.size)
  have HBV := Lib.hid hBV
  have hCV := (hVb.block _ (by omega)).trans hC
  have HCV := Lib.hid hCV
  have HDV := Lib.hid hD
  have hVl : w.heap.size + 2 ≤ V.heap.size := by omega
  have HIH := Lib.hid ih
  have HFIT := Lib.hid hfit
  have H1 := Lib.hid h1
  have H2 := Lib.hid h2
  have a0 : V.cell? ⟨w.heap.size, 0, none⟩ = some (.int .i64 zk) := cell_at hCV 0 rfl
  have a1 : V.cell? ⟨w.heap.size, 1, none⟩ = some (.int .i64 zn) := cell_at hCV 1 rfl
  have a2 : V.cell? ⟨w.heap.size, 2, none⟩ = some (.int .u64 zu) := cell_at hCV 2 rfl
  have a3 : V.cell? ⟨w.heap.size, 3, none⟩ = some (.bool zb) := cell_at hCV 3 rfl
  have a4 : V.cell? ⟨w.heap.size, 4, none⟩ = some (.string (mkB zs)) := cell_at hCV 4 rfl
  have a5 : V.cell? ⟨w.heap.size, 5, none⟩ = some (.int .i64 zt) := cell_at hCV 5 rfl
  have a6 : V.cell? ⟨w.heap.size, 6, none⟩ = some (.slice la1 ln lc1) := cell_at hCV 6 rfl
  have b0 : V.cell? ⟨w.heap.size + 1, 0, none⟩ = some (.int .i64 zk) := cell_at hD 0 rfl
  have b1 : V.cell? ⟨w.heap.size + 1, 1, none⟩ = some (.int .i64 zn) := cell_at hD 1 rfl
  have b2 : V.cell? ⟨w.heap.size + 1, 2, none⟩ = some (.int .u64 zu) := cell_at hD 2 rfl
  have b3 : V.cell? ⟨w.heap.size + 1, 3, none⟩ = some (.bool zb) := cell_at hD 3 rfl
  have b4 : V.cell? ⟨w.heap.size + 1, 4, none⟩ = some (.string (mkB zs)) := cell_at hD 4 rfl
  have b5 : V.cell? ⟨w.heap.size + 1, 5, none⟩ = some (.int .i64 zt) := cell_at hD 5 rfl
  have b6 : V.cell? ⟨w.heap.size + 1, 6, none⟩ = some (.slice la2 ln lc2) := cell_at hD 6 rfl
  clear hC hY hb hYs hV hD hVb hVs hCV hBV ih hfit h1 h2 hz
  go_enter Tryz.func9, Tryz.ntmps9
  go_upto_region 1 with fail
  rw [HY.out, HV.out]
  go_wp2_with fail
  clear a0 a1 a2 a3 a4 a5 a6 b0 b1 b2 b3 b4 b5 b6
  go_loopw [61] (fun i wr => ∃ (k : Nat), i = .int .i64 (k : Int) ∧ k ≤ ln ∧ Below V.heap.size V wr) (fun i _ => ln - (intOf i).toNat)
  case atStart => exact ⟨0, rfl, Nat.zero_le _, Below.refl _ _⟩
  case round =>
    generalize wr = w1 at *
    obtain ⟨k, rfl, hkl, hbel⟩ := hrel
    have HBE := Lib.hid hbel
    have hBw := HBV.out.trans (hbel.mono HBV.out.size)
    have HBW := Lib.hid hBw
    have hws := hbel.size
    by_cases hkn : k < ln
    · have hk7 : x.kind = 7 := by
        apply Classical.byContradiction
        intro h
        have := H1.out.2 h
        omega
      obtain ⟨hG1, hl1⟩ := H1.out.1 hk7
      obtain ⟨hG2, _⟩ := H2.out.1 hk7
      obtain ⟨y, hy⟩ : ∃ y, x.fields[k]? = some y := ⟨_, List.getElem?_eq_getElem (by omega)⟩
      obtain ⟨f', g1, o1, d1, va1, vc1, hf', hsl1, hg1, e1_0, e1_1, hv1⟩ := HeldG.at hG1 (W := w1) (fun b hb => hBw.block b hb) hy
      obtain ⟨f2, g2, o2, d2, va2, vc2, hf2, hsl2, hg2, e2_0, e2_1, hv2⟩ := HeldG.at hG2 (W := w1) (fun b hb => hBw.block b hb) hy
      subst hf'
      have hff : f2 = f' := by omega
      subst hff
      rw [hl1] at hsl1 hsl2
      obtain ⟨hs1, hs2⟩ := slice_two hsl1
      obtain ⟨hs3, hs4⟩ := slice_two hsl2
      obtain ⟨hfl1, hfl2⟩ := HFIT.out.2.2 y (List.mem_of_getElem? hy)
      have hln : ln ≤ 10000 := by have h1 := HFIT.out.2.1; omega
      obtain ⟨ynum, ys⟩ := y
      dsimp only at e1_0 e1_1 e2_0 e2_1 hv1 hv2 hfl1 hfl2
      obtain ⟨mv, hmv⟩ : ∃ n, ys.length = n := ⟨_, rfl⟩
      have HMV := Lib.hid hmv
      rw [hmv] at e1_1 e2_1 hv1 hv2 hfl1
      have HFL2 := Lib.hid hfl2
      have HVA1 := Lib.hid hv1
      have HVA2 := Lib.hid hv2
      have hg1N : g1 < w.heap.size := hg1
      have hg2N : g2 < w.heap.size := hg2
      have hc1 := (hbel.block _ (by omega)).trans HCV.out
      have hc2 := (hbel.block _ (by omega)).trans HDV.out
      rw [hs1] at hc1
      rw [hs3] at hc2
      have q0 : ∀ W, Below w1.heap.size w1 W → W.cell? ⟨w.heap.size, 6, none⟩ = some (.slice (some ⟨g1, o1, none⟩) ln lc1) := fun W hW => (hW.cell (by simp; omega)).trans (cell_at hc1 6 rfl)
      have q1 : ∀ W, Below w1.heap.size w1 W → W.cell? ⟨w.heap.size + 1, 6, none⟩ = some (.slice (some ⟨g2, o2, none⟩) ln lc2) := fun W hW => (hW.cell (by simp; omega)).trans (cell_at hc2 6 rfl)
      have k1_0 : ∀ W, Below w1.heap.size w1 W → W.cell? ⟨g1, o1 + k * 2, none⟩ = some (.int .i64 ynum) := fun W hW => (hW.cell (by simp; omega)).trans e1_0
      have k1_1 : ∀ W, Below w1.heap.size w1 W → W.cell? ⟨g1, o1 + k * 2 + 1, none⟩ = some (.slice va1 mv vc1) := fun W hW => (hW.cell (by simp; omega)).trans e1_1
      have k2_0 : ∀ W, Below w1.heap.size w1 W → W.cell? ⟨g2, o2 + k * 2, none⟩ = some (.int .i64 ynum) := fun W hW => (hW.cell (by simp; omega)).trans e2_0
      have k2_1 : ∀ W, Below w1.heap.size w1 W → W.cell? ⟨g2, o2 + k * 2 + 1, none⟩ = some (.slice va2 mv vc2) := fun W hW => (hW.cell (by simp; omega)).trans e2_1
      have hk0 : (0 : Int) ≤ (k : Int) := by omega
      have hk1 : (k : Int) < (ln : Int) := by omega
      have hwq : IntKind.i64.wrap ((k : Int) + 1) = (k : Int) + 1 := by rw [IntKind.wrap_i64]; omega
      have hbr : Below w1.heap.size w1 w1.drew := (Below.refl _ _).drew
      have hbb : ∀ o o', Below w1.heap.size w1 ((w1.alloc o).alloc o').drew := fun o o' => (((Below.refl _ w1).alloc (Nat.le_refl _) o).alloc (by simp) o').drew
      have hba : ∀ o, Below w1.heap.size w1 (w1.alloc o).drew := fun o => ((Below.refl _ w1).alloc (Nat.le_refl _) o).drew
      clear hsl1 hsl2 hs1 hs2 hs3 hs4 hy hg1 hg2 hv1 hv2 hmv hfl2 hc1 hc2 e1_0 e1_1 e2_0 e2_1 hG1 hG2 hl1 hk7 hbel hBw
      go_upto_region 6 with fail
      go_cut [6, 7] (fun s6 s7 wx => ∃ D1 D2 : Nat, s6 = .pointer (some ⟨D1, 0, none⟩) ∧ s7 = .pointer (some ⟨D2, 0, none⟩) ∧ wx.heap[D1]? = some (.cells #[.int .i64 ynum, .slice va1 mv vc1] 57 (0, 0)) ∧ wx.heap[D2]? = some (.cells #[.int .i64 ynum, .slice va2 mv vc2] 57 (0, 0)) ∧ Below w1.heap.size w1 wx)
      case first =>
        clear HIH
        go_region_held_law (fun W => Below w1.heap.size w1 W) (first | with_reducible exact hbr | with_reducible exact hba _ | with_reducible exact hbb _ _) (fail)
        all_goals go_wp2_with fail
        all_goals go_meet
        · exact ⟨w1.heap.size, w1.heap.size + 1, rfl, rfl, twoN_first _ _ _, twoN_second _ _ _, hbb _ _⟩
        · exact ⟨w1.heap.size + 1, w1.heap.size, rfl, rfl, twoN_second _ _ _, twoN_first _ _ _, hbb _ _⟩
      case rest =>
      obtain ⟨D1, D2, rfl, rfl, hD1, hD2, hbX⟩ := hcut
      generalize wc = X at *
      have HD1 := Lib.hid hD1
      have HD2 := Lib.hid hD2
      have hd1 := (Array.getElem?_eq_some_iff.1 hD1).1
      have hd2 := (Array.getElem?_eq_some_iff.1 hD2).1
      have HVX := Lib.hid (HBE.out.trans (hbX.mono hws))
      have HBX := Lib.hid (HBW.out.trans (hbX.mono HBW.out.size))
      have x1_0 : X.cell? ⟨D1, 0, none⟩ = some (.int .i64 ynum) := cell_at hD1 0 rfl
      have x1_1 : X.cell? ⟨D1, 1, none⟩ = some (.slice va1 mv vc1) := cell_at hD1 1 rfl
      have x2_0 : X.cell? ⟨D2, 0, none⟩ = some (.int .i64 ynum) := cell_at hD2 0 rfl
      have x2_1 : X.cell? ⟨D2, 1, none⟩ = some (.slice va2 mv vc2) := cell_at hD2 1 rfl
      clear hD1 hD2 hbX hbr hba hbb q0 q1 k1_0 k1_1 k2_0 k2_1
      go_wp2_with fail
      clear x1_0 x1_1 x2_0 x2_1
      go_loopw [91] (fun i wr => ∃ (a : Nat), i = .int .i64 (a : Int) ∧ a ≤ mv ∧ Below X.heap.size X wr) (fun i _ => mv - (intOf i).toNat)
      case atStart => exact ⟨0, rfl, Nat.zero_le _, Below.refl _ _⟩
      case round =>
        generalize wr = w3 at *
        obtain ⟨a, rfl, hal, hbel⟩ := hrel
        have HB3 := Lib.hid hbel
        have hBw3 := HBX.out.trans (hbel.mono HBX.out.size)
        have HBW3 := Lib.hid hBw3
        have h3s := hbel.size
        by_cases han : a < mv
        · obtain ⟨c, hc⟩ : ∃ c, ys[a]? = some c := ⟨_, List.getElem?_eq_getElem (by have := HMV.out; omega)⟩
          have HKC : ∀ (g o c2 : Nat) (va : Option Addr) (vc : Nat), True := fun _ _ _ _ _ => trivial
          obtain ⟨g3, o3, c3, fs3, hsl3, hg3, hcl3, hh3⟩ := ValsG.at HVA1.out hc
          obtain ⟨g4, o4, c4, fs4, hsl4, hg4, hcl4, hh4⟩ := ValsG.at HVA2.out hc
          rw [HMV.out] at hsl3 hsl4
          obtain ⟨rfl, rfl⟩ := slice_two hsl3
          obtain ⟨rfl, rfl⟩ := slice_two hsl4
          have hg3N : g3 < w.heap.size := hg3
          have hg4N : g4 < w.heap.size := hg4
          have hcl3' := hcl3.old (hBw3.block g3 hg3N)
          have hcl4' := hcl4.old (hBw3.block g4 hg4N)
          have hfitc := HFL2.out c (List.mem_of_getElem? hc)
          obtain ⟨m, sa3, sa4, sc3, sc4, hL3, hL4, HC3, HC4⟩ : ∃ (m : Nat) (sa3 sa4 : Option Addr) (sc3 sc4 : Nat), (if c.kind = 7 then fs3 else .slice none 0 0) = .slice sa3 m sc3 ∧ (if c.kind = 7 then fs4 else .slice none 0 0) = .slice sa4 m sc4 ∧ ClF w (fun b => b < w.heap.size) f2 (.slice sa3 m sc3) m c ∧ ClF w (fun b => b < w.heap.size) f2 (.slice sa4 m sc4) m c := by
            by_cases h7 : c.kind = 7
            · rw [if_pos h7, if_pos h7]
              have q3 := hh3 (by simpa [clS] using h7)
              have q4 := hh4 (by simpa [clS] using h7)
              obtain ⟨u3, v3, e3⟩ := HeldG.isSl q3
              obtain ⟨u4, v4, e4⟩ := HeldG.isSl q4
              refine ⟨c.fields.length, u3, u4, v3, v4, e3, e4, ⟨fun _ => ⟨?_, rfl⟩, fun h => absurd h7 h⟩, ⟨fun _ => ⟨?_, rfl⟩, fun h => absurd h7 h⟩⟩
              · rw [← e3]; exact q3
              · rw [← e4]; exact q4
            · rw [if_neg h7, if_neg h7]
              exact ⟨0, none, none, 0, 0, rfl, rfl, ⟨fun h => absurd h h7, fun _ => rfl⟩, ⟨fun h => absurd h h7, fun _ => rfl⟩⟩
          obtain ⟨zc, hzc⟩ : ∃ z, z = cn c := ⟨_, rfl⟩
          have hr3 : clS.row c fs3 = nrow zc (.slice sa3 m sc3) := by
            show nrow (cn c) (if c.kind = 7 then fs3 else .slice none 0 0) = _
            rw [hL3, hzc]
          have hr4 : clS.row c fs4 = nrow zc (.slice sa4 m sc4) := by
            show nrow (cn c) (if c.kind = 7 then fs4 else .slice none 0 0) = _
            rw [hL4, hzc]
          rw [hr3] at hcl3'
          rw [hr4] at hcl4'
          have hcall : ∀ W, Below w3.heap.size w3 W → Calls Tryz.prog 9 #[.agg #[.int .i64 zc.kind, .int .i64 zc.n, .int .u64 zc.u, .bool zc.b, .string (mkB zc.s), .int .i64 zc.type, .slice sa3 m sc3], .agg #[.int .i64 zc.kind, .int .i64 zc.n, .int .u64 zc.u, .bool zc.b, .string (mkB zc.s), .int .i64 zc.type, .slice sa4 m sc4]] W fun e w' => e = .returned (.bool true) ∧ Below w3.heap.size w3 w' := fun W hW => by
            have hw := hBw3.trans (hW.mono hBw3.size)
            exact (HIH.out f2 (by omega) c zc sa3 sa4 m sc3 sc4 W hzc hfitc (HC3.mv (fun b hb => hw.block b hb) (fun b hb => by have hb' : b < w.heap.size := hb; have := hw.size; omega)) (HC4.mv (fun b hb => hw.block b hb) (fun b hb => by have hb' : b < w.heap.size := hb; have := hw.size; omega))).mono fun e w' ⟨h1, h2⟩ => ⟨h1, hW.trans (h2.mono hW.size)⟩
          obtain ⟨ck, cnn, cu, cb, cs, ct, cf⟩ := zc
          dsimp only at hcall
          have y0 : ∀ W, Below w3.heap.size w3 W → W.cell? ⟨g3, o3 + a * 7, none⟩ = some (.int .i64 ck) := fun W hW => (hW.cell (by simp; have := hBw3.size; omega)).trans (by have := hcl3' 0 _ rfl; simpa [clS] using this)
          have y1 : ∀ W, Below w3.heap.size w3 W → W.cell? ⟨g3, o3 + a * 7 + 1, none⟩ = some (.int .i64 cnn) := fun W hW => (hW.cell (by simp; have := hBw3.size; omega)).trans (by have := hcl3' 1 _ rfl; simpa [clS] using this)
          have y2 : ∀ W, Below w3.heap.size w3 W → W.cell? ⟨g3, o3 + a * 7 + 2, none⟩ = some (.int .u64 cu) := fun W hW => (hW.cell (by simp; have := hBw3.size; omega)).trans (by have := hcl3' 2 _ rfl; simpa [clS] using this)
          have y3 : ∀ W, Below w3.heap.size w3 W → W.cell? ⟨g3, o3 + a * 7 + 3, none⟩ = some (.bool cb) := fun W hW => (hW.cell (by simp; have := hBw3.size; omega)).trans (by have := hcl3' 3 _ rfl; simpa [clS] using this)
          have y4 : ∀ W, Below w3.heap.size w3 W → W.cell? ⟨g3, o3 + a * 7 + 4, none⟩ = some (.string (mkB cs)) := fun W hW => (hW.cell (by simp; have := hBw3.size; omega)).trans (by have := hcl3' 4 _ rfl; simpa [clS] using this)
          have y5 : ∀ W, Below w3.heap.size w3 W → W.cell? ⟨g3, o3 + a * 7 + 5, none⟩ = some (.int .i64 ct) := fun W hW => (hW.cell (by simp; have := hBw3.size; omega)).trans (by have := hcl3' 5 _ rfl; simpa [clS] using this)
          have y6 : ∀ W, Below w3.heap.size w3 W → W.cell? ⟨g3, o3 + a * 7 + 6, none⟩ = some (.slice sa3 m sc3) := fun W hW => (hW.cell (by simp; have := hBw3.size; omega)).trans (by have := hcl3' 6 _ rfl; simpa [clS] using this)
          have x0 : ∀ W, Below w3.heap.size w3 W → W.cell? ⟨g4, o4 + a * 7, none⟩ = some (.int .i64 ck) := fun W hW => (hW.cell (by simp; have := hBw3.size; omega)).trans (by have := hcl4' 0 _ rfl; simpa [clS] using this)
          have x1 : ∀ W, Below w3.heap.size w3 W → W.cell? ⟨g4, o4 + a * 7 + 1, none⟩ = some (.int .i64 cnn) := fun W hW => (hW.cell (by simp; have := hBw3.size; omega)).trans (by have := hcl4' 1 _ rfl; simpa [clS] using this)
          have x2 : ∀ W, Below w3.heap.size w3 W → W.cell? ⟨g4, o4 + a * 7 + 2, none⟩ = some (.int .u64 cu) := fun W hW => (hW.cell (by simp; have := hBw3.size; omega)).trans (by have := hcl4' 2 _ rfl; simpa [clS] using this)
          have x3 : ∀ W, Below w3.heap.size w3 W → W.cell? ⟨g4, o4 + a * 7 + 3, none⟩ = some (.bool cb) := fun W hW => (hW.cell (by simp; have := hBw3.size; omega)).trans (by have := hcl4' 3 _ rfl; simpa [clS] using this)
          have x4 : ∀ W, Below w3.heap.size w3 W → W.cell? ⟨g4, o4 + a * 7 + 4, none⟩ = some (.string (mkB cs)) := fun W hW => (hW.cell (by simp; have := hBw3.size; omega)).trans (by have := hcl4' 4 _ rfl; simpa [clS] using this)
          have x5 : ∀ W, Below w3.heap.size w3 W → W.cell? ⟨g4, o4 + a * 7 + 5, none⟩ = some (.int .i64 ct) := fun W hW => (hW.cell (by simp; have := hBw3.size; omega)).trans (by have := hcl4' 5 _ rfl; simpa [clS] using this)
          have x6 : ∀ W, Below w3.heap.size w3 W → W.cell? ⟨g4, o4 + a * 7 + 6, none⟩ = some (.slice sa4 m sc4) := fun W hW => (hW.cell (by simp; have := hBw3.size; omega)).trans (by have := hcl4' 6 _ rfl; simpa [clS] using this)
          have hD1 := (hbel.block _ hd1).trans HD1.out
          have hD2 := (hbel.block _ hd2).trans HD2.out
          have p1 : ∀ W, Below w3.heap.size w3 W → W.cell? ⟨D1, 1, none⟩ = some (.slice (some ⟨g3, o3, none⟩) mv vc1) := fun W hW => (hW.cell (by simp; omega)).trans (cell_at hD1 1 rfl)
          have p2 : ∀ W, Below w3.heap.size w3 W → W.cell? ⟨D2, 1, none⟩ = some (.slice (some ⟨g4, o4, none⟩) mv vc2) := fun W hW => (hW.cell (by simp; omega)).trans (cell_at hD2 1 rfl)
          have ha0 : (0 : Int) ≤ (a : Int) := by omega
          have ha1 : (a : Int) < (mv : Int) := by omega
          have hwa : IntKind.i64.wrap ((a : Int) + 1) = (a : Int) + 1 := by rw [IntKind.wrap_i64]; omega
          have hS0 : Below w3.heap.size w3 w3.drew := (Below.refl _ _).drew
          clear hsl3 hsl4 hg3 hg4 hc hcl3 hcl4 hcl3' hcl4' hh3 hh4 hfitc hL3 hL4 HC3 HC4 hzc hr3 hr4 hbel hBw3 hD1 hD2 HKC
          go_upto_region 12 with fail
          go_cut [105] (fun v wx => v = .bool false ∧ Below w3.heap.size w3 wx)
          case first =>
            clear HIH
            refine wp_region_held_drew (S := fun W => Below w3.heap.size w3 W) (by kernel_rfl) hS0 (fun _ => ?_)
            refine T_on 0 (.pointer (some ⟨D1, 1, none⟩)) rfl (by kernel_rfl) (fun _ _ _ h => h) hS0 (fun W hW => by go_simp) ?_
            refine T_on 1 (.slice (some ⟨g3, o3, none⟩) mv vc1) rfl (by kernel_rfl) (fun _ _ _ h => h) hS0 (fun W hW => by have c := p1 W hW; go_simp) ?_
            refine T_on 2 (.int .i64 (a : Int)) rfl (by kernel_rfl) (fun _ _ _ h => h) hS0 (fun W hW => by go_simp) ?_
            refine T_on 3 (.pointer (some ⟨g3, o3 + a * 7, none⟩)) rfl (by kernel_rfl) (fun _ _ _ h => h) hS0 (fun W hW => by go_simp) ?_
            refine T_on 4 (.agg #[.int .i64 ck, .int .i64 cnn, .int .u64 cu, .bool cb, .string (mkB cs), .int .i64 ct, .slice sa3 m sc3]) rfl (by kernel_rfl) (fun _ _ _ h => h) hS0 (fun W hW => by have c0 := y0 W hW; have c1 := y1 W hW; have c2 := y2 W hW; have c3 := y3 W hW; have c4 := y4 W hW; have c5 := y5 W hW; have c6 := y6 W hW; go_simp) ?_
            refine T_on 5 (.pointer (some ⟨D2, 1, none⟩)) rfl (by kernel_rfl) (fun _ _ _ h => h) hS0 (fun W hW => by go_simp) ?_
            refine T_on 6 (.slice (some ⟨g4, o4, none⟩) mv vc2) rfl (by kernel_rfl) (fun _ _ _ h => h) hS0 (fun W hW => by have c := p2 W hW; go_simp) ?_
            refine T_on 7 (.int .i64 (a : Int)) rfl (by kernel_rfl) (fun _ _ _ h => h) hS0 (fun W hW => by go_simp) ?_
            refine T_on 8 (.pointer (some ⟨g4, o4 + a * 7, none⟩)) rfl (by kernel_rfl) (fun _ _ _ h => h) hS0 (fun W hW => by go_simp) ?_
            refine T_on 9 (.agg #[.int .i64 ck, .int .i64 cnn, .int .u64 cu, .bool cb, .string (mkB cs), .int .i64 ct, .slice sa4 m sc4]) rfl (by kernel_rfl) (fun _ _ _ h => h) hS0 (fun W hW => by have c0 := x0 W hW; have c1 := x1 W hW; have c2 := x2 W hW; have c3 := x3 W hW; have c4 := x4 W hW; have c5 := x5 W hW; have c6 := x6 W hW; go_simp) ?_
            refine T_call 10 (by kernel_rfl) rfl (fun K hK => ?_)
            go_simp
            refine (hcall _ hS0).mono ?_
            rintro e W9 ⟨rfl, hW9⟩
            clear hS0
            have hS0 := hW9
            clear hW9
            dsimp only
            refine hK.out _ _ hS0 (fun _ => ?_)
            clear hK K
            refine T_on 11 (.bool false) rfl (by kernel_rfl) (fun _ _ _ h => h) hS0 (fun W hW => by go_simp) ?_
            refine wpAnyH_done (by kernel_rfl) ?_ _
            go_simp
            go_wp2_with fail
            go_meet
            exact ⟨rfl, hS0⟩
          case rest =>
          obtain ⟨rfl, hS1⟩ := hcut
          generalize wc = W5 at *
          have HXR := Lib.hid (HB3.out.trans (hS1.mono h3s))
          clear hS0 hS1 hcall p1 p2 y0 x0 y1 x1 y2 x2 y3 x3 y4 x4 y5 x5 y6 x6 HIH
          go_wp2_with fail
          go_roundw
          case rel => exact ⟨a + 1, by go_num, by omega, HXR.out⟩
          case measure => simp [intOf]; omega
        · have han' : ¬ (a : Int) < (mv : Int) := by omega
          have HVR := Lib.hid (HVX.out.trans (hbel.mono HVX.out.size))
          clear hbel hBw3 HIH
          go_wp2_with fail
          go_roundw
          case rel => exact ⟨k + 1, by go_num, by omega, HVR.out⟩
          case measure => simp [intOf]; omega
    · have hkn' : ¬ (k : Int) < (ln : Int) := by omega
      clear hbel hBw HIH
      go_wp2_with fail
      go_ret
      exact ⟨rfl, HBW.out⟩
end Go.Proofs.YteajlfgbmefncaaGreatDoor
