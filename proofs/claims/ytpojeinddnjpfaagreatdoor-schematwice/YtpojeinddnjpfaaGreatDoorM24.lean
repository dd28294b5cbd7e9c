/-
  The walk over the document's own small, of any declarations that a machine can hold, with how many things there are. Then: how long a text of formed declarations is.
  The walk over the laws' own awake: one enum is printed as the document says.
  The walk over the document's own text: what it writes of one declaration that is formed.
-/
import Derived.Test.YtpojeinddnjpfaaGreatDoorM0
import Derived.Test.YtpojeinddnjpfaaGreatDoorM23
import Derived.Test.YtpojeinddnjpfaaGreatDoorM21
import Derived.Test.YtpojeinddnjpfaaGreatDoorM16
import Derived.Test.YtpojeinddnjpfaaGreatDoorM18
import Derived.BigQuiet
import Derived.Deep.RegionWith
import Derived.Deep.RegionLaw
import Derived.Laws.AppendOwn
import Derived.OwnWalk
import Derived.Lib.ValidLaws
import Derived.Lib.TrimUEq
namespace Go.Proofs.YtpojeinddnjpfaaGreatDoor
set_option linter.unusedVariables false
open Go.ChangeShapes Go.WideShapes Go.ChangeAt Go.RowKit

def ctL : Nat → List Dc → Nat
 | 0, ds => 0
 | f + 1, ds => (ds.map fun d => 1 + d.fields.length + d.values.length + d.methods.length + ctL f d.inner).sum
def ctD (f : Nat) (d : Dc) : Nat := 1 + d.fields.length + d.values.length + d.methods.length + ctL f d.inner
theorem ctL_snoc (f : Nat) (ds : List Dc) (d : Dc) : ctL (f + 1) (ds ++ [d]) = ctL (f + 1) ds + ctD f d := by
 simp [ctL, ctD]
theorem ctL_cons (f : Nat) (ds : List Dc) (d : Dc) : ctL (f + 1) (d :: ds) = ctD f d + ctL (f + 1) ds := by
 simp [ctL, ctD]
set_option maxHeartbeats 16000000 in
set_option maxRecDepth 20000 in
theorem smallC_any : ∀ (f : Nat) (ds : List Dc) (v : Value) (dep left : Int) (w : World), FitW f ds → -100000000000000000 ≤ left → left ≤ 1000 → HeldD f w (fun b => b < w.heap.size) v ds →
  Calls Tryz.prog 22 #[v, .int .i64 dep, .int .i64 left] w fun e w' => (∃ r : Int, e = .returned (.int .i64 r) ∧ (0 ≤ r → r + (ctL f ds : Int) ≤ left ∧ FitD f ds ∧ TxtD f ds)) ∧ Below w.heap.size w w' := by
 intro f
 induction f with
 | zero =>
  rintro ds v dep left w _ hl0 hl1 ⟨rfl, ad, c, rfl⟩
  by_cases hdp : 20 < dep
  ·go_enter Tryz.func22, Tryz.ntmps22
   go_wp2_with fail
   go_ret
   exact ⟨⟨-1, rfl, fun h => absurd h (by decide)⟩, Below.refl _ _⟩
  ·go_enter Tryz.func22, Tryz.ntmps22
   go_wp2_with fail
   go_loopw [2, 16] (fun l i wr => l = .int .i64 left ∧ i = .int .i64 0 ∧ wr = w) (fun _ _ _ => 0)
   case atStart => exact ⟨rfl, rfl, rfl⟩
   case round =>
    obtain ⟨rfl, rfl, hwr⟩ := hrel
    subst hwr
    go_wp2_with fail
    go_ret
    exact ⟨⟨left, rfl, fun h => ⟨by simp [ctL], trivial, trivial⟩⟩, Below.refl _ _⟩
 | succ f ih =>
 rintro ds v dep left w ⟨hlen, hfit⟩ hl0 hl1 ⟨ad, c, rfl, hcap, hheld⟩
 have HL := Lib.hid (And.intro hl0 hl1)
 clear hl0 hl1
 have HFT := Lib.hid hfit
 have HHD := Lib.hid hheld
 obtain ⟨n, hn⟩ : ∃ n, ds.length = n := ⟨_, rfl⟩
 have HN := Lib.hid hn
 rw [hn] at hlen hcap ⊢
 clear hheld hn hfit
 by_cases hdp : 20 < dep
 ·go_enter Tryz.func22, Tryz.ntmps22
  go_wp2_with fail
  go_ret
  exact ⟨⟨-1, rfl, fun h => absurd h (by decide)⟩, Below.refl _ _⟩
 go_enter Tryz.func22, Tryz.ntmps22
 go_wp2_with fail
 go_loopw [2, 16] (fun l i wr => ∃ (j : Nat) (lf : Int), l = .int .i64 lf ∧ i = .int .i64 (j : Int) ∧ j ≤ n ∧ Below w.heap.size w wr ∧ lf + (j : Int) ≤ left ∧ lf + (ctL (f + 1) (ds.take j) : Int) ≤ left ∧ -100000000000000000 ≤ lf ∧ ∀ d ∈ ds.take j, d.fields.length ≤ 100000 ∧ d.values.length ≤ 100000 ∧ d.methods.length ≤ 100000 ∧ FitD f d.inner ∧ TxtO f d) (fun _ i _ => n - (intOf i).toNat)
 case atStart => exact ⟨0, left, rfl, rfl, by omega, Below.refl _ _, by simp, by simp [ctL], HL.out.1, by simp⟩
 case round =>
  generalize wr = w1 at *
  obtain ⟨j, lf, rfl, rfl, hj, hbel, hlj, hcn, hlo, hoks⟩ := hrel
  have HCN := Lib.hid hcn
  clear hcn
  have HLF := Lib.hid (And.intro hlj hlo)
  have HOK := Lib.hid hoks
  clear hlj hlo hoks
  by_cases hjn : j < n
  ·obtain ⟨d, hd⟩ : ∃ d, ds[j]? = some d := ⟨_, List.getElem?_eq_getElem (by have := HN.out; omega)⟩
   have hfd := HFT.out d (List.mem_of_getElem? hd)
   have HFB := Lib.hid hfd
   have hf1 : d.fields.length ≤ 140737488355328 := hfd.2.1
   have hf2 : d.values.length ≤ 140737488355328 := hfd.2.2.1
   have hf3 : d.methods.length ≤ 140737488355328 := hfd.2.2.2.1
   have HD := Lib.hid hd
   clear hfd HFT
   rcases HHD.out with h0 | ⟨g, o, rfl, hg, hk⟩
   ·rw [h0] at hd; simp at hd
   obtain ⟨fs, vs, ms, ins, hcell, hF, hV, hM, hI⟩ := hk j d hd
   obtain ⟨fa, fc, rfl, hfc, hFr⟩ := hF
   obtain ⟨va, vc, rfl, hvc, hVr⟩ := hV
   obtain ⟨ma, mc, rfl, hmc, hMr⟩ := hM
   obtain ⟨ia, il, ic, rfl⟩ : ∃ ia il ic, ins = .slice ia il ic := by
    cases f with
    | zero => obtain ⟨_, a, c, h⟩ := hI; exact ⟨a, 0, c, h⟩
    | succ f => obtain ⟨a, c, h, _⟩ := hI; exact ⟨a, _, c, h⟩
   have HFr := Lib.hid hFr
   have HVr := Lib.hid hVr
   have HMr := Lib.hid hMr
   have HI := Lib.hid hI
   have HB := Lib.hid hbel
   have hcl : ∀ i u, (drow d (.slice fa d.fields.length fc) (.slice va d.values.length vc) (.slice ma d.methods.length mc) (.slice ia il ic))[i]? = some u → w1.cell? ⟨g, o + (j * 8 + i), none⟩ = some u := fun i u hu => by
    rw [hbel.cell (show g < w.heap.size from hg)]; exact hcell i u hu
   have k0 : w1.cell? ⟨g, o + j * 8, none⟩ = some (.int .i64 d.kind) := by have := hcl 0 _ rfl; simpa using this
   have k1 : w1.cell? ⟨g, o + j * 8 + 1, none⟩ = some (.string (mkB d.name)) := by have := hcl 1 _ rfl; simpa [Nat.add_assoc] using this
   have k2 : w1.cell? ⟨g, o + j * 8 + 2, none⟩ = some (.int .i64 d.line) := by have := hcl 2 _ rfl; simpa [Nat.add_assoc] using this
   have k3 : w1.cell? ⟨g, o + j * 8 + 3, none⟩ = some (.int .i64 d.col) := by have := hcl 3 _ rfl; simpa [Nat.add_assoc] using this
   have k4 : w1.cell? ⟨g, o + j * 8 + 4, none⟩ = some (.slice fa d.fields.length fc) := by have := hcl 4 _ rfl; simpa [Nat.add_assoc] using this
   have k5 : w1.cell? ⟨g, o + j * 8 + 5, none⟩ = some (.slice va d.values.length vc) := by have := hcl 5 _ rfl; simpa [Nat.add_assoc] using this
   have k6 : w1.cell? ⟨g, o + j * 8 + 6, none⟩ = some (.slice ma d.methods.length mc) := by have := hcl 6 _ rfl; simpa [Nat.add_assoc] using this
   have k7 : w1.cell? ⟨g, o + j * 8 + 7, none⟩ = some (.slice ia il ic) := by have := hcl 7 _ rfl; simpa [Nat.add_assoc] using this
   have hj0 : (0 : Int) ≤ (j : Int) := by omega
   have hj1 : (j : Int) < (n : Int) := by omega
   have hww := hbel.size
   clear hcell hFr hVr hMr hI hd hk hcl hbel
   go_upto_region 8 with fail
   have hX := alloc_heap_new w1 (.cells #[.int .i64 d.kind, .string (mkB d.name), .int .i64 d.line, .int .i64 d.col, .slice fa d.fields.length fc, .slice va d.values.length vc, .slice ma d.methods.length mc, .slice ia il ic] 54)
   have hBX := HB.out.alloc HB.out.size (.cells #[.int .i64 d.kind, .string (mkB d.name), .int .i64 d.line, .int .i64 d.col, .slice fa d.fields.length fc, .slice va d.values.length vc, .slice ma d.methods.length mc, .slice ia il ic] 54)
   have hDX : w1.heap.size < (w1.alloc (.cells #[.int .i64 d.kind, .string (mkB d.name), .int .i64 d.line, .int .i64 d.col, .slice fa d.fields.length fc, .slice va d.values.length vc, .slice ma d.methods.length mc, .slice ia il ic] 54)).heap.size := by simp
   generalize hE : wrap64 (wrap64 (wrap64 (wrap64 (wrap64 (lf - 1) - (d.fields.length : Int)) - (d.values.length : Int)) - (d.methods.length : Int)) - wrap64 (((mkB d.name).size : Int) / 100)) = L1 at *
   generalize w1.alloc (.cells #[.int .i64 d.kind, .string (mkB d.name), .int .i64 d.line, .int .i64 d.col, .slice fa d.fields.length fc, .slice va d.values.length vc, .slice ma d.methods.length mc, .slice ia il ic] 54) = X at *
   generalize w1.heap.size = D at *
   have x4 := cell_at hX 4 rfl
   have x5 := cell_at hX 5 rfl
   have x6 := cell_at hX 6 rfl
   have x7 := cell_at hX 7 rfl
   have X5 := Lib.hid x5
   have X6 := Lib.hid x6
   have X7 := Lib.hid x7
   have X4 := Lib.hid x4
   have HBX := Lib.hid hBX
   clear k0 k1 k2 k3 k4 k5 k6 k7 hX hBX x5 x6 x7 HB HHD
   have HL1 : Hid (L1 = lf - 1 - (d.fields.length : Int) - (d.values.length : Int) - (d.methods.length : Int) - ((mkB d.name).size : Int) / 100) := by
    refine (?_ : _ = _)
    have h1 := HLF.out
    have h2 := HL.out
    have h3 := HFB.out.1
    rw [← mkB_size] at h3
    rw [← hE]
    unfold wrap64
    omega
   clear hE
   by_cases hL : L1 < 0
   ·go_wp2_with fail
    go_ret
    exact ⟨⟨-1, rfl, fun h => absurd h (by decide)⟩, HBX.out⟩
   go_wp2_with fail
   go_loopw [2, 47] (fun l kk wq => ∃ (q : Nat) (lf : Int), l = .int .i64 lf ∧ kk = .int .i64 (q : Int) ∧ q ≤ d.fields.length ∧ Below X.heap.size X wq ∧ lf ≤ L1 ∧ L1 - 5000000000000 * (q : Int) ≤ lf ∧ ∀ x ∈ d.fields.take q, ((x.type.length : Int) / 100 + (x.name.length : Int) / 100 ≤ L1 - lf)) (fun _ kk _ => d.fields.length - (intOf kk).toNat)
   case atStart => exact ⟨0, _, rfl, rfl, by omega, Below.refl _ _, Int.le_refl _, by omega, by simp⟩
   case round =>
    obtain ⟨q, lY1, rfl, rfl, hq, hbq, hu1, hu2, hux⟩ := hrel
    have HUX1 := Lib.hid hux
    clear hux
    have HUY1 := Lib.hid (And.intro hu1 hu2)
    clear hu1 hu2
    by_cases hqn : q < d.fields.length
    ·obtain ⟨x, hx⟩ : ∃ x, d.fields[q]? = some x := ⟨_, List.getElem?_eq_getElem hqn⟩
     rcases HFr.out with h0 | ⟨g2, o2, rfl, hg2, hk2⟩
     ·rw [h0] at hx; simp at hx
     have HXS := Lib.hid (HFB.out.2.2.2.2.1 x (List.mem_of_getElem? hx))
     have hBw := HBX.out.trans (hbq.mono HBX.out.size)
     have cD : wr.cell? ⟨D, 4, none⟩ = some (.slice (some ⟨g2, o2, none⟩) d.fields.length fc) := by rw [hbq.cell hDX]; exact X4.out
     have e1 : wr.cell? ⟨g2, o2 + q * 6 + 1, none⟩ = some (.string (mkB x.type)) := by
      rw [hBw.cell (show g2 < w.heap.size from hg2)]
      have := hk2 q x hx 1 _ rfl
      simpa [Nat.add_assoc] using this
     have e2 : wr.cell? ⟨g2, o2 + q * 6 + 2, none⟩ = some (.string (mkB x.name)) := by
      rw [hBw.cell (show g2 < w.heap.size from hg2)]
      have := hk2 q x hx 2 _ rfl
      simpa [Nat.add_assoc] using this
     have hq0 : (0 : Int) ≤ (q : Int) := by omega
     have hq1 : (q : Int) < (d.fields.length : Int) := by omega
     have HDX := Lib.hid hx
     clear hx hk2 hBw
     go_wp2_with fail
     go_quiet (fail)
     go_wp2_with fail
     go_roundw
     case rel =>
      have u0 := HUY1.out
      have m0 := mkB_size x.type
      have m1 := mkB_size x.name
      have h1 := HLF.out
      have h2 := HL.out
      have h4 := HL1.out
      have h5 := HXS.out
      refine ⟨q + 1, _, rfl, by go_num, by omega, hbq.trans ⟨rfl, rfl, rfl, Nat.le_refl _, fun _ _ => rfl⟩, by unfold wrap64; omega, by unfold wrap64; omega, fun y hy => ?_⟩
      rw [List.take_add_one, HDX.out] at hy
      rcases List.mem_append.1 hy with hy | hy
      ·have := HUX1.out y hy
       unfold wrap64
       omega
      ·have : y = x := by simpa using hy
       subst this
       unfold wrap64
       omega
     case measure => simp [intOf]; omega
    ·have HUX1 : Hid (∀ x ∈ d.fields, _) := fun x hx => HUX1.out x (by rw [List.take_of_length_le (by omega)]; exact hx)
     generalize wr = Y1 at *
     have hqe : ¬ (q : Int) < (d.fields.length : Int) := by omega
     have hcq : Y1.cell? ⟨D, 4, none⟩ = some (.slice fa d.fields.length fc) := by rw [hbq.cell hDX]; exact X4.out
     have X5 : Hid (Y1.cell? ⟨D, 5, none⟩ = some (.slice va d.values.length vc)) := by refine (?_ : _ = _); rw [hbq.cell hDX]; exact X5.out
     have X6 : Hid (Y1.cell? ⟨D, 6, none⟩ = some (.slice ma d.methods.length mc)) := by refine (?_ : _ = _); rw [hbq.cell hDX]; exact X6.out
     have X7 : Hid (Y1.cell? ⟨D, 7, none⟩ = some (.slice ia il ic)) := by refine (?_ : _ = _); rw [hbq.cell hDX]; exact X7.out
     have x5 := X5.out
     have HBX : Hid (Below w.heap.size w Y1) := HBX.out.trans (hbq.mono HBX.out.size)
     have hDX : D < Y1.heap.size := by have := hbq.size; omega
     clear hbq hcq
     go_wp2_with fail
     go_loopw [2, 73] (fun l kk wq => ∃ (q : Nat) (lf : Int), l = .int .i64 lf ∧ kk = .int .i64 (q : Int) ∧ q ≤ d.values.length ∧ Below Y1.heap.size Y1 wq ∧ lf ≤ lY1 ∧ lY1 - 5000000000000 * (q : Int) ≤ lf ∧ ∀ x ∈ d.values.take q, ((x.name.length : Int) / 100 ≤ lY1 - lf)) (fun _ kk _ => d.values.length - (intOf kk).toNat)
     case atStart => exact ⟨0, _, rfl, rfl, by omega, Below.refl _ _, Int.le_refl _, by omega, by simp⟩
     case round =>
      obtain ⟨q, lY2, rfl, rfl, hq, hbq, hu1, hu2, hux⟩ := hrel
      have HUX2 := Lib.hid hux
      clear hux
      have HUY2 := Lib.hid (And.intro hu1 hu2)
      clear hu1 hu2
      by_cases hqn : q < d.values.length
      ·obtain ⟨x, hx⟩ : ∃ x, d.values[q]? = some x := ⟨_, List.getElem?_eq_getElem hqn⟩
       rcases HVr.out with h0 | ⟨g2, o2, rfl, hg2, hk2⟩
       ·rw [h0] at hx; simp at hx
       have HXS := Lib.hid (HFB.out.2.2.2.2.2.1 x (List.mem_of_getElem? hx))
       have hBw := HBX.out.trans (hbq.mono HBX.out.size)
       have cD : wr.cell? ⟨D, 5, none⟩ = some (.slice (some ⟨g2, o2, none⟩) d.values.length vc) := by rw [hbq.cell hDX]; exact X5.out
       have e0 : wr.cell? ⟨g2, o2 + q * 4, none⟩ = some (.string (mkB x.name)) := by
        rw [hBw.cell (show g2 < w.heap.size from hg2)]
        have := hk2 q x hx 0 _ rfl
        simpa [Nat.add_assoc] using this
       have hq0 : (0 : Int) ≤ (q : Int) := by omega
       have hq1 : (q : Int) < (d.values.length : Int) := by omega
       have HDX := Lib.hid hx
       clear hx hk2 hBw
       go_wp2_with fail
       go_roundw
       case rel =>
        have u0 := HUY1.out
        have u1 := HUY2.out
        have m0 := mkB_size x.name
        have h1 := HLF.out
        have h2 := HL.out
        have h4 := HL1.out
        have h5 := HXS.out
        refine ⟨q + 1, _, rfl, by go_num, by omega, hbq.trans ⟨rfl, rfl, rfl, Nat.le_refl _, fun _ _ => rfl⟩, by unfold wrap64; omega, by unfold wrap64; omega, fun y hy => ?_⟩
        rw [List.take_add_one, HDX.out] at hy
        rcases List.mem_append.1 hy with hy | hy
        ·have := HUX2.out y hy
         unfold wrap64
         omega
        ·have : y = x := by simpa using hy
         subst this
         unfold wrap64
         omega
       case measure => simp [intOf]; omega
      ·have HUX2 : Hid (∀ x ∈ d.values, _) := fun x hx => HUX2.out x (by rw [List.take_of_length_le (by omega)]; exact hx)
       generalize wr = Y2 at *
       have hqe : ¬ (q : Int) < (d.values.length : Int) := by omega
       have hcq : Y2.cell? ⟨D, 5, none⟩ = some (.slice va d.values.length vc) := by rw [hbq.cell hDX]; exact X5.out
       have X6 : Hid (Y2.cell? ⟨D, 6, none⟩ = some (.slice ma d.methods.length mc)) := by refine (?_ : _ = _); rw [hbq.cell hDX]; exact X6.out
       have X7 : Hid (Y2.cell? ⟨D, 7, none⟩ = some (.slice ia il ic)) := by refine (?_ : _ = _); rw [hbq.cell hDX]; exact X7.out
       have x6 := X6.out
       have HBX : Hid (Below w.heap.size w Y2) := HBX.out.trans (hbq.mono HBX.out.size)
       have hDX : D < Y2.heap.size := by have := hbq.size; omega
       clear hbq hcq
       go_wp2_with fail
       go_loopw [2, 90] (fun l kk wq => ∃ (q : Nat) (lf : Int), l = .int .i64 lf ∧ kk = .int .i64 (q : Int) ∧ q ≤ d.methods.length ∧ Below Y2.heap.size Y2 wq ∧ lf ≤ lY2 ∧ lY2 - 5000000000000 * (q : Int) ≤ lf ∧ ∀ x ∈ d.methods.take q, ((x.name.length : Int) / 100 + (x.inp.length : Int) / 100 + (x.out.length : Int) / 100 ≤ lY2 - lf)) (fun _ kk _ => d.methods.length - (intOf kk).toNat)
       case atStart => exact ⟨0, _, rfl, rfl, by omega, Below.refl _ _, Int.le_refl _, by omega, by simp⟩
       case round =>
        obtain ⟨q, lY3, rfl, rfl, hq, hbq, hu1, hu2, hux⟩ := hrel
        have HUX3 := Lib.hid hux
        clear hux
        have HUY3 := Lib.hid (And.intro hu1 hu2)
        clear hu1 hu2
        by_cases hqn : q < d.methods.length
        ·obtain ⟨x, hx⟩ : ∃ x, d.methods[q]? = some x := ⟨_, List.getElem?_eq_getElem hqn⟩
         rcases HMr.out with h0 | ⟨g2, o2, rfl, hg2, hk2⟩
         ·rw [h0] at hx; simp at hx
         have HXS := Lib.hid (HFB.out.2.2.2.2.2.2.1 x (List.mem_of_getElem? hx))
         have hBw := HBX.out.trans (hbq.mono HBX.out.size)
         have cD : wr.cell? ⟨D, 6, none⟩ = some (.slice (some ⟨g2, o2, none⟩) d.methods.length mc) := by rw [hbq.cell hDX]; exact X6.out
         have e0 : wr.cell? ⟨g2, o2 + q * 5, none⟩ = some (.string (mkB x.name)) := by
          rw [hBw.cell (show g2 < w.heap.size from hg2)]
          have := hk2 q x hx 0 _ rfl
          simpa [Nat.add_assoc] using this
         have e1 : wr.cell? ⟨g2, o2 + q * 5 + 1, none⟩ = some (.string (mkB x.inp)) := by
          rw [hBw.cell (show g2 < w.heap.size from hg2)]
          have := hk2 q x hx 1 _ rfl
          simpa [Nat.add_assoc] using this
         have e2 : wr.cell? ⟨g2, o2 + q * 5 + 2, none⟩ = some (.string (mkB x.out)) := by
          rw [hBw.cell (show g2 < w.heap.size from hg2)]
          have := hk2 q x hx 2 _ rfl
          simpa [Nat.add_assoc] using this
         have hq0 : (0 : Int) ≤ (q : Int) := by omega
         have hq1 : (q : Int) < (d.methods.length : Int) := by omega
         have HDX := Lib.hid hx
         clear hx hk2 hBw
         go_wp2_with fail
         go_quiet (fail)
         go_wp2_with fail
         go_roundw
         case rel =>
          have u0 := HUY1.out
          have u1 := HUY2.out
          have u2 := HUY3.out
          have m0 := mkB_size x.name
          have m1 := mkB_size x.inp
          have m2 := mkB_size x.out
          have h1 := HLF.out
          have h2 := HL.out
          have h4 := HL1.out
          have h5 := HXS.out
          refine ⟨q + 1, _, rfl, by go_num, by omega, hbq.trans ⟨rfl, rfl, rfl, Nat.le_refl _, fun _ _ => rfl⟩, by unfold wrap64; omega, by unfold wrap64; omega, fun y hy => ?_⟩
          rw [List.take_add_one, HDX.out] at hy
          rcases List.mem_append.1 hy with hy | hy
          ·have := HUX3.out y hy
           unfold wrap64
           omega
          ·have : y = x := by simpa using hy
           subst this
           unfold wrap64
           omega
         case measure => simp [intOf]; omega
        ·have HUX3 : Hid (∀ x ∈ d.methods, _) := fun x hx => HUX3.out x (by rw [List.take_of_length_le (by omega)]; exact hx)
         generalize wr = Y3 at *
         have hqe : ¬ (q : Int) < (d.methods.length : Int) := by omega
         have hcq : Y3.cell? ⟨D, 6, none⟩ = some (.slice ma d.methods.length mc) := by rw [hbq.cell hDX]; exact X6.out
         have X7 : Hid (Y3.cell? ⟨D, 7, none⟩ = some (.slice ia il ic)) := by refine (?_ : _ = _); rw [hbq.cell hDX]; exact X7.out
         have x7 := X7.out
         have HBX : Hid (Below w.heap.size w Y3) := HBX.out.trans (hbq.mono HBX.out.size)
         have hDX : D < Y3.heap.size := by have := hbq.size; omega
         clear hbq hcq
         go_wp2_with fail
         refine (ih d.inner _ _ _ Y3 HFB.out.2.2.2.2.2.2.2 (by have u1 := HUY1.out; have u2 := HUY2.out; have u3 := HUY3.out; have h4 := HL1.out; have h1 := HLF.out; have h2 := HL.out; omega) (by have u1 := HUY1.out; have u2 := HUY2.out; have u3 := HUY3.out; have h4 := HL1.out; have h1 := HLF.out; have h2 := HL.out; omega) (HeldD.more (S := fun b => b < w.heap.size) (fun b hb => by have := HBX.out.size; omega) (HeldD.old (w := w) (fun b hb => HBX.out.block b hb) HI.out))).mono ?_
         rintro e w5 ⟨⟨r, rfl, hrr⟩, hb5⟩
         have HRR := Lib.hid hrr
         clear hrr
         have hb6 := HBX.out.trans (hb5.mono HBX.out.size)
         clear hb5
         by_cases hr : r < 0
         ·go_wp2_with fail
          go_ret
          exact ⟨⟨-1, rfl, fun h => absurd h (by decide)⟩, hb6⟩
         go_wp2_with fail
         go_roundw
         case rel =>
          obtain ⟨v1, v2, v3⟩ := HRR.out (by omega)
          have u1 := HUY1.out
          have u2 := HUY2.out
          have u3 := HUY3.out
          have h4 := HL1.out
          have h1 := HLF.out
          have h2 := HL.out
          have hcs := ctL_snoc f (ds.take j) d
          have hct : ds.take (j + 1) = ds.take j ++ [d] := by rw [List.take_add_one, HD.out]; rfl
          have hcq := HCN.out
          refine ⟨j + 1, r, rfl, by go_num, by omega, hb6, by omega, by rw [hct, hcs]; unfold ctD; omega, by omega, ?_⟩
          intro d' hd'
          rw [List.take_add_one, HD.out] at hd'
          rcases List.mem_append.1 hd' with hd' | hd'
          ·exact HOK.out d' hd'
          ·have : d' = d := by simpa using hd'
           subst this
           have hnl := HFB.out.1
           refine ⟨by omega, by omega, by omega, v2, ?_, fun x hx => ?_, fun x hx => ?_, fun x hx => ?_, v3⟩
           ·have := mkB_size d'.name
            omega
           ·have := HUX1.out x hx
            omega
           ·have := HUX2.out x hx
            omega
           ·have := HUX3.out x hx
            omega
         case measure => simp [intOf]; omega
  ·have hjn' : j = n := by omega
   have HE : Hid (0 ≤ lf → lf + (ctL (f + 1) ds : Int) ≤ left ∧ FitD (f + 1) ds ∧ TxtD (f + 1) ds) := fun h0 => by
    have hcq := HCN.out
    rw [List.take_of_length_le (by have := HN.out; omega)] at hcq
    have h1 := HLF.out
    have h2 := HL.out
    have hN := HN.out
    have hok := HOK.out
    rw [List.take_of_length_le (by omega)] at hok
    exact ⟨hcq, ⟨by omega, fun d hd => ⟨(hok d hd).1, (hok d hd).2.1, (hok d hd).2.2.1, (hok d hd).2.2.2.1⟩⟩, fun d hd => (hok d hd).2.2.2.2⟩
   clear hjn'
   go_wp2_with fail
   go_ret
   exact ⟨⟨lf, rfl, HE.out⟩, hbel⟩
theorem smallY_any (f : Nat) (ds : List Dc) (v : Value) (w : World) (hf : FitW f ds) (hH : HeldD f w (fun b => b < w.heap.size) v ds) :
  Calls Tryz.prog 9 #[v] w fun e w' => (∃ b : Bool, e = .returned (.bool b) ∧ (b = true → FitD f ds ∧ TxtD f ds ∧ ctL f ds ≤ 800)) ∧ Below w.heap.size w w' := by
 have hS := smallC_any f ds v 0 800 w hf (by omega) (by omega) hH
 clear hf hH
 go_enter Tryz.func9, Tryz.ntmps9
 go_wp2_with fail
 refine hS.mono ?_
 rintro e w1 ⟨⟨r, rfl, hr⟩, hb⟩
 have HR := Lib.hid hr
 clear hr hS
 go_wp2_with fail
 go_ret
 exact ⟨⟨decide (0 ≤ r), rfl, fun h => by
  have h0 := of_decide_eq_true h
  obtain ⟨a, b, c⟩ := HR.out h0
  exact ⟨b, c, by omega⟩⟩, hb⟩
end Go.Proofs.YtpojeinddnjpfaaGreatDoor
namespace Go.Proofs.YtpojeinddnjpfaaGreatDoor
set_option linter.unusedVariables false
open Go.ChangeShapes Go.WideShapes Go.ChangeAt Go.RowKit

abbrev d6 : Dc := ⟨2, [69], 0, 0, [], [⟨[97], 0, 0, 0⟩], [], []⟩
end Go.Proofs.YtpojeinddnjpfaaGreatDoor
namespace Go.Proofs.YtpojeinddnjpfaaGreatDoor
set_option linter.unusedVariables false
open Go.ChangeShapes Go.WideShapes Go.ChangeAt Go.RowKit

theorem sumS (a b : ByteArray) (n : Nat) (ha : a.size ≤ n) (hn : n + b.size ≤ 9223372036854775807) (W : World) : (Op.stringOp .add a b).run Tryz.prog W = .ok (.string (a ++ b)) W :=
 run_string_add_sum W _ _ (by omega)
end Go.Proofs.YtpojeinddnjpfaaGreatDoor
