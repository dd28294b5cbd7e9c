/-
  The walks over fields' bytes of which none is known: the program's noneKnown, the document's unknown.
  Assertions on values: what they tell. Nothing is proved of the program here.
-/
import Derived.Test.YtfhmombnipfimaaGreatDoorM10
import Derived.Test.YtfhmombnipfimaaGreatDoorM13
import Derived.Lib.ConvBytes
import Derived.Lib.AtoiErrMem
import Derived.BigQuiet
import Derived.Deep.RegionHeldLaw
import Derived.Deep.Cut
import Derived.Deep.DeepCutAuto
import Derived.Test.YtfhmombnipfimaaGreatDoorM8
namespace Go.Proofs.YtfhmombnipfimaaGreatDoor
set_option linter.unusedVariables false
open Go.ChangeShapes Go.WideShapes Go.ChangeAt Go.RowKit

/-- a text's bytes, in memory of their own -/
theorem conv_bytes (w : World) (l : List UInt8) (hl : l.length ≤ 100000) : ∃ W c, (convert 9 46 (.string (mkB l))).run Tryz.prog w = .ok (.slice (some ⟨w.heap.size, 0, none⟩) l.length c) W ∧ l.length ≤ c ∧ c ≤ 9223372036854775807 ∧ IsB W (some ⟨w.heap.size, 0, none⟩) l.length (ints l) ∧ Below w.heap.size w W ∧ W.heap.size = w.heap.size + 1 := by
  have hr := Lib.run_convert_string_bytes (P := Tryz.prog) w 9 46 5 (mkB l) (u := .string) Tryz.underlying9 Tryz.underlying46 Tryz.underlying5
  have hs : (mkB l).size = l.length := mkB_size l
  have hd : (mkB l).data.toList = l := by simp [mkB]
  refine ⟨_, _, by rw [hs] at hr; exact hr, by have := grownCap_ge w l.length 0 5; exact this, by have := grownCap_le_maxLen w l.length 0 5 (by unfold maxLen; omega); unfold maxLen at this; omega, ⟨ints_len l, by omega, ?_⟩, ?_, Lib.bytesWorld_size _ _ _⟩
  · by_cases h0 : l = []
    · left; subst h0; rfl
    · right
      refine ⟨_, _, rfl, fun j z hj => ?_, ints_ok l⟩
      have hjl : j < l.length := by have := (List.getElem?_eq_some_iff.1 hj).1; rw [ints_len] at this; exact this
      have := Lib.bytesWorld_cell w 5 (mkB l) j (by omega)
      rw [Nat.zero_add, this, hd]
      unfold ints at hj
      rw [List.getElem?_map, List.getElem?_eq_getElem hjl] at hj
      simp only [Option.map_some, Option.some.injEq] at hj
      rw [← hj, List.getD_eq_getElem?_getD, List.getElem?_eq_getElem hjl]; rfl
  · exact Lib.bytesWorld_below _ _ _
set_option maxHeartbeats 16000000 in
set_option maxRecDepth 20000 in
theorem noneP_any (nm : List UInt8) (fa : Option Addr) (n fc : Nat) (fs : List FD) (s : List UInt8) (w : World) (hn : fs.length = n) (hl : n ≤ 100000) (hs : s.length ≤ 100000) (hH : RowsIn w (fun b => b < w.heap.size) 5 fdrow (.slice fa n fc) fs) :
    Calls Tryz.prog 63 #[.agg #[.string (mkB nm), .slice fa n fc], .string (mkB s)] w fun e w' => e = .returned (.bool (noneOf (knownP fs) s)) ∧ Below w.heap.size w w' := by
  obtain ⟨R, hR⟩ : ∃ R, noneOf (knownP fs) s = R := ⟨_, rfl⟩
  have HR := Lib.hid hR
  rw [hR]
  clear hR
  obtain ⟨Y, hY, hC, hb, hYs⟩ := box_new w #[.string (mkB nm), .slice fa n fc] 61
  obtain ⟨V, c, hconv, hlc, hcm, hI, hVb, hVs⟩ := conv_bytes Y s hs
  have HY := Lib.hid hY
  have HBV := Lib.hid (hb.trans (hVb.mono hb.size))
  have HCV : Hid (V.heap[w.heap.size]? = some (.cells #[.string (mkB nm), .slice fa n fc] 61 (0, 0))) := (hVb.block _ (by omega)).trans hC
  have hVl : w.heap.size + 1 ≤ V.heap.size := by omega
  have h := splitW_any (some ⟨Y.heap.size, 0, none⟩) s.length c (ints s) V hI hlc hcm (by omega)
  have HKN : Hid (∀ (num ty : Int) (W : World), Below w.heap.size w W → Calls Tryz.prog 99 #[.agg #[.string (mkB nm), .slice fa n fc], .int .i64 num, .int .i64 ty] W fun e w' => e = .returned (.bool (knownP fs num ty)) ∧ Below W.heap.size W w') := by
    refine (?_ : ∀ (num ty : Int) (W : World), _ → _)
    intro num ty W hW
    exact knownP_any nm fa n fc fs num ty W hn hl ((RowsIn.old hH fun b h => hW.block b h).more fun b h => by have := hW.size; omega)
  clear hn hH hC hY hb hYs hI hVb hVs hlc hcm
  go_enter Tryz.func63, Tryz.ntmps63
  go_upto_region 1 with fail
  rw [HY.out]
  go_wp2_with fail
  refine h.mono ?_
  intro e W1 hans
  clear h hconv
  cases hsp : split (ints s) with
  | none =>
    rw [hsp] at hans
    obtain ⟨rfl, hb1⟩ := hans
    have HB1 := Lib.hid (HBV.out.trans (hb1.mono HBV.out.size))
    have e : R = false := by rw [← HR.out]; unfold noneOf; rw [hsp]
    subst e
    clear hsp hb1
    go_wp2_with fail
    go_ret
    exact ⟨rfl, HB1.out⟩
  | some D =>
    rw [hsp] at hans
    obtain ⟨vF, vR, xs, rs, rfl, hst, hFF, hFR, hb1⟩ := hans
    obtain ⟨aF, cF, aR, cR, rfl, rfl, hlF, hlR, hcF, -⟩ := st_shapes hst
    have HB1 := Lib.hid (HBV.out.trans (hb1.mono HBV.out.size))
    have HC1 : Hid (W1.heap[w.heap.size]? = some (.cells #[.string (mkB nm), .slice fa n fc] 61 (0, 0))) := (hb1.block _ (by omega)).trans HCV.out
    have HCF := Lib.hid hcF
    have HFF := Lib.hid hFF
    have HRR : Hid (allB (atB D fun _ p => !knownP fs p.1.num p.1.ty) D.length = R) := by
      refine (?_ : _ = _)
      rw [← HR.out]; unfold noneOf allA; rw [hsp]
    obtain ⟨m, hm⟩ : ∃ m, xs.length = m := ⟨_, rfl⟩
    have HM : Hid (D.length = m) := by
      refine (?_ : _ = _)
      rw [← hm, hFF.len]
    have hmb : m ≤ 100000 := by
      have h1 := spl_len _ _ D (ints_ok s) hsp
      rw [ints_len] at h1
      have := HM.out
      omega
    rw [hm] at hlF ⊢
    have HMX := Lib.hid hm
    have h1s : w.heap.size + 1 ≤ W1.heap.size := by have := hb1.size; omega
    clear hst hFF hFR hb1 hcF hsp hm hlR HR HBV HCV hVl
    go_wp2_with fail
    go_loopw [21] (fun i wr => ∃ (k : Nat), i = .int .i64 (k : Int) ∧ k ≤ m ∧ allB (atB D fun _ p => !knownP fs p.1.num p.1.ty) k = true ∧ Below W1.heap.size W1 wr) (fun i _ => m - (intOf i).toNat)
    case atStart => exact ⟨0, rfl, Nat.zero_le _, rfl, Below.refl _ _⟩
    case round =>
      generalize wr = w1 at *
      obtain ⟨k, rfl, hk, hall, hbel⟩ := hrel
      have HBE := Lib.hid hbel
      have HA := Lib.hid hall
      have HBW := Lib.hid (HB1.out.trans (hbel.mono HB1.out.size))
      have hws := hbel.size
      by_cases hkn : k < m
      · obtain ⟨f, p, hf, hp, hsay⟩ := fits_at HFF.out k (by have := HM.out; omega)
        obtain ⟨g, hag, e0, e1, e2, e3, -, hg⟩ := HCF.out k f hf
        subst hag
        have e0 : w1.cell? ⟨g, k * 4, none⟩ = some (.int .i64 f.num) := by rw [hbel.cell hg]; exact e0
        have e1 : w1.cell? ⟨g, k * 4 + 1, none⟩ = some (.int .i64 f.ty) := by rw [hbel.cell hg]; exact e1
        have e2 : w1.cell? ⟨g, k * 4 + 2, none⟩ = some (.int .u64 f.n) := by rw [hbel.cell hg]; exact e2
        have e3 : w1.cell? ⟨g, k * 4 + 3, none⟩ = some (.slice f.a f.len f.cap) := by rw [hbel.cell hg]; exact e3
        have HKB : Hid (atB D (fun _ p => !knownP fs p.1.num p.1.ty) k = !knownP fs f.num f.ty) := by
          refine (?_ : _ = _)
          rw [atB_some hp]
          have h1 : f.num = p.1.num := congrArg (fun t => t.1) hsay
          have h2 : f.ty = p.1.ty := congrArg (fun t => t.2.1) hsay
          rw [h1, h2]
        have hk0 : (0 : Int) ≤ (k : Int) := by omega
        have hk1 : (k : Int) < (m : Int) := by omega
        have hwq : IntKind.i64.wrap ((k : Int) + 1) = (k : Int) + 1 := by rw [IntKind.wrap_i64]; omega
        have hc1 := (hbel.block _ (by omega)).trans HC1.out
        have hKn := HKN.out f.num f.ty
        obtain ⟨B, hB⟩ : ∃ B, knownP fs f.num f.ty = B := ⟨_, rfl⟩
        rw [hB] at HKB
        simp only [hB] at hKn
        clear hf hp hsay hbel hall hB
        obtain ⟨fnum, fty, fn, fa', flen, fcap, fd⟩ := f
        dsimp only at e0 e1 e2 e3 hKn
        have hC : (w1.alloc (.cells #[.int .i64 fnum, .int .i64 fty, .int .u64 fn, .slice fa' flen fcap] 167)).heap[w1.heap.size]? = some (.cells #[.int .i64 fnum, .int .i64 fty, .int .u64 fn, .slice fa' flen fcap] 167 (0, 0)) := alloc_heap_new _ _
        have hCb : Below w1.heap.size w1 (w1.alloc (.cells #[.int .i64 fnum, .int .i64 fty, .int .u64 fn, .slice fa' flen fcap] 167)) := (Below.refl _ w1).alloc (Nat.le_refl _) _
        go_upto_region 7 with fail
        generalize (w1.alloc (.cells #[.int .i64 fnum, .int .i64 fty, .int .u64 fn, .slice fa' flen fcap] 167)) = X at *
        have hBX := HBW.out.trans (hCb.mono (by omega))
        have HBX := Lib.hid hBX
        have HBX1 := Lib.hid (HBE.out.trans (hCb.mono hws))
        have l0 : X.cell? ⟨w1.heap.size, 0, none⟩ = some (.int .i64 fnum) := cell_at hC 0 rfl
        have l1 : X.cell? ⟨w1.heap.size, 1, none⟩ = some (.int .i64 fty) := cell_at hC 1 rfl
        have hcX := (hCb.block _ (by omega)).trans hc1
        have d0 : X.cell? ⟨w.heap.size, 0, none⟩ = some (.string (mkB nm)) := cell_at hcX 0 rfl
        have d1 : X.cell? ⟨w.heap.size, 1, none⟩ = some (.slice fa n fc) := cell_at hcX 1 rfl
        have h := hKn X hBX
        clear hC hCb hcX hc1 hKn hBX e0 e1 e2 e3
        go_wp2_with fail
        refine h.mono ?_
        rintro e W2 ⟨rfl, hb2⟩
        have HB2 := Lib.hid (HBX.out.trans (hb2.mono HBX.out.size))
        have HBR := Lib.hid (HBX1.out.trans (hb2.mono HBX1.out.size))
        clear hb2 h l0 l1 d0 d1
        cases B
        case true =>
          have e : R = false := by rw [← HRR.out]; exact allB_no HKB.out (by have := HM.out; omega)
          subst e
          go_wp2_with fail
          go_ret
          exact ⟨rfl, HB2.out⟩
        case false =>
          go_wp2_with fail
          go_roundw
          case rel => exact ⟨k + 1, by go_num, by omega, allB_step HA.out HKB.out, HBR.out⟩
          case measure => simp [intOf]; omega
      · have hkn' : ¬ (k : Int) < (m : Int) := by omega
        have e : R = true := by
          have hkk : k = D.length := by have := HM.out; omega
          rw [← HRR.out, ← hkk]; exact HA.out
        subst e
        go_wp2_with fail
        go_ret
        exact ⟨rfl, HBW.out⟩
set_option maxHeartbeats 16000000 in
set_option maxRecDepth 20000 in
theorem noneR_any (nm : List UInt8) (fa : Option Addr) (n fc : Nat) (fs : List FD) (s : List UInt8) (w : World) (hn : fs.length = n) (hl : n ≤ 100000) (hs : s.length ≤ 100000) (hH : RowsIn w (fun b => b < w.heap.size) 5 fdrow (.slice fa n fc) fs) :
    Calls Tryz.prog 54 #[.agg #[.string (mkB nm), .slice fa n fc], .string (mkB s)] w fun e w' => e = .returned (.bool (noneOf (knownR fs) s)) ∧ Below w.heap.size w w' := by
  obtain ⟨R, hR⟩ : ∃ R, noneOf (knownR fs) s = R := ⟨_, rfl⟩
  have HR := Lib.hid hR
  rw [hR]
  clear hR
  obtain ⟨Y, hY, hC, hb, hYs⟩ := box_new w #[.string (mkB nm), .slice fa n fc] 61
  obtain ⟨V, c, hconv, hlc, hcm, hI, hVb, hVs⟩ := conv_bytes Y s hs
  have HY := Lib.hid hY
  have HBV := Lib.hid (hb.trans (hVb.mono hb.size))
  have HCV : Hid (V.heap[w.heap.size]? = some (.cells #[.string (mkB nm), .slice fa n fc] 61 (0, 0))) := (hVb.block _ (by omega)).trans hC
  have hVl : w.heap.size + 1 ≤ V.heap.size := by omega
  have h := splitR_any (some ⟨Y.heap.size, 0, none⟩) s.length c (ints s) V hI hlc hcm (by omega)
  have HKN : Hid (∀ (num ty : Int) (W : World), Below w.heap.size w W → Calls Tryz.prog 81 #[.agg #[.string (mkB nm), .slice fa n fc], .int .i64 num, .int .i64 ty] W fun e w' => e = .returned (.bool (knownR fs num ty)) ∧ Below W.heap.size W w') := by
    refine (?_ : ∀ (num ty : Int) (W : World), _ → _)
    intro num ty W hW
    exact knownR_any nm fa n fc fs num ty W hn hl ((RowsIn.old hH fun b h => hW.block b h).more fun b h => by have := hW.size; omega)
  clear hn hH hC hY hb hYs hI hVb hVs hlc hcm
  go_enter Tryz.func54, Tryz.ntmps54
  go_upto_region 1 with fail
  rw [HY.out]
  go_wp2_with fail
  refine h.mono ?_
  intro e W1 hans
  clear h hconv
  cases hsp : split (ints s) with
  | none =>
    rw [hsp] at hans
    obtain ⟨rfl, hb1⟩ := hans
    have HB1 := Lib.hid (HBV.out.trans (hb1.mono HBV.out.size))
    have e : R = false := by rw [← HR.out]; unfold noneOf; rw [hsp]
    subst e
    clear hsp hb1
    go_wp2_with fail
    go_ret
    exact ⟨rfl, HB1.out⟩
  | some D =>
    rw [hsp] at hans
    obtain ⟨vF, vR, xs, rs, rfl, hst, hFF, hFR, hb1⟩ := hans
    obtain ⟨aF, cF, aR, cR, rfl, rfl, hlF, hlR, hcF, -⟩ := st_shapes hst
    have HB1 := Lib.hid (HBV.out.trans (hb1.mono HBV.out.size))
    have HC1 : Hid (W1.heap[w.heap.size]? = some (.cells #[.string (mkB nm), .slice fa n fc] 61 (0, 0))) := (hb1.block _ (by omega)).trans HCV.out
    have HCF := Lib.hid hcF
    have HFF := Lib.hid hFF
    have HRR : Hid (allB (atB D fun _ p => !knownR fs p.1.num p.1.ty) D.length = R) := by
      refine (?_ : _ = _)
      rw [← HR.out]; unfold noneOf allA; rw [hsp]
    obtain ⟨m, hm⟩ : ∃ m, xs.length = m := ⟨_, rfl⟩
    have HM : Hid (D.length = m) := by
      refine (?_ : _ = _)
      rw [← hm, hFF.len]
    have hmb : m ≤ 100000 := by
      have h1 := spl_len _ _ D (ints_ok s) hsp
      rw [ints_len] at h1
      have := HM.out
      omega
    rw [hm] at hlF ⊢
    have HMX := Lib.hid hm
    have h1s : w.heap.size + 1 ≤ W1.heap.size := by have := hb1.size; omega
    clear hst hFF hFR hb1 hcF hsp hm hlR HR HBV HCV hVl
    go_wp2_with fail
    go_loopw [20] (fun i wr => ∃ (k : Nat), i = .int .i64 (k : Int) ∧ k ≤ m ∧ allB (atB D fun _ p => !knownR fs p.1.num p.1.ty) k = true ∧ Below W1.heap.size W1 wr) (fun i _ => m - (intOf i).toNat)
    case atStart => exact ⟨0, rfl, Nat.zero_le _, rfl, Below.refl _ _⟩
    case round =>
      generalize wr = w1 at *
      obtain ⟨k, rfl, hk, hall, hbel⟩ := hrel
      have HBE := Lib.hid hbel
      have HA := Lib.hid hall
      have HBW := Lib.hid (HB1.out.trans (hbel.mono HB1.out.size))
      have hws := hbel.size
      by_cases hkn : k < m
      · obtain ⟨f, p, hf, hp, hsay⟩ := fits_at HFF.out k (by have := HM.out; omega)
        obtain ⟨g, hag, e0, e1, e2, e3, -, hg⟩ := HCF.out k f hf
        subst hag
        have e0 : w1.cell? ⟨g, k * 4, none⟩ = some (.int .i64 f.num) := by rw [hbel.cell hg]; exact e0
        have e1 : w1.cell? ⟨g, k * 4 + 1, none⟩ = some (.int .i64 f.ty) := by rw [hbel.cell hg]; exact e1
        have e2 : w1.cell? ⟨g, k * 4 + 2, none⟩ = some (.int .u64 f.n) := by rw [hbel.cell hg]; exact e2
        have e3 : w1.cell? ⟨g, k * 4 + 3, none⟩ = some (.slice f.a f.len f.cap) := by rw [hbel.cell hg]; exact e3
        have HKB : Hid (atB D (fun _ p => !knownR fs p.1.num p.1.ty) k = !knownR fs f.num f.ty) := by
          refine (?_ : _ = _)
          rw [atB_some hp]
          have h1 : f.num = p.1.num := congrArg (fun t => t.1) hsay
          have h2 : f.ty = p.1.ty := congrArg (fun t => t.2.1) hsay
          rw [h1, h2]
        have hk0 : (0 : Int) ≤ (k : Int) := by omega
        have hk1 : (k : Int) < (m : Int) := by omega
        have hwq : IntKind.i64.wrap ((k : Int) + 1) = (k : Int) + 1 := by rw [IntKind.wrap_i64]; omega
        have hc1 := (hbel.block _ (by omega)).trans HC1.out
        have hKn := HKN.out f.num f.ty
        obtain ⟨B, hB⟩ : ∃ B, knownR fs f.num f.ty = B := ⟨_, rfl⟩
        rw [hB] at HKB
        simp only [hB] at hKn
        clear hf hp hsay hbel hall hB
        obtain ⟨fnum, fty, fn, fa', flen, fcap, fd⟩ := f
        dsimp only at e0 e1 e2 e3 hKn
        have z0 : w1.cell? ⟨w.heap.size, 0, none⟩ = some (.string (mkB nm)) := cell_at hc1 0 rfl
        have z1 : w1.cell? ⟨w.heap.size, 1, none⟩ = some (.slice fa n fc) := cell_at hc1 1 rfl
        have hS0 : Below w1.heap.size w1 w1.drew := (Below.refl _ _).drew
        have hg1 : g < w1.heap.size := by omega
        have d0 : ∀ W, Below w1.heap.size w1 W → W.cell? ⟨w.heap.size, 0, none⟩ = some (.string (mkB nm)) := fun W hW => (hW.cell (by simp; omega)).trans z0
        have d1 : ∀ W, Below w1.heap.size w1 W → W.cell? ⟨w.heap.size, 1, none⟩ = some (.slice fa n fc) := fun W hW => (hW.cell (by simp; omega)).trans z1
        have f0 : ∀ W, Below w1.heap.size w1 W → W.cell? ⟨g, k * 4, none⟩ = some (.int .i64 fnum) := fun W hW => (hW.cell (by simpa using hg1)).trans e0
        have f1 : ∀ W, Below w1.heap.size w1 W → W.cell? ⟨g, k * 4 + 1, none⟩ = some (.int .i64 fty) := fun W hW => (hW.cell (by simpa using hg1)).trans e1
        have hcl : ∀ W, Below w1.heap.size w1 W → Calls Tryz.prog 81 #[.agg #[.string (mkB nm), .slice fa n fc], .int .i64 fnum, .int .i64 fty] W fun e w' => e = .returned (.bool B) ∧ Below w1.heap.size w1 w' := fun W hW => (hKn W (HBW.out.trans (hW.mono HBW.out.size))).mono fun e w' ⟨h1, h2⟩ => ⟨h1, hW.trans (h2.mono hW.size)⟩
        clear hKn hc1 z0 z1 e0 e1 e2 e3
        go_upto_region 7 with fail
        go_cut [34] (fun v wx => v = .bool B ∧ Below w1.heap.size w1 wx)
        case first =>
          go_region_held_law (fun W => Below w1.heap.size w1 W) (first | with_reducible exact hS0 | assumption) (first | (go_simp; go_at_call 81; refine (hcl _ (by first | assumption | exact hS0)).mono ?_; rintro e W2 ⟨rfl, hW2⟩; dsimp only))
          all_goals try go_wp2_with fail
          all_goals go_meet
          all_goals exact ⟨rfl, by assumption⟩
        case rest =>
        obtain ⟨rfl, hS1⟩ := hcut
        generalize wc = W2 at *
        have HB2 := Lib.hid (HBW.out.trans (hS1.mono HBW.out.size))
        have HBR := Lib.hid (HBE.out.trans (hS1.mono hws))
        clear hS0 hS1 hcl d0 d1 f0 f1
        cases B
        case true =>
          have e : R = false := by rw [← HRR.out]; exact allB_no HKB.out (by have := HM.out; omega)
          subst e
          go_wp2_with fail
          go_ret
          exact ⟨rfl, HB2.out⟩
        case false =>
          go_wp2_with fail
          go_roundw
          case rel => exact ⟨k + 1, by go_num, by omega, allB_step HA.out HKB.out, HBR.out⟩
          case measure => simp [intOf]; omega
      · have hkn' : ¬ (k : Int) < (m : Int) := by omega
        have e : R = true := by
          have hkk : k = D.length := by have := HM.out; omega
          rw [← HRR.out, ← hkk]; exact HA.out
        subst e
        go_wp2_with fail
        go_ret
        exact ⟨rfl, HBW.out⟩
end Go.Proofs.YtfhmombnipfimaaGreatDoor
namespace Go.Proofs.YtfhmombnipfimaaGreatDoor
set_option linter.unusedVariables false
open Go.ChangeShapes Go.WideShapes Go.ChangeAt Go.RowKit

theorem ta_hit {P : Program} (T X : TypeId) (d : TypeDesc) (v : Value) (W : World) (hu : P.underlying T = some d) (hd : ∀ m, d ≠ .interface m) : (Instr.typeAssert (.iface T v) X T true).run P W = .ok (.tuple #[v, .bool true]) W := by
  cases d <;> first | (exact absurd rfl (hd _)) | simp [Instr.typeAssert, run_underlying hu]
theorem ta_miss {P : Program} (T U X : TypeId) (d : TypeDesc) (v z : Value) (W : World) (hu : P.underlying T = some d) (hd : ∀ m, d ≠ .interface m) (hU : U ≠ T) (hz : (P.info? T).map (fun i => i.zero) = some (some z)) : (Instr.typeAssert (.iface U v) X T true).run P W = .ok (.tuple #[z, .bool false]) W := by
  obtain ⟨i, hi, hz⟩ := Option.map_eq_some_iff.1 hz
  cases d <;> first | (exact absurd rfl (hd _)) | simp [Instr.typeAssert, run_underlying hu, hU, zeroValue, typeInfo, hi, hz]
theorem ta_nil {P : Program} (T X : TypeId) (d : TypeDesc) (z : Value) (W : World) (hu : P.underlying T = some d) (hd : ∀ m, d ≠ .interface m) (hz : (P.info? T).map (fun i => i.zero) = some (some z)) : (Instr.typeAssert .nilIface X T true).run P W = .ok (.tuple #[z, .bool false]) W := by
  obtain ⟨i, hi, hz⟩ := Option.map_eq_some_iff.1 hz
  cases d <;> first | (exact absurd rfl (hd _)) | simp [Instr.typeAssert, run_underlying hu, zeroValue, typeInfo, hi, hz]
/-- a value's kind is asked by its type -/
theorem ta_any (K : Int) (T : TypeId) (d : TypeDesc) (z : Value) (inn : Nd → Value → Value) (y : Nd) (fs : Value) (hu : Tryz.prog.underlying T = some d) (hd : ∀ m, d ≠ .interface m) (hz : (Tryz.prog.info? T).map (fun i => i.zero) = some (some z))
    (hit : ∀ y fs, y.kind = K → ival y fs = .iface T (inn y fs)) (miss : ∀ y fs, y.kind ≠ K → (∃ U v, ival y fs = .iface U v ∧ U ≠ T) ∨ ival y fs = .nilIface) (W : World) :
    (Instr.typeAssert (ival y fs) 34 T true).run Tryz.prog W = .ok (.tuple #[if y.kind = K then inn y fs else z, .bool (decide (y.kind = K))]) W := by
  by_cases h : y.kind = K
  · rw [if_pos h, decide_eq_true h, hit y fs h]; exact ta_hit T _ d _ W hu hd
  · rw [if_neg h, decide_eq_false h]
    rcases miss y fs h with ⟨U, v, e, hU⟩ | e
    · rw [e]; exact ta_miss T U _ d _ z W hu hd hU hz
    · rw [e]; exact ta_nil T _ d z W hu hd hz
theorem ival_cases (y : Nd) (fs : Value) : (y.kind = 1 ∧ ival y fs = .iface 74 (.int .i64 y.n)) ∨ (y.kind = 2 ∧ ival y fs = .iface 65 (.int .u64 y.u)) ∨ (y.kind = 3 ∧ ival y fs = .iface 75 (.bool y.b)) ∨ (y.kind = 4 ∧ ival y fs = .iface 76 (.string (mkB y.s))) ∨
    (y.kind = 5 ∧ ival y fs = .iface 77 (.string (mkB y.s))) ∨ (y.kind = 6 ∧ ival y fs = .iface 78 (.int .i32 (IntKind.i32.wrap y.n))) ∨ (y.kind = 7 ∧ ival y fs = .iface 64 (.agg #[.int .i64 y.type, fs, .string (mkB y.s)])) ∨ ((y.kind < 1 ∨ 7 < y.kind) ∧ ival y fs = .nilIface) := by
  unfold ival
  by_cases h1 : y.kind = 1
  · left; rw [if_pos h1]; exact ⟨h1, rfl⟩
  by_cases h2 : y.kind = 2
  · right; left; rw [if_neg h1, if_pos h2]; exact ⟨h2, rfl⟩
  by_cases h3 : y.kind = 3
  · right; right; left; rw [if_neg h1, if_neg h2, if_pos h3]; exact ⟨h3, rfl⟩
  by_cases h4 : y.kind = 4
  · right; right; right; left; rw [if_neg h1, if_neg h2, if_neg h3, if_pos h4]; exact ⟨h4, rfl⟩
  by_cases h5 : y.kind = 5
  · right; right; right; right; left; rw [if_neg h1, if_neg h2, if_neg h3, if_neg h4, if_pos h5]; exact ⟨h5, rfl⟩
  by_cases h6 : y.kind = 6
  · right; right; right; right; right; left; rw [if_neg h1, if_neg h2, if_neg h3, if_neg h4, if_neg h5, if_pos h6]; exact ⟨h6, rfl⟩
  by_cases h7 : y.kind = 7
  · right; right; right; right; right; right; left; rw [if_neg h1, if_neg h2, if_neg h3, if_neg h4, if_neg h5, if_neg h6, if_pos h7]; exact ⟨h7, rfl⟩
  · right; right; right; right; right; right; right; rw [if_neg h1, if_neg h2, if_neg h3, if_neg h4, if_neg h5, if_neg h6, if_neg h7]; exact ⟨by omega, rfl⟩
theorem taInt (y : Nd) (fs : Value) (W : World) : (Instr.typeAssert (ival y fs) 34 74 true).run Tryz.prog W = .ok (.tuple #[if y.kind = 1 then .int .i64 y.n else .int .i64 0, .bool (decide (y.kind = 1))]) W :=
  ta_any 1 74 (.int .i64) (.int .i64 0) (fun y _ => .int .i64 y.n) y fs (by kernel_rfl) (fun m h => by cases h) (by kernel_rfl)
    (fun y fs h => by rcases ival_cases y fs with ⟨k, e⟩ | ⟨k, e⟩ | ⟨k, e⟩ | ⟨k, e⟩ | ⟨k, e⟩ | ⟨k, e⟩ | ⟨k, e⟩ | ⟨k, e⟩ <;> first | exact e | omega)
    (fun y fs h => by rcases ival_cases y fs with ⟨k, e⟩ | ⟨k, e⟩ | ⟨k, e⟩ | ⟨k, e⟩ | ⟨k, e⟩ | ⟨k, e⟩ | ⟨k, e⟩ | ⟨k, e⟩ <;> first | exact absurd k h | exact .inl ⟨_, _, e, by decide⟩ | exact .inr e) W
theorem taUint (y : Nd) (fs : Value) (W : World) : (Instr.typeAssert (ival y fs) 34 65 true).run Tryz.prog W = .ok (.tuple #[if y.kind = 2 then .int .u64 y.u else .int .u64 0, .bool (decide (y.kind = 2))]) W :=
  ta_any 2 65 (.int .u64) (.int .u64 0) (fun y _ => .int .u64 y.u) y fs (by kernel_rfl) (fun m h => by cases h) (by kernel_rfl)
    (fun y fs h => by rcases ival_cases y fs with ⟨k, e⟩ | ⟨k, e⟩ | ⟨k, e⟩ | ⟨k, e⟩ | ⟨k, e⟩ | ⟨k, e⟩ | ⟨k, e⟩ | ⟨k, e⟩ <;> first | exact e | omega)
    (fun y fs h => by rcases ival_cases y fs with ⟨k, e⟩ | ⟨k, e⟩ | ⟨k, e⟩ | ⟨k, e⟩ | ⟨k, e⟩ | ⟨k, e⟩ | ⟨k, e⟩ | ⟨k, e⟩ <;> first | exact absurd k h | exact .inl ⟨_, _, e, by decide⟩ | exact .inr e) W
theorem taBool (y : Nd) (fs : Value) (W : World) : (Instr.typeAssert (ival y fs) 34 75 true).run Tryz.prog W = .ok (.tuple #[if y.kind = 3 then .bool y.b else .bool false, .bool (decide (y.kind = 3))]) W :=
  ta_any 3 75 (.bool) (.bool false) (fun y _ => .bool y.b) y fs (by kernel_rfl) (fun m h => by cases h) (by kernel_rfl)
    (fun y fs h => by rcases ival_cases y fs with ⟨k, e⟩ | ⟨k, e⟩ | ⟨k, e⟩ | ⟨k, e⟩ | ⟨k, e⟩ | ⟨k, e⟩ | ⟨k, e⟩ | ⟨k, e⟩ <;> first | exact e | omega)
    (fun y fs h => by rcases ival_cases y fs with ⟨k, e⟩ | ⟨k, e⟩ | ⟨k, e⟩ | ⟨k, e⟩ | ⟨k, e⟩ | ⟨k, e⟩ | ⟨k, e⟩ | ⟨k, e⟩ <;> first | exact absurd k h | exact .inl ⟨_, _, e, by decide⟩ | exact .inr e) W
theorem taText (y : Nd) (fs : Value) (W : World) : (Instr.typeAssert (ival y fs) 34 76 true).run Tryz.prog W = .ok (.tuple #[if y.kind = 4 then .string (mkB y.s) else .string ⟨#[]⟩, .bool (decide (y.kind = 4))]) W :=
  ta_any 4 76 (.string) (.string ⟨#[]⟩) (fun y _ => .string (mkB y.s)) y fs (by kernel_rfl) (fun m h => by cases h) (by kernel_rfl)
    (fun y fs h => by rcases ival_cases y fs with ⟨k, e⟩ | ⟨k, e⟩ | ⟨k, e⟩ | ⟨k, e⟩ | ⟨k, e⟩ | ⟨k, e⟩ | ⟨k, e⟩ | ⟨k, e⟩ <;> first | exact e | omega)
    (fun y fs h => by rcases ival_cases y fs with ⟨k, e⟩ | ⟨k, e⟩ | ⟨k, e⟩ | ⟨k, e⟩ | ⟨k, e⟩ | ⟨k, e⟩ | ⟨k, e⟩ | ⟨k, e⟩ <;> first | exact absurd k h | exact .inl ⟨_, _, e, by decide⟩ | exact .inr e) W
theorem taBytes (y : Nd) (fs : Value) (W : World) : (Instr.typeAssert (ival y fs) 34 77 true).run Tryz.prog W = .ok (.tuple #[if y.kind = 5 then .string (mkB y.s) else .string ⟨#[]⟩, .bool (decide (y.kind = 5))]) W :=
  ta_any 5 77 (.string) (.string ⟨#[]⟩) (fun y _ => .string (mkB y.s)) y fs (by kernel_rfl) (fun m h => by cases h) (by kernel_rfl)
    (fun y fs h => by rcases ival_cases y fs with ⟨k, e⟩ | ⟨k, e⟩ | ⟨k, e⟩ | ⟨k, e⟩ | ⟨k, e⟩ | ⟨k, e⟩ | ⟨k, e⟩ | ⟨k, e⟩ <;> first | exact e | omega)
    (fun y fs h => by rcases ival_cases y fs with ⟨k, e⟩ | ⟨k, e⟩ | ⟨k, e⟩ | ⟨k, e⟩ | ⟨k, e⟩ | ⟨k, e⟩ | ⟨k, e⟩ | ⟨k, e⟩ <;> first | exact absurd k h | exact .inl ⟨_, _, e, by decide⟩ | exact .inr e) W
theorem taEnum (y : Nd) (fs : Value) (W : World) : (Instr.typeAssert (ival y fs) 34 78 true).run Tryz.prog W = .ok (.tuple #[if y.kind = 6 then .int .i32 (IntKind.i32.wrap y.n) else .int .i32 0, .bool (decide (y.kind = 6))]) W :=
  ta_any 6 78 (.int .i32) (.int .i32 0) (fun y _ => .int .i32 (IntKind.i32.wrap y.n)) y fs (by kernel_rfl) (fun m h => by cases h) (by kernel_rfl)
    (fun y fs h => by rcases ival_cases y fs with ⟨k, e⟩ | ⟨k, e⟩ | ⟨k, e⟩ | ⟨k, e⟩ | ⟨k, e⟩ | ⟨k, e⟩ | ⟨k, e⟩ | ⟨k, e⟩ <;> first | exact e | omega)
    (fun y fs h => by rcases ival_cases y fs with ⟨k, e⟩ | ⟨k, e⟩ | ⟨k, e⟩ | ⟨k, e⟩ | ⟨k, e⟩ | ⟨k, e⟩ | ⟨k, e⟩ | ⟨k, e⟩ <;> first | exact absurd k h | exact .inl ⟨_, _, e, by decide⟩ | exact .inr e) W
theorem taMessage (y : Nd) (fs : Value) (W : World) : (Instr.typeAssert (ival y fs) 34 64 true).run Tryz.prog W = .ok (.tuple #[if y.kind = 7 then .agg #[.int .i64 y.type, fs, .string (mkB y.s)] else .agg #[.int .i64 0, .slice none 0 0, .string ⟨#[]⟩], .bool (decide (y.kind = 7))]) W :=
  ta_any 7 64 _ (.agg #[.int .i64 0, .slice none 0 0, .string ⟨#[]⟩]) (fun y fs => .agg #[.int .i64 y.type, fs, .string (mkB y.s)]) y fs Tryz.underlying64 (fun m h => by cases h) (by kernel_rfl)
    (fun y fs h => by rcases ival_cases y fs with ⟨k, e⟩ | ⟨k, e⟩ | ⟨k, e⟩ | ⟨k, e⟩ | ⟨k, e⟩ | ⟨k, e⟩ | ⟨k, e⟩ | ⟨k, e⟩ <;> first | exact e | omega)
    (fun y fs h => by rcases ival_cases y fs with ⟨k, e⟩ | ⟨k, e⟩ | ⟨k, e⟩ | ⟨k, e⟩ | ⟨k, e⟩ | ⟨k, e⟩ | ⟨k, e⟩ | ⟨k, e⟩ <;> first | exact absurd k h | exact .inl ⟨_, _, e, by decide⟩ | exact .inr e) W
end Go.Proofs.YtfhmombnipfimaaGreatDoor
