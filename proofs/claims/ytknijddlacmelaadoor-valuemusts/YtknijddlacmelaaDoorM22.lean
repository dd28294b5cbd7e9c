/-
  The walks over fields' bytes of which none is known: the program's noneKnown, the document's unknown.
-/
import Derived.Test.YtknijddlacmelaaDoorM13
import Derived.Test.YtknijddlacmelaaDoorM21
import Derived.Test.YtknijddlacmelaaDoorM6
import Derived.Test.YtknijddlacmelaaDoorM18
import Derived.Lib.ConvBytes
import Derived.Lib.AtoiErrMem
import Derived.BigQuiet
import Derived.Deep.RegionHeldLaw
import Derived.Deep.Cut
import Derived.Deep.DeepCutAuto
import Derived.Handy
import Derived.Deep.RegionLaw
namespace Go.Proofs.YtknijddlacmelaaDoor
set_option linter.unusedVariables false
open Go.ChangeShapes Go.WideShapes Go.ChangeAt Go.RowKit

/-- a text's bytes, in memory of their own -/
theorem conv_bytes (w : World) (l : List UInt8) (hl : l.length ≤ 100000) : ∃ W c, (convert 9 104 (.string (mkB l))).run Tryd.prog w = .ok (.slice (some ⟨w.heap.size, 0, none⟩) l.length c) W ∧ l.length ≤ c ∧ c ≤ 9223372036854775807 ∧ IsB W (some ⟨w.heap.size, 0, none⟩) l.length (ints l) ∧ Below w.heap.size w W ∧ W.heap.size = w.heap.size + 1 := by
  have hr := Lib.run_convert_string_bytes (P := Tryd.prog) w 9 104 5 (mkB l) (u := .string) Tryd.underlying9 Tryd.underlying104 Tryd.underlying5
  have hs : (mkB l).size = l.length := mkB_size l
  have hd : (mkB l).data.toList = l := by simp [mkB]
  refine ⟨_, _, by rw [hs] at hr; exact hr, by have := grownCap_ge w l.length 0 5; exact this, by have := grownCap_le_maxLen w l.length 0 5 (by unfold maxLen; omega); unfold maxLen at this; omega, ⟨ints_len l, by omega, ?_⟩, ?_, Lib.bytesWorld_size _ _ _⟩
  · by_cases h0 : l = []
    · left; subst h0; rfl
    · right
      refine ⟨_, _, rfl, fun j z hj => ?_, ints_ok l⟩
      have hjl : j < l.length := by have := (List.getElem?_eq_some_iff.1 hj).1; rw [ints_len] at this; exact this
      have := Lib.bytesWorld_cell w 5 (mkB l) j (by omega)
      rw [Nat.zero_add, this, hd]
      unfold ints at hj
      rw [List.getElem?_map, List.getElem?_eq_getElem hjl] at hj
      simp only [Option.map_some, Option.some.injEq] at hj
      rw [← hj, List.getD_eq_getElem?_getD, List.getElem?_eq_getElem hjl]; rfl
  · exact Lib.bytesWorld_below _ _ _
set_option maxHeartbeats 16000000 in
set_option maxRecDepth 20000 in
theorem noneP_any (nm : List UInt8) (fa : Option Addr) (n fc : Nat) (fs : List FD) (s : List UInt8) (w : World) (hn : fs.length = n) (hl : n ≤ 100000) (hs : s.length ≤ 100000) (hH : RowsIn w (fun b => b < w.heap.size) 5 fdrow (.slice fa n fc) fs) :
    Calls Tryd.prog 27 #[.agg #[.string (mkB nm), .slice fa n fc], .string (mkB s)] w fun e w' => e = .returned (.bool (noneOf (knownP fs) s)) ∧ Below w.heap.size w w' := by
  obtain ⟨R, hR⟩ : ∃ R, noneOf (knownP fs) s = R := ⟨_, rfl⟩
  have HR := Lib.hid hR
  rw [hR]
  clear hR
  obtain ⟨Y, hY, hC, hb, hYs⟩ := box_new w #[.string (mkB nm), .slice fa n fc] 48
  obtain ⟨V, c, hconv, hlc, hcm, hI, hVb, hVs⟩ := conv_bytes Y s hs
  have HY := Lib.hid hY
  have HBV := Lib.hid (hb.trans (hVb.mono hb.size))
  have HCV : Hid (V.heap[w.heap.size]? = some (.cells #[.string (mkB nm), .slice fa n fc] 48 (0, 0))) := (hVb.block _ (by omega)).trans hC
  have hVl : w.heap.size + 1 ≤ V.heap.size := by omega
  have h := splitW_any (some ⟨Y.heap.size, 0, none⟩) s.length c (ints s) V hI hlc hcm (by omega)
  have HKN : Hid (∀ (num ty : Int) (W : World), Below w.heap.size w W → Calls Tryd.prog 42 #[.agg #[.string (mkB nm), .slice fa n fc], .int .i64 num, .int .i64 ty] W fun e w' => e = .returned (.bool (knownP fs num ty)) ∧ Below W.heap.size W w') := by
    refine (?_ : ∀ (num ty : Int) (W : World), _ → _)
    intro num ty W hW
    exact knownP_any nm fa n fc fs num ty W hn hl ((RowsIn.old hH fun b h => hW.block b h).more fun b h => by have := hW.size; omega)
  clear hn hH hC hY hb hYs hI hVb hVs hlc hcm
  go_enter Tryd.func27, Tryd.ntmps27
  go_upto_region 1 with fail
  rw [HY.out]
  go_wp2_with fail
  refine h.mono ?_
  intro e W1 hans
  clear h hconv
  cases hsp : split (ints s) with
  | none =>
    rw [hsp] at hans
    obtain ⟨rfl, hb1⟩ := hans
    have HB1 := Lib.hid (HBV.out.trans (hb1.mono HBV.out.size))
    have e : R = false := by rw [← HR.out]; unfold noneOf; rw [hsp]
    subst e
    clear hsp hb1
    go_wp2_with fail
    go_ret
    exact ⟨rfl, HB1.out⟩
  | some D =>
    rw [hsp] at hans
    obtain ⟨vF, vR, xs, rs, rfl, hst, hFF, hFR, hb1⟩ := hans
    obtain ⟨aF, cF, aR, cR, rfl, rfl, hlF, hlR, hcF, -⟩ := st_shapes hst
    have HB1 := Lib.hid (HBV.out.trans (hb1.mono HBV.out.size))
    have HC1 : Hid (W1.heap[w.heap.size]? = some (.cells #[.string (mkB nm), .slice fa n fc] 48 (0, 0))) := (hb1.block _ (by omega)).trans HCV.out
    have HCF := Lib.hid hcF
    have HFF := Lib.hid hFF
    have HRR : Hid (allB (atB D fun _ p => !knownP fs p.1.num p.1.ty) D.length = R) := by
      refine (?_ : _ = _)
      rw [← HR.out]; unfold noneOf allA; rw [hsp]
    obtain ⟨m, hm⟩ : ∃ m, xs.length = m := ⟨_, rfl⟩
    have HM : Hid (D.length = m) := by
      refine (?_ : _ = _)
      rw [← hm, hFF.len]
    have hmb : m ≤ 100000 := by
      have h1 := spl_len _ _ D (ints_ok s) hsp
      rw [ints_len] at h1
      have := HM.out
      omega
    rw [hm] at hlF ⊢
    have HMX := Lib.hid hm
    have h1s : w.heap.size + 1 ≤ W1.heap.size := by have := hb1.size; omega
    clear hst hFF hFR hb1 hcF hsp hm hlR HR HBV HCV hVl
    go_wp2_with fail
    go_loopw [21] (fun i wr => ∃ (k : Nat), i = .int .i64 (k : Int) ∧ k ≤ m ∧ allB (atB D fun _ p => !knownP fs p.1.num p.1.ty) k = true ∧ Below W1.heap.size W1 wr) (fun i _ => m - (intOf i).toNat)
    case atStart => exact ⟨0, rfl, Nat.zero_le _, rfl, Below.refl _ _⟩
    case round =>
      generalize wr = w1 at *
      obtain ⟨k, rfl, hk, hall, hbel⟩ := hrel
      have HBE := Lib.hid hbel
      have HA := Lib.hid hall
      have HBW := Lib.hid (HB1.out.trans (hbel.mono HB1.out.size))
      have hws := hbel.size
      by_cases hkn : k < m
      · obtain ⟨f, p, hf, hp, hsay⟩ := fits_at HFF.out k (by have := HM.out; omega)
        obtain ⟨g, hag, e0, e1, e2, e3, -, hg⟩ := HCF.out k f hf
        subst hag
        have e0 : w1.cell? ⟨g, k * 4, none⟩ = some (.int .i64 f.num) := by rw [hbel.cell hg]; exact e0
        have e1 : w1.cell? ⟨g, k * 4 + 1, none⟩ = some (.int .i64 f.ty) := by rw [hbel.cell hg]; exact e1
        have e2 : w1.cell? ⟨g, k * 4 + 2, none⟩ = some (.int .u64 f.n) := by rw [hbel.cell hg]; exact e2
        have e3 : w1.cell? ⟨g, k * 4 + 3, none⟩ = some (.slice f.a f.len f.cap) := by rw [hbel.cell hg]; exact e3
        have HKB : Hid (atB D (fun _ p => !knownP fs p.1.num p.1.ty) k = !knownP fs f.num f.ty) := by
          refine (?_ : _ = _)
          rw [atB_some hp]
          have h1 : f.num = p.1.num := congrArg (fun t => t.1) hsay
          have h2 : f.ty = p.1.ty := congrArg (fun t => t.2.1) hsay
          rw [h1, h2]
        have hk0 : (0 : Int) ≤ (k : Int) := by omega
        have hk1 : (k : Int) < (m : Int) := by omega
        have hwq : IntKind.i64.wrap ((k : Int) + 1) = (k : Int) + 1 := by rw [IntKind.wrap_i64]; omega
        have hc1 := (hbel.block _ (by omega)).trans HC1.out
        have hKn := HKN.out f.num f.ty
        obtain ⟨B, hB⟩ : ∃ B, knownP fs f.num f.ty = B := ⟨_, rfl⟩
        rw [hB] at HKB
        simp only [hB] at hKn
        clear hf hp hsay hbel hall hB
        obtain ⟨fnum, fty, fn, fa', flen, fcap, fd⟩ := f
        dsimp only at e0 e1 e2 e3 hKn
        have hC : (w1.alloc (.cells #[.int .i64 fnum, .int .i64 fty, .int .u64 fn, .slice fa' flen fcap] 106)).heap[w1.heap.size]? = some (.cells #[.int .i64 fnum, .int .i64 fty, .int .u64 fn, .slice fa' flen fcap] 106 (0, 0)) := alloc_heap_new _ _
        have hCb : Below w1.heap.size w1 (w1.alloc (.cells #[.int .i64 fnum, .int .i64 fty, .int .u64 fn, .slice fa' flen fcap] 106)) := (Below.refl _ w1).alloc (Nat.le_refl _) _
        go_upto_region 7 with fail
        generalize (w1.alloc (.cells #[.int .i64 fnum, .int .i64 fty, .int .u64 fn, .slice fa' flen fcap] 106)) = X at *
        have hBX := HBW.out.trans (hCb.mono (by omega))
        have HBX := Lib.hid hBX
        have HBX1 := Lib.hid (HBE.out.trans (hCb.mono hws))
        have l0 : X.cell? ⟨w1.heap.size, 0, none⟩ = some (.int .i64 fnum) := cell_at hC 0 rfl
        have l1 : X.cell? ⟨w1.heap.size, 1, none⟩ = some (.int .i64 fty) := cell_at hC 1 rfl
        have hcX := (hCb.block _ (by omega)).trans hc1
        have d0 : X.cell? ⟨w.heap.size, 0, none⟩ = some (.string (mkB nm)) := cell_at hcX 0 rfl
        have d1 : X.cell? ⟨w.heap.size, 1, none⟩ = some (.slice fa n fc) := cell_at hcX 1 rfl
        have h := hKn X hBX
        clear hC hCb hcX hc1 hKn hBX e0 e1 e2 e3
        go_wp2_with fail
        refine h.mono ?_
        rintro e W2 ⟨rfl, hb2⟩
        have HB2 := Lib.hid (HBX.out.trans (hb2.mono HBX.out.size))
        have HBR := Lib.hid (HBX1.out.trans (hb2.mono HBX1.out.size))
        clear hb2 h l0 l1 d0 d1
        cases B
        case true =>
          have e : R = false := by rw [← HRR.out]; exact allB_no HKB.out (by have := HM.out; omega)
          subst e
          go_wp2_with fail
          go_ret
          exact ⟨rfl, HB2.out⟩
        case false =>
          go_wp2_with fail
          go_roundw
          case rel => exact ⟨k + 1, by go_num, by omega, allB_step HA.out HKB.out, HBR.out⟩
          case measure => simp [intOf]; omega
      · have hkn' : ¬ (k : Int) < (m : Int) := by omega
        have e : R = true := by
          have hkk : k = D.length := by have := HM.out; omega
          rw [← HRR.out, ← hkk]; exact HA.out
        subst e
        go_wp2_with fail
        go_ret
        exact ⟨rfl, HBW.out⟩
end Go.Proofs.YtknijddlacmelaaDoor
