/-
  The walks over which field is meant, and which is known: the program's and the document's.
-/
import Derived.Test.YteajlfgbmefncaaGreatDoorM7
import Derived.Test.YteajlfgbmefncaaGreatDoorM9
namespace Go.Proofs.YteajlfgbmefncaaGreatDoor
set_option linter.unusedVariables false
open Go.ChangeShapes Go.WideShapes Go.ChangeAt Go.RowKit

set_option maxHeartbeats 4000000 in
set_option maxRecDepth 20000 in
theorem typeFits_any (x : FD) (ty : Int) (w : World) : Calls Tryz.prog 80 #[.agg #[.int .i64 x.num, .string (mkB x.name), .int .i64 x.kind, .bool x.rep, .int .i64 x.type], .int .i64 ty] w fun e w' => e = .returned (.bool (typeFits x ty)) ∧ Below w.heap.size w w' := by
  obtain ⟨num, name, kind, rep, type⟩ := x
  dsimp only
  obtain ⟨Y, hY, hC, hb, hYs⟩ := box_new w #[.int .i64 num, .string (mkB name), .int .i64 kind, .bool rep, .int .i64 type] 51
  have HY := Lib.hid hY
  have HB := Lib.hid hb
  have c2 : Y.cell? ⟨w.heap.size, 2, none⟩ = some (.int .i64 kind) := cell_at hC 2 rfl
  have c3 : Y.cell? ⟨w.heap.size, 3, none⟩ = some (.bool rep) := cell_at hC 3 rfl
  have h := ownT_any kind Y
  obtain ⟨R, hR⟩ : ∃ R, typeFits ⟨num, name, kind, rep, type⟩ ty = R := ⟨_, rfl⟩
  have HR : Hid ((decide (ty = ownT kind) || (rep && decide (ty = 2))) = R) := hR
  rw [hR]
  obtain ⟨t, ht⟩ : ∃ t, ownT kind = t := ⟨_, rfl⟩
  rw [ht] at h HR
  clear ht hR hY hb hC hYs
  by_cases h1 : ty = t
  · subst h1
    have e : R = true := by rw [← HR.out]; simp
    subst e
    go_enter Tryz.func80, Tryz.ntmps80
    go_upto_region 1 with fail
    rw [HY.out]
    go_wp2_with fail
    refine h.mono ?_
    rintro e W ⟨rfl, hW⟩
    have hW := hW.symm
    subst hW
    go_wp2_with fail
    go_ret
    exact ⟨rfl, HB.out⟩
  have h1' : (ty == t) = false := beq_eq_false_iff_ne.2 h1
  cases rep
  · have e : R = false := by rw [← HR.out]; simp [h1]
    subst e
    go_enter Tryz.func80, Tryz.ntmps80
    go_upto_region 1 with fail
    rw [HY.out]
    go_wp2_with fail
    refine h.mono ?_
    rintro e W ⟨rfl, hW⟩
    have hW := hW.symm
    subst hW
    go_wp2_with fail
    go_ret
    exact ⟨rfl, HB.out⟩
  · have e : R = (ty == 2) := by rw [← HR.out]; simp [h1]; rfl
    subst e
    go_enter Tryz.func80, Tryz.ntmps80
    go_upto_region 1 with fail
    rw [HY.out]
    go_wp2_with fail
    refine h.mono ?_
    rintro e W ⟨rfl, hW⟩
    have hW := hW.symm
    subst hW
    go_wp2_with fail
    go_ret
    exact ⟨rfl, HB.out⟩
set_option maxHeartbeats 8000000 in
set_option maxRecDepth 20000 in
theorem knownP_any (nm : List UInt8) (fa : Option Addr) (n fc : Nat) (fs : List FD) (num ty : Int) (w : World) (hn : fs.length = n) (hl : n ≤ 100000) (hH : RowsIn w (fun b => b < w.heap.size) 5 fdrow (.slice fa n fc) fs) :
    Calls Tryz.prog 53 #[.agg #[.string (mkB nm), .slice fa n fc], .int .i64 num, .int .i64 ty] w fun e w' => e = .returned (.bool (knownP fs num ty)) ∧ Below w.heap.size w w' := by
  obtain ⟨R, hR⟩ : ∃ R, knownP fs num ty = R := ⟨_, rfl⟩
  have HR : Hid ((!allB (atB fs fun _ f => !knownB num ty f) fs.length) = R) := hR
  rw [hR]
  clear hR
  obtain ⟨Y, hY, hC, hb, hYs⟩ := box_new w #[.string (mkB nm), .slice fa n fc] 54
  have HY := Lib.hid hY
  have HB := Lib.hid hb
  have HN := Lib.hid hn
  have HH := Lib.hid hH
  have HC := Lib.hid hC
  have c1 : Y.cell? ⟨w.heap.size, 1, none⟩ = some (.slice fa n fc) := cell_at hC 1 rfl
  have hYl : w.heap.size + 1 ≤ Y.heap.size := by omega
  clear hn hH hC hY hb hYs
  go_enter Tryz.func53, Tryz.ntmps53
  go_upto_region 1 with fail
  rw [HY.out]
  go_wp2_with fail
  go_loopw [12] (fun i wr => ∃ (k : Nat), i = .int .i64 (k : Int) ∧ k ≤ n ∧ allB (atB fs fun _ f => !knownB num ty f) k = true ∧ Below w.heap.size w wr) (fun i _ => n - (intOf i).toNat)
  case atStart => exact ⟨0, rfl, Nat.zero_le _, rfl, HB.out⟩
  case round =>
    generalize wr = w1 at *
    obtain ⟨k, rfl, hk, hall, hbel⟩ := hrel
    have HBE := Lib.hid hbel
    have HA := Lib.hid hall
    have hws := hbel.size
    clear hbel hall c1
    by_cases hkn : k < n
    · skip
      obtain ⟨y, hy⟩ : ∃ y, fs[k]? = some y := ⟨_, List.getElem?_eq_getElem (by have := HN.out; omega)⟩
      obtain ⟨g, oo, c0, hsl, hg, e0, e1, e2, e3, e4⟩ := fd_at HH.out (W := w1) (fun b hb => HBE.out.block b hb) hy
      rw [HN.out] at hsl
      obtain ⟨rfl, rfl⟩ := slice_two hsl
      have HYY := Lib.hid hy
      have hk0 : (0 : Int) ≤ (k : Int) := by omega
      have hk1 : (k : Int) < (n : Int) := by omega
      have hwq : IntKind.i64.wrap ((k : Int) + 1) = (k : Int) + 1 := by rw [IntKind.wrap_i64]; omega
      clear hsl hy
      have hC : (w1.alloc (.cells #[.int .i64 y.num, .string (mkB y.name), .int .i64 y.kind, .bool y.rep, .int .i64 y.type] 51)).heap[w1.heap.size]? = some (.cells #[.int .i64 y.num, .string (mkB y.name), .int .i64 y.kind, .bool y.rep, .int .i64 y.type] 51 (0, 0)) := alloc_heap_new _ _
      have hCb : Below w1.heap.size w1 (w1.alloc (.cells #[.int .i64 y.num, .string (mkB y.name), .int .i64 y.kind, .bool y.rep, .int .i64 y.type] 51)) := (Below.refl _ w1).alloc (Nat.le_refl _) _
      go_upto_region 4 with fail
      generalize (w1.alloc (.cells #[.int .i64 y.num, .string (mkB y.name), .int .i64 y.kind, .bool y.rep, .int .i64 y.type] 51)) = X at *
      have HBX := Lib.hid (HBE.out.trans (hCb.mono hws))
      have l0 : X.cell? ⟨w1.heap.size, 0, none⟩ = some (.int .i64 y.num) := cell_at hC 0 rfl
      have l1 : X.cell? ⟨w1.heap.size, 1, none⟩ = some (.string (mkB y.name)) := cell_at hC 1 rfl
      have l2 : X.cell? ⟨w1.heap.size, 2, none⟩ = some (.int .i64 y.kind) := cell_at hC 2 rfl
      have l3 : X.cell? ⟨w1.heap.size, 3, none⟩ = some (.bool y.rep) := cell_at hC 3 rfl
      have l4 : X.cell? ⟨w1.heap.size, 4, none⟩ = some (.int .i64 y.type) := cell_at hC 4 rfl
      have h := typeFits_any y ty X
      have HKB : Hid (atB fs (fun _ f => !knownB num ty f) k = !(decide (y.num = num) && typeFits y ty)) := atB_some HYY.out
      clear hC hCb e0 e1 e2 e3 e4
      by_cases hnum : y.num = num
      case neg =>
        have hnb : (y.num == num) = false := beq_eq_false_iff_ne.2 hnum
        have HK2 : Hid (atB fs (fun _ f => !knownB num ty f) k = true) := by
          refine (?_ : _ = _)
          rw [HKB.out, decide_eq_false hnum]; rfl
        clear h HKB
        go_wp2_with fail
        go_roundw
        case rel => exact ⟨k + 1, by go_num, by omega, allB_step HA.out HK2.out, HBX.out⟩
        case measure => simp [intOf]; omega
      obtain ⟨b, hb⟩ : ∃ b, typeFits y ty = b := ⟨_, rfl⟩
      rw [hb, decide_eq_true hnum] at HKB
      rw [hb] at h
      have hnb : (y.num == num) = true := beq_iff_eq.2 hnum
      clear hb hnum
      go_wp2_with fail
      refine h.mono ?_
      rintro e W2 ⟨rfl, hb2⟩
      have HB2 := Lib.hid (HBX.out.trans (hb2.mono HBX.out.size))
      clear hb2 h l0 l1 l2 l3 l4
      cases b
      case false =>
        go_wp2_with fail
        go_roundw
        case rel => exact ⟨k + 1, by go_num, by omega, allB_step HA.out HKB.out, HB2.out⟩
        case measure => simp [intOf]; omega
      case true =>
        have e : R = true := by rw [← HR.out, allB_no (j := k) HKB.out (by have := HN.out; omega)]; rfl
        subst e
        go_wp2_with fail
        go_ret
        exact ⟨rfl, HB2.out⟩
    · have hkn' : ¬ (k : Int) < (n : Int) := by omega
      have e : R = false := by
        have hkk : k = fs.length := by have := HN.out; omega
        rw [← HR.out, ← hkk, HA.out]; rfl
      subst e
      go_wp2_with fail
      go_ret
      exact ⟨rfl, HBE.out⟩
theorem set5_all {w : World} {B : Nat} {T : TypeId} {z0 z1 z2 z3 z4 : Value} (h : w.heap[B]? = some (.cells #[z0, z1, z2, z3, z4] T (0, 0))) (x0 x1 x2 x3 x4 : Value) :
    ∃ Y, (((((w.setCell ⟨B, 0, none⟩ x0).setCell ⟨B, 1, none⟩ x1).setCell ⟨B, 2, none⟩ x2).setCell ⟨B, 3, none⟩ x3).setCell ⟨B, 4, none⟩ x4) = Y ∧ Y.heap[B]? = some (.cells #[x0, x1, x2, x3, x4] T (0, 0)) ∧ (∀ b, b ≠ B → Y.heap[b]? = w.heap[b]?) ∧ Y.heap.size = w.heap.size ∧ Below B w Y := by
  have h1 : (w.setCell ⟨B, 0, none⟩ x0).heap[B]? = some (.cells #[x0, z1, z2, z3, z4] T (0, 0)) := setCell_heap h _
  have h2 : ((w.setCell ⟨B, 0, none⟩ x0).setCell ⟨B, 1, none⟩ x1).heap[B]? = some (.cells #[x0, x1, z2, z3, z4] T (0, 0)) := setCell_heap h1 _
  have h3 : (((w.setCell ⟨B, 0, none⟩ x0).setCell ⟨B, 1, none⟩ x1).setCell ⟨B, 2, none⟩ x2).heap[B]? = some (.cells #[x0, x1, x2, z3, z4] T (0, 0)) := setCell_heap h2 _
  have h4 : ((((w.setCell ⟨B, 0, none⟩ x0).setCell ⟨B, 1, none⟩ x1).setCell ⟨B, 2, none⟩ x2).setCell ⟨B, 3, none⟩ x3).heap[B]? = some (.cells #[x0, x1, x2, x3, z4] T (0, 0)) := setCell_heap h3 _
  have h5 : (((((w.setCell ⟨B, 0, none⟩ x0).setCell ⟨B, 1, none⟩ x1).setCell ⟨B, 2, none⟩ x2).setCell ⟨B, 3, none⟩ x3).setCell ⟨B, 4, none⟩ x4).heap[B]? = some (.cells #[x0, x1, x2, x3, x4] T (0, 0)) := setCell_heap h4 _
  have hb : Below B w (((((w.setCell ⟨B, 0, none⟩ x0).setCell ⟨B, 1, none⟩ x1).setCell ⟨B, 2, none⟩ x2).setCell ⟨B, 3, none⟩ x3).setCell ⟨B, 4, none⟩ x4) := ((((((Below.refl B w).setCell (p := ⟨B, 0, none⟩) (Nat.le_refl _) x0).setCell (p := ⟨B, 1, none⟩) (Nat.le_refl _) x1).setCell (p := ⟨B, 2, none⟩) (Nat.le_refl _) x2).setCell (p := ⟨B, 3, none⟩) (Nat.le_refl _) x3).setCell (p := ⟨B, 4, none⟩) (Nat.le_refl _) x4)
  refine ⟨_, rfl, h5, fun b hb => ?_, by simp, hb⟩
  rw [Below.heap_setCell _ _ _ _ (show b ≠ (⟨B, 4, none⟩ : Addr).block from hb), Below.heap_setCell _ _ _ _ (show b ≠ (⟨B, 3, none⟩ : Addr).block from hb), Below.heap_setCell _ _ _ _ (show b ≠ (⟨B, 2, none⟩ : Addr).block from hb), Below.heap_setCell _ _ _ _ (show b ≠ (⟨B, 1, none⟩ : Addr).block from hb), Below.heap_setCell _ _ _ _ (show b ≠ (⟨B, 0, none⟩ : Addr).block from hb)]
theorem set7_all {w : World} {B : Nat} {T : TypeId} {z0 z1 z2 z3 z4 z5 z6 : Value} (h : w.heap[B]? = some (.cells #[z0, z1, z2, z3, z4, z5, z6] T (0, 0))) (x0 x1 x2 x3 x4 x5 x6 : Value) :
    ∃ Y, (((((((w.setCell ⟨B, 0, none⟩ x0).setCell ⟨B, 1, none⟩ x1).setCell ⟨B, 2, none⟩ x2).setCell ⟨B, 3, none⟩ x3).setCell ⟨B, 4, none⟩ x4).setCell ⟨B, 5, none⟩ x5).setCell ⟨B, 6, none⟩ x6) = Y ∧ Y.heap[B]? = some (.cells #[x0, x1, x2, x3, x4, x5, x6] T (0, 0)) ∧ (∀ b, b ≠ B → Y.heap[b]? = w.heap[b]?) ∧ Y.heap.size = w.heap.size ∧ Below B w Y := by
  have h1 : (w.setCell ⟨B, 0, none⟩ x0).heap[B]? = some (.cells #[x0, z1, z2, z3, z4, z5, z6] T (0, 0)) := setCell_heap h _
  have h2 : ((w.setCell ⟨B, 0, none⟩ x0).setCell ⟨B, 1, none⟩ x1).heap[B]? = some (.cells #[x0, x1, z2, z3, z4, z5, z6] T (0, 0)) := setCell_heap h1 _
  have h3 : (((w.setCell ⟨B, 0, none⟩ x0).setCell ⟨B, 1, none⟩ x1).setCell ⟨B, 2, none⟩ x2).heap[B]? = some (.cells #[x0, x1, x2, z3, z4, z5, z6] T (0, 0)) := setCell_heap h2 _
  have h4 : ((((w.setCell ⟨B, 0, none⟩ x0).setCell ⟨B, 1, none⟩ x1).setCell ⟨B, 2, none⟩ x2).setCell ⟨B, 3, none⟩ x3).heap[B]? = some (.cells #[x0, x1, x2, x3, z4, z5, z6] T (0, 0)) := setCell_heap h3 _
  have h5 : (((((w.setCell ⟨B, 0, none⟩ x0).setCell ⟨B, 1, none⟩ x1).setCell ⟨B, 2, none⟩ x2).setCell ⟨B, 3, none⟩ x3).setCell ⟨B, 4, none⟩ x4).heap[B]? = some (.cells #[x0, x1, x2, x3, x4, z5, z6] T (0, 0)) := setCell_heap h4 _
  have h6 : ((((((w.setCell ⟨B, 0, none⟩ x0).setCell ⟨B, 1, none⟩ x1).setCell ⟨B, 2, none⟩ x2).setCell ⟨B, 3, none⟩ x3).setCell ⟨B, 4, none⟩ x4).setCell ⟨B, 5, none⟩ x5).heap[B]? = some (.cells #[x0, x1, x2, x3, x4, x5, z6] T (0, 0)) := setCell_heap h5 _
  have h7 : (((((((w.setCell ⟨B, 0, none⟩ x0).setCell ⟨B, 1, none⟩ x1).setCell ⟨B, 2, none⟩ x2).setCell ⟨B, 3, none⟩ x3).setCell ⟨B, 4, none⟩ x4).setCell ⟨B, 5, none⟩ x5).setCell ⟨B, 6, none⟩ x6).heap[B]? = some (.cells #[x0, x1, x2, x3, x4, x5, x6] T (0, 0)) := setCell_heap h6 _
  have hb : Below B w (((((((w.setCell ⟨B, 0, none⟩ x0).setCell ⟨B, 1, none⟩ x1).setCell ⟨B, 2, none⟩ x2).setCell ⟨B, 3, none⟩ x3).setCell ⟨B, 4, none⟩ x4).setCell ⟨B, 5, none⟩ x5).setCell ⟨B, 6, none⟩ x6) := ((((((((Below.refl B w).setCell (p := ⟨B, 0, none⟩) (Nat.le_refl _) x0).setCell (p := ⟨B, 1, none⟩) (Nat.le_refl _) x1).setCell (p := ⟨B, 2, none⟩) (Nat.le_refl _) x2).setCell (p := ⟨B, 3, none⟩) (Nat.le_refl _) x3).setCell (p := ⟨B, 4, none⟩) (Nat.le_refl _) x4).setCell (p := ⟨B, 5, none⟩) (Nat.le_refl _) x5).setCell (p := ⟨B, 6, none⟩) (Nat.le_refl _) x6)
  refine ⟨_, rfl, h7, fun b hb => ?_, by simp, hb⟩
  rw [Below.heap_setCell _ _ _ _ (show b ≠ (⟨B, 6, none⟩ : Addr).block from hb), Below.heap_setCell _ _ _ _ (show b ≠ (⟨B, 5, none⟩ : Addr).block from hb), Below.heap_setCell _ _ _ _ (show b ≠ (⟨B, 4, none⟩ : Addr).block from hb), Below.heap_setCell _ _ _ _ (show b ≠ (⟨B, 3, none⟩ : Addr).block from hb), Below.heap_setCell _ _ _ _ (show b ≠ (⟨B, 2, none⟩ : Addr).block from hb), Below.heap_setCell _ _ _ _ (show b ≠ (⟨B, 1, none⟩ : Addr).block from hb), Below.heap_setCell _ _ _ _ (show b ≠ (⟨B, 0, none⟩ : Addr).block from hb)]
def DefAns (fs : List FD) (num : Int) (w : World) (e : Ending) (w' : World) : Prop := ∃ (x : FD) (b : Bool), e = .returned (.tuple #[.agg #[.int .i64 x.num, .string (mkB x.name), .int .i64 x.kind, .bool x.rep, .int .i64 x.type], .bool b]) ∧ (b = true → firstF fs num = some x) ∧ (b = false → firstF fs num = none) ∧ Below w.heap.size w w'
set_option maxHeartbeats 8000000 in
set_option maxRecDepth 20000 in
theorem defined_any (nm : List UInt8) (fa : Option Addr) (n fc : Nat) (fs : List FD) (num : Int) (w : World) (hn : fs.length = n) (hl : n ≤ 100000) (hH : RowsIn w (fun b => b < w.heap.size) 5 fdrow (.slice fa n fc) fs) :
    Calls Tryz.prog 58 #[.agg #[.string (mkB nm), .slice fa n fc], .int .i64 num] w fun e w' => DefAns fs num w e w' := by
  obtain ⟨V, hV, hD, hVb, hVs⟩ := box_new (w.alloc (.cells #[.string (mkB nm), .slice fa n fc] 54)) #[.int .i64 0, .string ⟨#[]⟩, .int .i64 0, .bool false, .int .i64 0] 51
  have hBV : Below w.heap.size w V := ((Below.refl _ w).alloc (Nat.le_refl _) _).trans (hVb.mono (by simp))
  have hD0 : V.heap[w.heap.size + 1]? = some (.cells #[.int .i64 0, .string ⟨#[]⟩, .int .i64 0, .bool false, .int .i64 0] 51 (0, 0)) := by simpa using hD
  have hC0 : V.heap[w.heap.size]? = some (.cells #[.string (mkB nm), .slice fa n fc] 54 (0, 0)) := (hVb.block _ (by simp)).trans (alloc_heap_new _ _)
  have HV := Lib.hid hV
  have HBV := Lib.hid hBV
  have HD := Lib.hid hD0
  have hVs2 : w.heap.size + 2 ≤ V.heap.size := by rw [hVs]; simp
  have HN := Lib.hid hn
  have HH := Lib.hid hH
  have c1 : V.cell? ⟨w.heap.size, 1, none⟩ = some (.slice fa n fc) := cell_at hC0 1 rfl
  clear hn hH hC0 hV hVb hVs hD hD0 hBV
  go_enter Tryz.func58, Tryz.ntmps58
  go_upto_region 1 with fail
  rw [HV.out]
  go_wp2_with fail
  go_loopw [11] (fun i wr => ∃ (k : Nat), i = .int .i64 (k : Int) ∧ k ≤ n ∧ (∀ (j : Nat) (g : FD), j < k → fs[j]? = some g → g.num ≠ num) ∧ Below w.heap.size w wr ∧ w.heap.size + 2 ≤ wr.heap.size ∧ wr.heap[w.heap.size + 1]? = some (.cells #[.int .i64 0, .string ⟨#[]⟩, .int .i64 0, .bool false, .int .i64 0] 51 (0, 0))) (fun i _ => n - (intOf i).toNat)
  case atStart => exact ⟨0, rfl, Nat.zero_le _, fun j g h => absurd h (Nat.not_lt_zero _), HBV.out, hVs2, HD.out⟩
  case round =>
    generalize wr = w1 at *
    obtain ⟨k, rfl, hk, hall, hbel, hws, hz⟩ := hrel
    have HBE := Lib.hid hbel
    have HA := Lib.hid hall
    have HZ := Lib.hid hz
    clear hbel hall c1 hz HD HBV hVs2
    by_cases hkn : k < n
    · skip
      obtain ⟨y, hy⟩ : ∃ y, fs[k]? = some y := ⟨_, List.getElem?_eq_getElem (by have := HN.out; omega)⟩
      obtain ⟨g, oo, c0, hsl, hg, e0, e1, e2, e3, e4⟩ := fd_at HH.out (W := w1) (fun b hb => HBE.out.block b hb) hy
      rw [HN.out] at hsl
      obtain ⟨rfl, rfl⟩ := slice_two hsl
      have HYY := Lib.hid hy
      have hk0 : (0 : Int) ≤ (k : Int) := by omega
      have hk1 : (k : Int) < (n : Int) := by omega
      have hwq : IntKind.i64.wrap ((k : Int) + 1) = (k : Int) + 1 := by rw [IntKind.wrap_i64]; omega
      clear hsl hy
      have hC : (w1.alloc (.cells #[.int .i64 y.num, .string (mkB y.name), .int .i64 y.kind, .bool y.rep, .int .i64 y.type] 51)).heap[w1.heap.size]? = some (.cells #[.int .i64 y.num, .string (mkB y.name), .int .i64 y.kind, .bool y.rep, .int .i64 y.type] 51 (0, 0)) := alloc_heap_new _ _
      have hCb : Below w1.heap.size w1 (w1.alloc (.cells #[.int .i64 y.num, .string (mkB y.name), .int .i64 y.kind, .bool y.rep, .int .i64 y.type] 51)) := (Below.refl _ w1).alloc (Nat.le_refl _) _
      go_upto_region 4 with fail
      generalize (w1.alloc (.cells #[.int .i64 y.num, .string (mkB y.name), .int .i64 y.kind, .bool y.rep, .int .i64 y.type] 51)) = X at *
      have HBX := Lib.hid (HBE.out.trans (hCb.mono (by omega)))
      have hZX : X.heap[w.heap.size + 1]? = some (.cells #[.int .i64 0, .string ⟨#[]⟩, .int .i64 0, .bool false, .int .i64 0] 51 (0, 0)) := (hCb.block _ (by omega)).trans HZ.out
      have hXs : w1.heap.size + 1 ≤ X.heap.size := by have := (Array.getElem?_eq_some_iff.1 hC).1; omega
      have HZX := Lib.hid hZX
      have l0 : X.cell? ⟨w1.heap.size, 0, none⟩ = some (.int .i64 y.num) := cell_at hC 0 rfl
      have l1 : X.cell? ⟨w1.heap.size, 1, none⟩ = some (.string (mkB y.name)) := cell_at hC 1 rfl
      have l2 : X.cell? ⟨w1.heap.size, 2, none⟩ = some (.int .i64 y.kind) := cell_at hC 2 rfl
      have l3 : X.cell? ⟨w1.heap.size, 3, none⟩ = some (.bool y.rep) := cell_at hC 3 rfl
      have l4 : X.cell? ⟨w1.heap.size, 4, none⟩ = some (.int .i64 y.type) := cell_at hC 4 rfl
      clear hC hCb e0 e1 e2 e3 e4
      by_cases hnum : y.num = num
      case neg =>
        have hnb : (y.num == num) = false := beq_eq_false_iff_ne.2 hnum
        have HNE := Lib.hid hnum
        clear hZX hnum
        go_wp2_with fail
        go_roundw
        case rel => exact ⟨k + 1, by go_num, by omega, all_next HA.out HYY.out HNE.out, HBX.out, by omega, HZX.out⟩
        case measure => simp [intOf]; omega
      have hnb : (y.num == num) = true := beq_iff_eq.2 hnum
      have HF1 : Hid (firstF fs num = some y) := firstF_is ⟨HYY.out, hnum, HA.out⟩
      have k0 : X.cell? ⟨w.heap.size + 1, 0, none⟩ = some (.int .i64 0) := cell_at hZX 0 rfl
      have kf0 : X.frozen? ⟨w.heap.size + 1, 0, none⟩ = false := frz_at hZX 0
      have k1 : X.cell? ⟨w.heap.size + 1, 1, none⟩ = some (.string ⟨#[]⟩) := cell_at hZX 1 rfl
      have kf1 : X.frozen? ⟨w.heap.size + 1, 1, none⟩ = false := frz_at hZX 1
      have k2 : X.cell? ⟨w.heap.size + 1, 2, none⟩ = some (.int .i64 0) := cell_at hZX 2 rfl
      have kf2 : X.frozen? ⟨w.heap.size + 1, 2, none⟩ = false := frz_at hZX 2
      have k3 : X.cell? ⟨w.heap.size + 1, 3, none⟩ = some (.bool false) := cell_at hZX 3 rfl
      have kf3 : X.frozen? ⟨w.heap.size + 1, 3, none⟩ = false := frz_at hZX 3
      have k4 : X.cell? ⟨w.heap.size + 1, 4, none⟩ = some (.int .i64 0) := cell_at hZX 4 rfl
      have kf4 : X.frozen? ⟨w.heap.size + 1, 4, none⟩ = false := frz_at hZX 4
      obtain ⟨Q, hQ, hQc, _, _, hQb⟩ := set5_all hZX (.int .i64 y.num) (.string (mkB y.name)) (.int .i64 y.kind) (.bool y.rep) (.int .i64 y.type)
      have HQ := Lib.hid hQ
      have HBQ := Lib.hid (HBX.out.trans (hQb.mono (show w.heap.size ≤ w.heap.size + 1 by omega)))
      have HQC := Lib.hid hQc
      clear hQ hQc hQb hZX hnum
      go_wp2_with fail
      rw [HQ.out]
      have r0 := cell_at HQC.out 0 rfl
      have r1 := cell_at HQC.out 1 rfl
      have r2 := cell_at HQC.out 2 rfl
      have r3 := cell_at HQC.out 3 rfl
      have r4 := cell_at HQC.out 4 rfl
      refine bodyPost_ret (v := .tuple #[.agg #[.int .i64 y.num, .string (mkB y.name), .int .i64 y.kind, .bool y.rep, .int .i64 y.type], .bool true]) (by simp [results, Tryz.results58, go_sem, r0, r1, r2, r3, r4]) rfl ?_
      exact ⟨y, true, rfl, fun _ => HF1.out, (fun h => by cases h), HBQ.out⟩
    · have hkn' : ¬ (k : Int) < (n : Int) := by omega
      have HF0 : Hid (firstF fs num = none) := firstF_no fun j g hg => HA.out j g (by have := HN.out; have := (List.getElem?_eq_some_iff.1 hg).1; omega) hg
      have hZX := HZ.out
      have k0 : w1.cell? ⟨w.heap.size + 1, 0, none⟩ = some (.int .i64 0) := cell_at hZX 0 rfl
      have kf0 : w1.frozen? ⟨w.heap.size + 1, 0, none⟩ = false := frz_at hZX 0
      have k1 : w1.cell? ⟨w.heap.size + 1, 1, none⟩ = some (.string ⟨#[]⟩) := cell_at hZX 1 rfl
      have kf1 : w1.frozen? ⟨w.heap.size + 1, 1, none⟩ = false := frz_at hZX 1
      have k2 : w1.cell? ⟨w.heap.size + 1, 2, none⟩ = some (.int .i64 0) := cell_at hZX 2 rfl
      have kf2 : w1.frozen? ⟨w.heap.size + 1, 2, none⟩ = false := frz_at hZX 2
      have k3 : w1.cell? ⟨w.heap.size + 1, 3, none⟩ = some (.bool false) := cell_at hZX 3 rfl
      have kf3 : w1.frozen? ⟨w.heap.size + 1, 3, none⟩ = false := frz_at hZX 3
      have k4 : w1.cell? ⟨w.heap.size + 1, 4, none⟩ = some (.int .i64 0) := cell_at hZX 4 rfl
      have kf4 : w1.frozen? ⟨w.heap.size + 1, 4, none⟩ = false := frz_at hZX 4
      obtain ⟨Q, hQ, hQc, _, _, hQb⟩ := set5_all hZX (.int .i64 0) (.string ⟨#[]⟩) (.int .i64 0) (.bool false) (.int .i64 0)
      have HQ := Lib.hid hQ
      have HBQ := Lib.hid (HBE.out.trans (hQb.mono (show w.heap.size ≤ w.heap.size + 1 by omega)))
      have HQC := Lib.hid hQc
      clear hQ hQc hQb hZX
      go_wp2_with fail
      rw [HQ.out]
      have r0 := cell_at HQC.out 0 rfl
      have r1 := cell_at HQC.out 1 rfl
      have r2 := cell_at HQC.out 2 rfl
      have r3 := cell_at HQC.out 3 rfl
      have r4 := cell_at HQC.out 4 rfl
      refine bodyPost_ret (v := .tuple #[.agg #[.int .i64 0, .string ⟨#[]⟩, .int .i64 0, .bool false, .int .i64 0], .bool false]) (by simp [results, Tryz.results58, go_sem, r0, r1, r2, r3, r4]) rfl ?_
      exact ⟨⟨0, [], 0, false, 0⟩, false, rfl, (fun h => by cases h), fun _ => HF0.out, HBQ.out⟩
def FindAns (fs : List FD) (num : Int) (w : World) (e : Ending) (w' : World) : Prop := ∃ (r : Int), e = .returned (.int .i64 r) ∧ ((r = -1 ∧ NoField fs num) ∨ ∃ (i : Nat) (x : FD), r = (i : Int) ∧ isFirst fs num i x) ∧ Below w.heap.size w w'
set_option maxHeartbeats 8000000 in
set_option maxRecDepth 20000 in
theorem find_any (nm : List UInt8) (fa : Option Addr) (n fc : Nat) (fs : List FD) (num : Int) (w : World) (hn : fs.length = n) (hl : n ≤ 100000) (hH : RowsIn w (fun b => b < w.heap.size) 5 fdrow (.slice fa n fc) fs) :
    Calls Tryz.prog 65 #[.agg #[.string (mkB nm), .slice fa n fc], .int .i64 num] w fun e w' => FindAns fs num w e w' := by
  obtain ⟨Y, hY, hC, hb, hYs⟩ := box_new w #[.string (mkB nm), .slice fa n fc] 54
  have HY := Lib.hid hY
  have HB := Lib.hid hb
  have HN := Lib.hid hn
  have HH := Lib.hid hH
  have HC := Lib.hid hC
  have c1 : Y.cell? ⟨w.heap.size, 1, none⟩ = some (.slice fa n fc) := cell_at hC 1 rfl
  have hYl : w.heap.size + 1 ≤ Y.heap.size := by omega
  clear hn hH hC hY hb hYs
  go_enter Tryz.func65, Tryz.ntmps65
  go_upto_region 1 with fail
  rw [HY.out]
  go_wp2_with fail
  go_loopw [9] (fun i wr => ∃ (k : Nat), i = .int .i64 (k : Int) ∧ k ≤ n ∧ (∀ (j : Nat) (g : FD), j < k → fs[j]? = some g → g.num ≠ num) ∧ wr = Y) (fun i _ => n - (intOf i).toNat)
  case atStart => exact ⟨0, rfl, Nat.zero_le _, fun j g h => absurd h (Nat.not_lt_zero _), rfl⟩
  case round =>
    obtain ⟨k, rfl, hk, hall, hwr⟩ := hrel
    subst hwr
    generalize wr = w1 at *
    have HA := Lib.hid hall
    have HBE := HB
    clear hall
    by_cases hkn : k < n
    · skip
      obtain ⟨y, hy⟩ : ∃ y, fs[k]? = some y := ⟨_, List.getElem?_eq_getElem (by have := HN.out; omega)⟩
      obtain ⟨g, oo, c0, hsl, hg, e0, e1, e2, e3, e4⟩ := fd_at HH.out (W := w1) (fun b hb => HBE.out.block b hb) hy
      rw [HN.out] at hsl
      obtain ⟨rfl, rfl⟩ := slice_two hsl
      have HYY := Lib.hid hy
      have hk0 : (0 : Int) ≤ (k : Int) := by omega
      have hk1 : (k : Int) < (n : Int) := by omega
      have hwq : IntKind.i64.wrap ((k : Int) + 1) = (k : Int) + 1 := by rw [IntKind.wrap_i64]; omega
      clear hsl hy
      clear e1 e2 e3 e4
      by_cases hnum : y.num = num
      case neg =>
        have hnb : (y.num == num) = false := beq_eq_false_iff_ne.2 hnum
        have HNE := Lib.hid hnum
        clear hnum
        go_wp2_with fail
        go_roundw
        case rel => exact ⟨k + 1, by go_num, by omega, all_next HA.out HYY.out HNE.out, (by first | trivial | rfl)⟩
        case measure => simp [intOf]; omega
      have hnb : (y.num == num) = true := beq_iff_eq.2 hnum
      have HF1 : Hid (isFirst fs num k y) := ⟨HYY.out, hnum, HA.out⟩
      clear hnum
      go_wp2_with fail
      go_ret
      exact ⟨_, rfl, .inr ⟨k, y, rfl, HF1.out⟩, HB.out⟩
    · have hkn' : ¬ (k : Int) < (n : Int) := by omega
      have HF0 : Hid (NoField fs num) := fun j g hg => HA.out j g (by have := HN.out; have := (List.getElem?_eq_some_iff.1 hg).1; omega) hg
      go_wp2_with fail
      go_ret
      exact ⟨_, rfl, .inl ⟨rfl, HF0.out⟩, HB.out⟩
set_option maxHeartbeats 8000000 in
set_option maxRecDepth 20000 in
theorem knownR_any (nm : List UInt8) (fa : Option Addr) (n fc : Nat) (fs : List FD) (num ty : Int) (w : World) (hn : fs.length = n) (hl : n ≤ 100000) (hH : RowsIn w (fun b => b < w.heap.size) 5 fdrow (.slice fa n fc) fs) :
    Calls Tryz.prog 39 #[.agg #[.string (mkB nm), .slice fa n fc], .int .i64 num, .int .i64 ty] w fun e w' => e = .returned (.bool (knownR fs num ty)) ∧ Below w.heap.size w w' := by
  obtain ⟨R, hR⟩ : ∃ R, knownR fs num ty = R := ⟨_, rfl⟩
  have HR := Lib.hid hR
  rw [hR]
  clear hR
  obtain ⟨Y, hY, hC, hb, hYs⟩ := box_new w #[.string (mkB nm), .slice fa n fc] 54
  have HY := Lib.hid hY
  have HB := Lib.hid hb
  have HN := Lib.hid hn
  have HH := Lib.hid hH
  have HC := Lib.hid hC
  have c1 : Y.cell? ⟨w.heap.size, 1, none⟩ = some (.slice fa n fc) := cell_at hC 1 rfl
  have hYl : w.heap.size + 1 ≤ Y.heap.size := by omega
  have c0 : Y.cell? ⟨w.heap.size, 0, none⟩ = some (.string (mkB nm)) := cell_at hC 0 rfl
  have h := find_any nm fa n fc fs num Y hn hl ((RowsIn.old hH fun b h => hb.block b h).more fun b h => by have := hb.size; omega)
  clear hn hH hC hY hb hYs
  go_enter Tryz.func39, Tryz.ntmps39
  go_upto_region 1 with fail
  rw [HY.out]
  go_wp2_with fail
  refine h.mono ?_
  rintro e W ⟨r, rfl, hr, hbW⟩
  have HBW := Lib.hid (HB.out.trans (hbW.mono HB.out.size))
  have HWC : Hid (W.heap[w.heap.size]? = _) := (hbW.block _ (by omega)).trans HC.out
  clear h hbW c0 c1
  rcases hr with ⟨rfl, hno⟩ | ⟨i, y, rfl, hfi⟩
  · have e : R = false := by rw [← HR.out]; unfold knownR; rw [firstF_no hno]
    subst e
    clear hno
    go_wp2_with fail
    go_ret
    exact ⟨rfl, HBW.out⟩
  have hil : i < n := by have := (List.getElem?_eq_some_iff.1 hfi.1).1; have := HN.out; omega
  obtain ⟨g, oo, c0, hsl, hg, e0, e1, e2, e3, e4⟩ := fd_at HH.out (W := W) (fun b hb => HBW.out.block b hb) hfi.1
  rw [HN.out] at hsl
  obtain ⟨rfl, rfl⟩ := slice_two hsl
  have HRR : Hid ((decide (ty = wireT y.kind) || (y.rep && (decide (wireT y.kind ≠ 2) && decide (ty = 2)))) = R) := by
    refine (?_ : _ = _)
    rw [← HR.out]; unfold knownR; rw [firstF_is hfi]
  have c1 : W.cell? ⟨w.heap.size, 1, none⟩ = some (.slice (some ⟨g, oo, none⟩) n fc) := cell_at HWC.out 1 rfl
  have hi0 : (0 : Int) ≤ (i : Int) := by omega
  have hi1 : (i : Int) < (n : Int) := by omega
  have hi2 : ¬ (i : Int) < 0 := by omega
  have hWl : w.heap.size + 1 ≤ W.heap.size := by have := (Array.getElem?_eq_some_iff.1 HWC.out).1; omega
  clear hsl hfi HR hil
  obtain ⟨ynum, yname, ykind, yrep, ytype⟩ := y
  dsimp only at e0 e1 e2 e3 e4 HRR
  have hC : (W.alloc (.cells #[.int .i64 ynum, .string (mkB yname), .int .i64 ykind, .bool yrep, .int .i64 ytype] 51)).heap[W.heap.size]? = some (.cells #[.int .i64 ynum, .string (mkB yname), .int .i64 ykind, .bool yrep, .int .i64 ytype] 51 (0, 0)) := alloc_heap_new _ _
  have hCb : Below W.heap.size W (W.alloc (.cells #[.int .i64 ynum, .string (mkB yname), .int .i64 ykind, .bool yrep, .int .i64 ytype] 51)) := (Below.refl _ W).alloc (Nat.le_refl _) _
  go_upto_region 5 with fail
  generalize (W.alloc (.cells #[.int .i64 ynum, .string (mkB yname), .int .i64 ykind, .bool yrep, .int .i64 ytype] 51)) = X at *
  have HBX := Lib.hid (HBW.out.trans (hCb.mono (by omega)))
  have l2 : X.cell? ⟨W.heap.size, 2, none⟩ = some (.int .i64 ykind) := cell_at hC 2 rfl
  have l3 : X.cell? ⟨W.heap.size, 3, none⟩ = some (.bool yrep) := cell_at hC 3 rfl
  have hwt := fun W => wireT_any ykind W
  have hpk := fun W => packed_any ykind W
  obtain ⟨t, ht⟩ : ∃ t, wireT ykind = t := ⟨_, rfl⟩
  obtain ⟨p, hp⟩ : ∃ p, decide (t ≠ 2) = p := ⟨_, rfl⟩
  rw [ht] at HRR
  rw [hp] at HRR
  simp only [ht, hp] at hwt hpk
  clear hC hCb ht hp e0 e1 e2 e3 e4
  by_cases h1 : ty = t
  · subst h1
    have e : R = true := by rw [← HRR.out]; simp
    subst e
    go_wp2_with fail
    refine (hwt _).mono ?_
    rintro e W3 ⟨rfl, hW⟩
    have hW := hW.symm
    subst hW
    go_wp2_with fail
    go_ret
    exact ⟨rfl, HBX.out⟩
  have h1' : (ty == t) = false := beq_eq_false_iff_ne.2 h1
  cases yrep
  · have e : R = false := by rw [← HRR.out]; simp [h1]
    subst e
    go_wp2_with fail
    refine (hwt _).mono ?_
    rintro e W3 ⟨rfl, hW⟩
    have hW := hW.symm
    subst hW
    go_wp2_with fail
    go_ret
    exact ⟨rfl, HBX.out⟩
  cases p
  · have e : R = false := by rw [← HRR.out]; simp [h1]
    subst e
    go_wp2_with fail
    refine (hwt _).mono ?_
    rintro e W3 ⟨rfl, hW⟩
    have hW := hW.symm
    subst hW
    go_wp2_with fail
    refine (hpk _).mono ?_
    rintro e W3 ⟨rfl, hW⟩
    have hW := hW.symm
    subst hW
    go_wp2_with fail
    go_ret
    exact ⟨rfl, HBX.out⟩
  · have e : R = (ty == 2) := by rw [← HRR.out]; simp [h1]; rfl
    subst e
    go_wp2_with fail
    refine (hwt _).mono ?_
    rintro e W3 ⟨rfl, hW⟩
    have hW := hW.symm
    subst hW
    go_wp2_with fail
    refine (hpk _).mono ?_
    rintro e W3 ⟨rfl, hW⟩
    have hW := hW.symm
    subst hW
    go_wp2_with fail
    go_ret
    exact ⟨rfl, HBX.out⟩
end Go.Proofs.YteajlfgbmefncaaGreatDoor
