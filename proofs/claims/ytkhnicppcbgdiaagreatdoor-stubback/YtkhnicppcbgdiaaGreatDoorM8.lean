/-
  The walk over the program's own rowIn: the names that stand in a method's line.
-/
import Derived.Test.YtkhnicppcbgdiaaGreatDoorM3
import Derived.Test.YtkhnicppcbgdiaaGreatDoorM4
import Derived.Test.YtkhnicppcbgdiaaGreatDoorM7
import Derived.Test.YtkhnicppcbgdiaaGreatDoorM6
import Derived.WalkSpells
namespace Go.Proofs.YtkhnicppcbgdiaaGreatDoor
set_option linter.unusedVariables false
open Go.ChangeShapes Go.WideShapes Go.ChangeAt Go.RowKit

/-- the library's variable that its searching reads holds a number -/
def Mx (w : World) : Prop := ∃ m : Int, w.cell? ⟨laysM145_ren.g 1, 0, none⟩ = some (.int .i64 m)
theorem mx_of {w : World} (h : w.ShapedOpen Tryz.prog) : Mx w := laysM145.s1_3 w h
theorem Mx.below {w w' : World} (h : Mx w) (hb : Below w.heap.size w w') : Mx w' := by
  obtain ⟨m, hm⟩ := h
  exact ⟨m, cell_later hb hm⟩
theorem set5_row {w : World} {B : Nat} {T : TypeId} {z0 z1 z2 z3 z4 : Value} (h : w.heap[B]? = some (.cells #[z0, z1, z2, z3, z4] T (0, 0))) (x0 x1 x2 x3 x4 : Value) :
    ∃ Y, (((((w.setCell ⟨B, 0, none⟩ x0).setCell ⟨B, 1, none⟩ x1).setCell ⟨B, 2, none⟩ x2).setCell ⟨B, 3, none⟩ x3).setCell ⟨B, 4, none⟩ x4) = Y ∧ Y.heap[B]? = some (.cells #[x0, x1, x2, x3, x4] T (0, 0)) ∧ (∀ b, b ≠ B → Y.heap[b]? = w.heap[b]?) ∧ Y.heap.size = w.heap.size ∧ Below B w Y := by
  have h1 : (w.setCell ⟨B, 0, none⟩ x0).heap[B]? = some (.cells #[x0, z1, z2, z3, z4] T (0, 0)) := setCell_heap h _
  have h2 : ((w.setCell ⟨B, 0, none⟩ x0).setCell ⟨B, 1, none⟩ x1).heap[B]? = some (.cells #[x0, x1, z2, z3, z4] T (0, 0)) := setCell_heap h1 _
  have h3 : (((w.setCell ⟨B, 0, none⟩ x0).setCell ⟨B, 1, none⟩ x1).setCell ⟨B, 2, none⟩ x2).heap[B]? = some (.cells #[x0, x1, x2, z3, z4] T (0, 0)) := setCell_heap h2 _
  have h4 : ((((w.setCell ⟨B, 0, none⟩ x0).setCell ⟨B, 1, none⟩ x1).setCell ⟨B, 2, none⟩ x2).setCell ⟨B, 3, none⟩ x3).heap[B]? = some (.cells #[x0, x1, x2, x3, z4] T (0, 0)) := setCell_heap h3 _
  have h5 : (((((w.setCell ⟨B, 0, none⟩ x0).setCell ⟨B, 1, none⟩ x1).setCell ⟨B, 2, none⟩ x2).setCell ⟨B, 3, none⟩ x3).setCell ⟨B, 4, none⟩ x4).heap[B]? = some (.cells #[x0, x1, x2, x3, x4] T (0, 0)) := setCell_heap h4 _
  have hb : Below B w (((((w.setCell ⟨B, 0, none⟩ x0).setCell ⟨B, 1, none⟩ x1).setCell ⟨B, 2, none⟩ x2).setCell ⟨B, 3, none⟩ x3).setCell ⟨B, 4, none⟩ x4) := ((((((Below.refl B w).setCell (p := ⟨B, 0, none⟩) (Nat.le_refl _) x0).setCell (p := ⟨B, 1, none⟩) (Nat.le_refl _) x1).setCell (p := ⟨B, 2, none⟩) (Nat.le_refl _) x2).setCell (p := ⟨B, 3, none⟩) (Nat.le_refl _) x3).setCell (p := ⟨B, 4, none⟩) (Nat.le_refl _) x4)
  refine ⟨_, rfl, h5, fun b hb => ?_, by simp, hb⟩
  rw [Below.heap_setCell _ _ _ _ (show b ≠ (⟨B, 4, none⟩ : Addr).block from hb), Below.heap_setCell _ _ _ _ (show b ≠ (⟨B, 3, none⟩ : Addr).block from hb), Below.heap_setCell _ _ _ _ (show b ≠ (⟨B, 2, none⟩ : Addr).block from hb), Below.heap_setCell _ _ _ _ (show b ≠ (⟨B, 1, none⟩ : Addr).block from hb), Below.heap_setCell _ _ _ _ (show b ≠ (⟨B, 0, none⟩ : Addr).block from hb)]
set_option maxHeartbeats 2000000 in
theorem clone_anyB (s : ByteArray) (w : World) (hs : s.size ≤ 1000000000) :
    Calls Tryz.prog 61 #[.string s] w fun e w' => e = .returned (.string s) ∧ Below w.heap.size w w' := by
  have h := stringslite_Clone s w (by omega)
  go_enter Tryz.func61, Tryz.ntmps61
  go_wp2_with fail
  refine h.mono ?_
  rintro e w1 ⟨rfl, hb⟩
  go_wp2_with fail
  go_ret
  exact ⟨rfl, hb⟩
/-- strings.Cut -/
theorem cut_any (s e : List UInt8) (w : World) (hM : Mx w) (hs : s.length ≤ 1000000000) :
    Calls Tryz.prog 44 #[.string (mkB s), .string (mkB e)] w fun r w' => r = .returned (.tuple #[.string (mkB (Lib.cut s e).1), .string (mkB (Lib.cut s e).2.1), .bool (Lib.cut s e).2.2]) ∧ Below w.heap.size w w' := by
  obtain ⟨m, hm⟩ := hM
  have := strings_Cut (mkB s) (mkB e) m w (by rw [mkB_sz]; omega) hm
  have e1 : ∀ l : List UInt8, (mkB l).data.toList = l := fun l => by simp [mkB]
  rw [e1, e1] at this
  exact this.mono fun r w' ⟨h1, n, h2⟩ => ⟨h1, by rw [h2]; exact ⟨rfl, rfl, rfl, Nat.le_refl _, fun _ _ => rfl⟩⟩
def rrow (r : Rw) : List Value := [.int .i64 r.id, .string (mkB r.sv), .string (mkB r.mt), .string (mkB r.inn), .string (mkB r.out)]
def zeroRw : Rw := ⟨0, [], [], [], []⟩
/-- the names of a method's line, behind its beginning -/
def rowInL (l : List UInt8) : Option Rw :=
  let c1 := Lib.cut l wClient
  let c2 := Lib.cut c1.2.1 wIn
  let c3 := Lib.cut c2.2.1 wMid
  let c4 := Lib.cut c3.2.1 wStat
  if camB c1.1 && camB c2.1 && msgB c3.1 && msgB c4.1 then some ⟨0, c1.1, c2.1, c3.1, c4.1⟩ else none
theorem stP_row (l : List UInt8) : stP l = if wFunc.isPrefixOf l then (match rowInL (l.drop 8) with | none => none | some r => some (some r)) else some none := by
  unfold stP rowInL
  split
  · simp only
    split <;> rfl
  · rfl
def rowE (o : Option Rw) : Ending := .returned (.tuple #[.agg (rrow (o.getD zeroRw)).toArray, .bool o.isSome])
set_option maxHeartbeats 4000000 in
set_option maxRecDepth 20000 in
theorem rowIn_any (l : List UInt8) (w : World) (hM : Mx w) (hs : l.length ≤ 1000000000) :
    Calls Tryz.prog 46 #[.string (mkB l)] w fun e w' => e = rowE (rowInL l) ∧ Below w.heap.size w w' := by
  obtain ⟨c1, hc1⟩ : ∃ c, Lib.cut l wClient = c := ⟨_, rfl⟩
  obtain ⟨c2, hc2⟩ : ∃ c, Lib.cut c1.2.1 wIn = c := ⟨_, rfl⟩
  obtain ⟨c3, hc3⟩ : ∃ c, Lib.cut c2.2.1 wMid = c := ⟨_, rfl⟩
  obtain ⟨c4, hc4⟩ : ∃ c, Lib.cut c3.2.1 wStat = c := ⟨_, rfl⟩
  have HE : Hid (rowInL l = if camB c1.1 && camB c2.1 && msgB c3.1 && msgB c4.1 then some ⟨0, c1.1, c2.1, c3.1, c4.1⟩ else none) := by
    refine (?_ : _ = _)
    unfold rowInL
    simp only [hc1, hc2, hc3, hc4]
  have l1 := cut_len l wClient
  have l2 := cut_len c1.2.1 wIn
  have l3 := cut_len c2.2.1 wMid
  have l4 := cut_len c3.2.1 wStat
  have HV : Hid (Below w.heap.size w (w.alloc (.cells #[.int .i64 0, .string ⟨#[]⟩, .string ⟨#[]⟩, .string ⟨#[]⟩, .string ⟨#[]⟩] 50))) := (Below.refl _ _).alloc (Nat.le_refl _) _
  have hV : (w.alloc (.cells #[.int .i64 0, .string ⟨#[]⟩, .string ⟨#[]⟩, .string ⟨#[]⟩, .string ⟨#[]⟩] 50)).heap[w.heap.size]? = some (.cells #[.int .i64 0, .string ⟨#[]⟩, .string ⟨#[]⟩, .string ⟨#[]⟩, .string ⟨#[]⟩] 50 (0, 0)) := alloc_heap_new _ _
  have HM := Lib.hid hM
  have k1 := fun W hW => cut_any l wClient W hW hs
  have k2 := fun W hW => cut_any c1.2.1 wIn W hW (by rw [hc1] at l1; omega)
  have k3 := fun W hW => cut_any c2.2.1 wMid W hW (by rw [hc1] at l1; rw [hc2] at l2; omega)
  have k4 := fun W hW => cut_any c3.2.1 wStat W hW (by rw [hc1] at l1; rw [hc2] at l2; rw [hc3] at l3; omega)
  rw [hc1] at k1 l1
  rw [hc2] at k2 l2
  rw [hc3] at k3 l3
  rw [hc4] at k4 l4
  have n1 := fun W => camelName_any c1.1 W (by omega)
  have n2 := fun W => camelName_any c2.1 W (by omega)
  have n3 := fun W => messageName_any (mkB c3.1) W (by rw [mkB_sz]; omega)
  have n4 := fun W => messageName_any (mkB c4.1) W (by rw [mkB_sz]; omega)
  clear hc1 hc2 hc3 hc4
  go_enter Tryz.func46, Tryz.ntmps46
  go_wp2_with fail
  generalize w.alloc (.cells #[.int .i64 0, .string ⟨#[]⟩, .string ⟨#[]⟩, .string ⟨#[]⟩, .string ⟨#[]⟩] 50) = V at *
  have HBV := HV
  have HXV := Lib.hid hV
  clear hV HV
  refine (k1 V (HM.out.below HBV.out)).mono ?_
  rintro e W1 ⟨rfl, hb⟩
  have HBW1 := Lib.hid (HBV.out.trans (hb.mono HBV.out.size))
  have HXW1 := Lib.hid ((hb.block _ (blk_lt HXV.out)).trans HXV.out)
  clear hb
  go_wp2_with fail
  refine (k2 W1 (HM.out.below HBW1.out)).mono ?_
  rintro e W2 ⟨rfl, hb⟩
  have HBW2 := Lib.hid (HBW1.out.trans (hb.mono HBW1.out.size))
  have HXW2 := Lib.hid ((hb.block _ (blk_lt HXW1.out)).trans HXW1.out)
  clear hb
  go_wp2_with fail
  refine (k3 W2 (HM.out.below HBW2.out)).mono ?_
  rintro e W3 ⟨rfl, hb⟩
  have HBW3 := Lib.hid (HBW2.out.trans (hb.mono HBW2.out.size))
  have HXW3 := Lib.hid ((hb.block _ (blk_lt HXW2.out)).trans HXW2.out)
  clear hb
  go_wp2_with fail
  refine (k4 W3 (HM.out.below HBW3.out)).mono ?_
  rintro e W4 ⟨rfl, hb⟩
  have HBW4 := Lib.hid (HBW3.out.trans (hb.mono HBW3.out.size))
  have HXW4 := Lib.hid ((hb.block _ (blk_lt HXW3.out)).trans HXW3.out)
  clear hb
  go_wp2_with fail
  clear k1 k2 k3 k4
  obtain ⟨a1, x1, b1⟩ := c1
  obtain ⟨a2, x2, b2⟩ := c2
  obtain ⟨a3, x3, b3⟩ := c3
  obtain ⟨a4, x4, b4⟩ := c4
  simp only at *
  obtain ⟨N1, hN1⟩ : ∃ N, camB a1 = N := ⟨_, rfl⟩
  obtain ⟨N2, hN2⟩ : ∃ N, camB a2 = N := ⟨_, rfl⟩
  have m3 : msgN (runes (mkB a3)) = msgB a3 := rfl
  have m4 : msgN (runes (mkB a4)) = msgB a4 := rfl
  rw [m3] at n3
  rw [m4] at n4
  obtain ⟨N3, hN3⟩ : ∃ N, msgB a3 = N := ⟨_, rfl⟩
  obtain ⟨N4, hN4⟩ : ∃ N, msgB a4 = N := ⟨_, rfl⟩
  rw [hN1] at n1 HE
  rw [hN2] at n2 HE
  rw [hN3] at n3 HE
  rw [hN4] at n4 HE
  clear hN1 hN2 hN3 hN4 m3 m4
  cases N1
  case false =>
    refine (n1 W4).mono ?_
    rintro e W5 ⟨rfl, hb⟩
    have HBW5 := Lib.hid (HBW4.out.trans (hb.mono HBW4.out.size))
    have HXW5 := Lib.hid ((hb.block _ (blk_lt HXW4.out)).trans HXW4.out)
    clear hb
    have k0 : W5.cell? ⟨w.heap.size, 0, none⟩ = some (.int .i64 0) := cell_at HXW5.out 0 rfl
    have kf0 : W5.frozen? ⟨w.heap.size, 0, none⟩ = false := frozen_at HXW5.out 0
    have k1 : W5.cell? ⟨w.heap.size, 1, none⟩ = some (.string ⟨#[]⟩) := cell_at HXW5.out 1 rfl
    have kf1 : W5.frozen? ⟨w.heap.size, 1, none⟩ = false := frozen_at HXW5.out 1
    have k2 : W5.cell? ⟨w.heap.size, 2, none⟩ = some (.string ⟨#[]⟩) := cell_at HXW5.out 2 rfl
    have kf2 : W5.frozen? ⟨w.heap.size, 2, none⟩ = false := frozen_at HXW5.out 2
    have k3 : W5.cell? ⟨w.heap.size, 3, none⟩ = some (.string ⟨#[]⟩) := cell_at HXW5.out 3 rfl
    have kf3 : W5.frozen? ⟨w.heap.size, 3, none⟩ = false := frozen_at HXW5.out 3
    have k4 : W5.cell? ⟨w.heap.size, 4, none⟩ = some (.string ⟨#[]⟩) := cell_at HXW5.out 4 rfl
    have kf4 : W5.frozen? ⟨w.heap.size, 4, none⟩ = false := frozen_at HXW5.out 4
    obtain ⟨Q, hQ, hQc, _, _, hQb⟩ := set5_row HXW5.out (.int .i64 0) (.string ⟨#[]⟩) (.string ⟨#[]⟩) (.string ⟨#[]⟩) (.string ⟨#[]⟩)
    have HQ := Lib.hid hQ
    have HBQ := Lib.hid (HBW5.out.trans hQb)
    have HQC := Lib.hid hQc
    clear hQ hQc hQb
    go_wp2_with fail
    rw [HQ.out]
    have r0 := cell_at HQC.out 0 rfl
    have r1 := cell_at HQC.out 1 rfl
    have r2 := cell_at HQC.out 2 rfl
    have r3 := cell_at HQC.out 3 rfl
    have r4 := cell_at HQC.out 4 rfl
    refine bodyPost_ret (v := .tuple #[.agg #[.int .i64 0, .string ⟨#[]⟩, .string ⟨#[]⟩, .string ⟨#[]⟩, .string ⟨#[]⟩], .bool false]) (by simp [results, Tryz.results46, go_sem, r0, r1, r2, r3, r4]) rfl ?_
    exact ⟨by rw [HE.out]; simp [rowE, rrow, zeroRw, mkB], HBQ.out⟩
  case true =>
    refine (n1 W4).mono ?_
    rintro e W5 ⟨rfl, hb⟩
    have HBW5 := Lib.hid (HBW4.out.trans (hb.mono HBW4.out.size))
    have HXW5 := Lib.hid ((hb.block _ (blk_lt HXW4.out)).trans HXW4.out)
    clear hb
    go_wp2_with fail
    cases N2
    case false =>
      refine (n2 W5).mono ?_
      rintro e W6 ⟨rfl, hb⟩
      have HBW6 := Lib.hid (HBW5.out.trans (hb.mono HBW5.out.size))
      have HXW6 := Lib.hid ((hb.block _ (blk_lt HXW5.out)).trans HXW5.out)
      clear hb
      have k0 : W6.cell? ⟨w.heap.size, 0, none⟩ = some (.int .i64 0) := cell_at HXW6.out 0 rfl
      have kf0 : W6.frozen? ⟨w.heap.size, 0, none⟩ = false := frozen_at HXW6.out 0
      have k1 : W6.cell? ⟨w.heap.size, 1, none⟩ = some (.string ⟨#[]⟩) := cell_at HXW6.out 1 rfl
      have kf1 : W6.frozen? ⟨w.heap.size, 1, none⟩ = false := frozen_at HXW6.out 1
      have k2 : W6.cell? ⟨w.heap.size, 2, none⟩ = some (.string ⟨#[]⟩) := cell_at HXW6.out 2 rfl
      have kf2 : W6.frozen? ⟨w.heap.size, 2, none⟩ = false := frozen_at HXW6.out 2
      have k3 : W6.cell? ⟨w.heap.size, 3, none⟩ = some (.string ⟨#[]⟩) := cell_at HXW6.out 3 rfl
      have kf3 : W6.frozen? ⟨w.heap.size, 3, none⟩ = false := frozen_at HXW6.out 3
      have k4 : W6.cell? ⟨w.heap.size, 4, none⟩ = some (.string ⟨#[]⟩) := cell_at HXW6.out 4 rfl
      have kf4 : W6.frozen? ⟨w.heap.size, 4, none⟩ = false := frozen_at HXW6.out 4
      obtain ⟨Q, hQ, hQc, _, _, hQb⟩ := set5_row HXW6.out (.int .i64 0) (.string ⟨#[]⟩) (.string ⟨#[]⟩) (.string ⟨#[]⟩) (.string ⟨#[]⟩)
      have HQ := Lib.hid hQ
      have HBQ := Lib.hid (HBW6.out.trans hQb)
      have HQC := Lib.hid hQc
      clear hQ hQc hQb
      go_wp2_with fail
      rw [HQ.out]
      have r0 := cell_at HQC.out 0 rfl
      have r1 := cell_at HQC.out 1 rfl
      have r2 := cell_at HQC.out 2 rfl
      have r3 := cell_at HQC.out 3 rfl
      have r4 := cell_at HQC.out 4 rfl
      refine bodyPost_ret (v := .tuple #[.agg #[.int .i64 0, .string ⟨#[]⟩, .string ⟨#[]⟩, .string ⟨#[]⟩, .string ⟨#[]⟩], .bool false]) (by simp [results, Tryz.results46, go_sem, r0, r1, r2, r3, r4]) rfl ?_
      exact ⟨by rw [HE.out]; simp [rowE, rrow, zeroRw, mkB], HBQ.out⟩
    case true =>
      refine (n2 W5).mono ?_
      rintro e W6 ⟨rfl, hb⟩
      have HBW6 := Lib.hid (HBW5.out.trans (hb.mono HBW5.out.size))
      have HXW6 := Lib.hid ((hb.block _ (blk_lt HXW5.out)).trans HXW5.out)
      clear hb
      go_wp2_with fail
      cases N3
      case false =>
        refine (n3 W6).mono ?_
        rintro e W7 ⟨rfl, hb⟩
        have HBW7 := Lib.hid (HBW6.out.trans (hb.mono HBW6.out.size))
        have HXW7 := Lib.hid ((hb.block _ (blk_lt HXW6.out)).trans HXW6.out)
        clear hb
        have k0 : W7.cell? ⟨w.heap.size, 0, none⟩ = some (.int .i64 0) := cell_at HXW7.out 0 rfl
        have kf0 : W7.frozen? ⟨w.heap.size, 0, none⟩ = false := frozen_at HXW7.out 0
        have k1 : W7.cell? ⟨w.heap.size, 1, none⟩ = some (.string ⟨#[]⟩) := cell_at HXW7.out 1 rfl
        have kf1 : W7.frozen? ⟨w.heap.size, 1, none⟩ = false := frozen_at HXW7.out 1
        have k2 : W7.cell? ⟨w.heap.size, 2, none⟩ = some (.string ⟨#[]⟩) := cell_at HXW7.out 2 rfl
        have kf2 : W7.frozen? ⟨w.heap.size, 2, none⟩ = false := frozen_at HXW7.out 2
        have k3 : W7.cell? ⟨w.heap.size, 3, none⟩ = some (.string ⟨#[]⟩) := cell_at HXW7.out 3 rfl
        have kf3 : W7.frozen? ⟨w.heap.size, 3, none⟩ = false := frozen_at HXW7.out 3
        have k4 : W7.cell? ⟨w.heap.size, 4, none⟩ = some (.string ⟨#[]⟩) := cell_at HXW7.out 4 rfl
        have kf4 : W7.frozen? ⟨w.heap.size, 4, none⟩ = false := frozen_at HXW7.out 4
        obtain ⟨Q, hQ, hQc, _, _, hQb⟩ := set5_row HXW7.out (.int .i64 0) (.string ⟨#[]⟩) (.string ⟨#[]⟩) (.string ⟨#[]⟩) (.string ⟨#[]⟩)
        have HQ := Lib.hid hQ
        have HBQ := Lib.hid (HBW7.out.trans hQb)
        have HQC := Lib.hid hQc
        clear hQ hQc hQb
        go_wp2_with fail
        rw [HQ.out]
        have r0 := cell_at HQC.out 0 rfl
        have r1 := cell_at HQC.out 1 rfl
        have r2 := cell_at HQC.out 2 rfl
        have r3 := cell_at HQC.out 3 rfl
        have r4 := cell_at HQC.out 4 rfl
        refine bodyPost_ret (v := .tuple #[.agg #[.int .i64 0, .string ⟨#[]⟩, .string ⟨#[]⟩, .string ⟨#[]⟩, .string ⟨#[]⟩], .bool false]) (by simp [results, Tryz.results46, go_sem, r0, r1, r2, r3, r4]) rfl ?_
        exact ⟨by rw [HE.out]; simp [rowE, rrow, zeroRw, mkB], HBQ.out⟩
      case true =>
        refine (n3 W6).mono ?_
        rintro e W7 ⟨rfl, hb⟩
        have HBW7 := Lib.hid (HBW6.out.trans (hb.mono HBW6.out.size))
        have HXW7 := Lib.hid ((hb.block _ (blk_lt HXW6.out)).trans HXW6.out)
        clear hb
        go_wp2_with fail
        cases N4
        case false =>
          refine (n4 W7).mono ?_
          rintro e W8 ⟨rfl, hb⟩
          have HBW8 := Lib.hid (HBW7.out.trans (hb.mono HBW7.out.size))
          have HXW8 := Lib.hid ((hb.block _ (blk_lt HXW7.out)).trans HXW7.out)
          clear hb
          have k0 : W8.cell? ⟨w.heap.size, 0, none⟩ = some (.int .i64 0) := cell_at HXW8.out 0 rfl
          have kf0 : W8.frozen? ⟨w.heap.size, 0, none⟩ = false := frozen_at HXW8.out 0
          have k1 : W8.cell? ⟨w.heap.size, 1, none⟩ = some (.string ⟨#[]⟩) := cell_at HXW8.out 1 rfl
          have kf1 : W8.frozen? ⟨w.heap.size, 1, none⟩ = false := frozen_at HXW8.out 1
          have k2 : W8.cell? ⟨w.heap.size, 2, none⟩ = some (.string ⟨#[]⟩) := cell_at HXW8.out 2 rfl
          have kf2 : W8.frozen? ⟨w.heap.size, 2, none⟩ = false := frozen_at HXW8.out 2
          have k3 : W8.cell? ⟨w.heap.size, 3, none⟩ = some (.string ⟨#[]⟩) := cell_at HXW8.out 3 rfl
          have kf3 : W8.frozen? ⟨w.heap.size, 3, none⟩ = false := frozen_at HXW8.out 3
          have k4 : W8.cell? ⟨w.heap.size, 4, none⟩ = some (.string ⟨#[]⟩) := cell_at HXW8.out 4 rfl
          have kf4 : W8.frozen? ⟨w.heap.size, 4, none⟩ = false := frozen_at HXW8.out 4
          obtain ⟨Q, hQ, hQc, _, _, hQb⟩ := set5_row HXW8.out (.int .i64 0) (.string ⟨#[]⟩) (.string ⟨#[]⟩) (.string ⟨#[]⟩) (.string ⟨#[]⟩)
          have HQ := Lib.hid hQ
          have HBQ := Lib.hid (HBW8.out.trans hQb)
          have HQC := Lib.hid hQc
          clear hQ hQc hQb
          go_wp2_with fail
          rw [HQ.out]
          have r0 := cell_at HQC.out 0 rfl
          have r1 := cell_at HQC.out 1 rfl
          have r2 := cell_at HQC.out 2 rfl
          have r3 := cell_at HQC.out 3 rfl
          have r4 := cell_at HQC.out 4 rfl
          refine bodyPost_ret (v := .tuple #[.agg #[.int .i64 0, .string ⟨#[]⟩, .string ⟨#[]⟩, .string ⟨#[]⟩, .string ⟨#[]⟩], .bool false]) (by simp [results, Tryz.results46, go_sem, r0, r1, r2, r3, r4]) rfl ?_
          exact ⟨by rw [HE.out]; simp [rowE, rrow, zeroRw, mkB], HBQ.out⟩
        case true =>
          refine (n4 W7).mono ?_
          rintro e W8 ⟨rfl, hb⟩
          have HBW8 := Lib.hid (HBW7.out.trans (hb.mono HBW7.out.size))
          have HXW8 := Lib.hid ((hb.block _ (blk_lt HXW7.out)).trans HXW7.out)
          clear hb
          go_wp2_with fail
          refine (clone_anyB (mkB a1) W8 (by rw [mkB_sz]; omega)).mono ?_
          rintro e W9 ⟨rfl, hb⟩
          have HBW9 := Lib.hid (HBW8.out.trans (hb.mono HBW8.out.size))
          have HXW9 := Lib.hid ((hb.block _ (blk_lt HXW8.out)).trans HXW8.out)
          clear hb
          go_wp2_with fail
          refine (clone_anyB (mkB a2) W9 (by rw [mkB_sz]; omega)).mono ?_
          rintro e W10 ⟨rfl, hb⟩
          have HBW10 := Lib.hid (HBW9.out.trans (hb.mono HBW9.out.size))
          have HXW10 := Lib.hid ((hb.block _ (blk_lt HXW9.out)).trans HXW9.out)
          clear hb
          go_wp2_with fail
          refine (clone_anyB (mkB a3) W10 (by rw [mkB_sz]; omega)).mono ?_
          rintro e W11 ⟨rfl, hb⟩
          have HBW11 := Lib.hid (HBW10.out.trans (hb.mono HBW10.out.size))
          have HXW11 := Lib.hid ((hb.block _ (blk_lt HXW10.out)).trans HXW10.out)
          clear hb
          go_wp2_with fail
          refine (clone_anyB (mkB a4) W11 (by rw [mkB_sz]; omega)).mono ?_
          rintro e W12 ⟨rfl, hb⟩
          have HBW12 := Lib.hid (HBW11.out.trans (hb.mono HBW11.out.size))
          have HXW12 := Lib.hid ((hb.block _ (blk_lt HXW11.out)).trans HXW11.out)
          clear hb
          have k0 : W12.cell? ⟨w.heap.size, 0, none⟩ = some (.int .i64 0) := cell_at HXW12.out 0 rfl
          have kf0 : W12.frozen? ⟨w.heap.size, 0, none⟩ = false := frozen_at HXW12.out 0
          have k1 : W12.cell? ⟨w.heap.size, 1, none⟩ = some (.string ⟨#[]⟩) := cell_at HXW12.out 1 rfl
          have kf1 : W12.frozen? ⟨w.heap.size, 1, none⟩ = false := frozen_at HXW12.out 1
          have k2 : W12.cell? ⟨w.heap.size, 2, none⟩ = some (.string ⟨#[]⟩) := cell_at HXW12.out 2 rfl
          have kf2 : W12.frozen? ⟨w.heap.size, 2, none⟩ = false := frozen_at HXW12.out 2
          have k3 : W12.cell? ⟨w.heap.size, 3, none⟩ = some (.string ⟨#[]⟩) := cell_at HXW12.out 3 rfl
          have kf3 : W12.frozen? ⟨w.heap.size, 3, none⟩ = false := frozen_at HXW12.out 3
          have k4 : W12.cell? ⟨w.heap.size, 4, none⟩ = some (.string ⟨#[]⟩) := cell_at HXW12.out 4 rfl
          have kf4 : W12.frozen? ⟨w.heap.size, 4, none⟩ = false := frozen_at HXW12.out 4
          obtain ⟨Q, hQ, hQc, _, _, hQb⟩ := set5_row HXW12.out (.int .i64 0) (.string (mkB a1)) (.string (mkB a2)) (.string (mkB a3)) (.string (mkB a4))
          have HQ := Lib.hid hQ
          have HBQ := Lib.hid (HBW12.out.trans hQb)
          have HQC := Lib.hid hQc
          clear hQ hQc hQb
          go_wp2_with fail
          rw [HQ.out]
          have r0 := cell_at HQC.out 0 rfl
          have r1 := cell_at HQC.out 1 rfl
          have r2 := cell_at HQC.out 2 rfl
          have r3 := cell_at HQC.out 3 rfl
          have r4 := cell_at HQC.out 4 rfl
          refine bodyPost_ret (v := .tuple #[.agg #[.int .i64 0, .string (mkB a1), .string (mkB a2), .string (mkB a3), .string (mkB a4)], .bool true]) (by simp [results, Tryz.results46, go_sem, r0, r1, r2, r3, r4]) rfl ?_
          exact ⟨by rw [HE.out]; simp [rowE, rrow], HBQ.out⟩
end Go.Proofs.YtkhnicppcbgdiaaGreatDoor
