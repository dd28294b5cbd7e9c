/-
  The walk over what the laws of layer 11 ask first: awake.
  The walk over the law ValueNormals.
  The walk over unicode/utf8.word of bytes: the number that the first eight of them spell.
-/
import Derived.Test.YteajlfgbmefncaaGreatDoorM40
import Derived.Test.YteajlfgbmefncaaGreatDoorM41
import Derived.Test.YteajlfgbmefncaaGreatDoorM38
import Derived.Test.YteajlfgbmefncaaGreatDoorM7
import Derived.Test.YteajlfgbmefncaaGreatDoorM9
import Derived.Lib.SmallJoins
import Derived.Test.YteajlfgbmefncaaGreatDoorM28
import Derived.Test.YteajlfgbmefncaaGreatDoorM14
import Derived.Test.YteajlfgbmefncaaGreatDoorM10
import Derived.Test.YteajlfgbmefncaaGreatDoorM15
import Derived.Test.YteajlfgbmefncaaGreatDoorM21
import Derived.Test.YteajlfgbmefncaaGreatDoorM16
import Derived.Test.YteajlfgbmefncaaGreatDoorM19
import Derived.Test.YteajlfgbmefncaaGreatDoorM13
import Derived.Deep.Cut
import Derived.Deep.DeepCutAuto
import Derived.Deep.RegionHeldLaw
import Derived.BigQuiet
import Derived.Deep.QuietTactic
import Derived.Defers
import Derived.Recover
import Derived.Laws.Pointers
import Derived.Lib.IfaceEq
import Derived.Test.YteajlfgbmefncaaGreatDoorM32
import Derived.Lib.ValidAsc
import Derived.Lib.EndianBits
namespace Go.Proofs.YteajlfgbmefncaaGreatDoor
set_option linter.unusedVariables false
open Go.ChangeShapes Go.WideShapes Go.ChangeAt Go.RowKit

def ndC : Nd := ⟨7, 0, 0, false, [], 0, [(1, [⟨1, 2, 0, false, [], 0, []⟩])]⟩
theorem decC : decM scB.ms 16 0 [8, 1, 8, 2] = .ok ndC := by rfl
theorem normC : normN scB.ms 16 ndC = ndC := by rfl
theorem fitS_ofC {s : SC} (h : SmS s) : FitS s := by
  obtain ⟨h0, h1, h2, h3⟩ := h
  refine ⟨⟨by omega, by omega⟩, fun m hm => ?_, fun m hm => ?_, by omega, fun t ht => ?_⟩
  · obtain ⟨a, b, c⟩ := h1 m hm
    exact ⟨by omega, by omega, fun f hf => by have := c f hf; omega⟩
  · obtain ⟨a, b, c⟩ := h2 m hm
    exact ⟨by omega, by omega, fun f hf => by have := c f hf; omega⟩
  · obtain ⟨a, b⟩ := h3 t ht
    exact ⟨by omega, by omega⟩
theorem fitSB : FitS scB := fitS_ofC ⟨by decide, (fun m hm => by
    have e : m = ⟨[65], [fdB]⟩ := by simpa [scB] using hm
    subst e
    exact ⟨by decide, by decide, fun f hf => by
      have e : f = fdB := by simpa using hf
      subst e; decide⟩), (fun m hm => by cases hm), (fun m hm => by cases hm)⟩
theorem noText : ¬ TextIn scB.ms := by
  rintro ⟨m, hm, x, hx, h5⟩
  have e : m = ⟨[65], [fdB]⟩ := by simpa [scB] using hm
  subst e
  have e : x = fdB := by simpa using hx
  subst e
  exact absurd h5 (by decide)
theorem fitGC : FitG 100000 10000 16 ndC := ⟨by decide, by decide, fun p hp => by
    have e : p = (1, [⟨1, 2, 0, false, [], 0, []⟩]) := by simpa [ndC] using hp
    subst e
    refine ⟨by decide, fun y hy => ?_⟩
    have e : y = ⟨1, 2, 0, false, [], 0, []⟩ := by simpa using hy
    subst e
    exact fitG_leaf rfl (by decide)⟩
set_option maxHeartbeats 16000000 in
set_option maxRecDepth 20000 in
theorem awake11_any (w : World) (hT : Tabs w) : Calls Tryz.prog 5 #[] w fun e w' => e = .returned (.bool true) ∧ Below w.heap.size w w' := by
  obtain ⟨Y1, hY1, cY1, bY1, sY1⟩ := box_new w #[.int .i64 1, .string ⟨#[120]⟩, .int .i64 1, .bool false, .int .i64 0] 51
  obtain ⟨Y2, hY2, cY2, bY2, sY2⟩ := box_new Y1 #[.string ⟨#[65]⟩, .slice (some ⟨w.heap.size, 0, none⟩) 1 1] 54
  obtain ⟨Y3, hY3, cY3, bY3, sY3⟩ := box_new Y2 #[.slice (some ⟨w.heap.size + 1, 0, none⟩) 1 1, .slice none 0 0, .slice none 0 0] 26
  obtain ⟨Y4, hY4⟩ : ∃ Y, Y3.alloc (.cells #[.int .u8 8, .int .u8 1, .int .u8 8, .int .u8 2] 5 (4, 5)) = Y := ⟨_, rfl⟩
  have cY4 : Y4.heap[Y3.heap.size]? = some (.cells #[.int .u8 8, .int .u8 1, .int .u8 8, .int .u8 2] 5 (4, 5)) := by rw [← hY4]; exact alloc_heap_new _ _
  have bY4 : Below Y3.heap.size Y3 Y4 := by rw [← hY4]; exact (Below.refl _ _).alloc (Nat.le_refl _) _
  have sY4 : Y4.heap.size = Y3.heap.size + 1 := by rw [← hY4]; simp
  have hcv : (convert 27 27 (.slice (some ⟨w.heap.size + 3, 0, none⟩) 4 4)).run Tryz.prog (Y3.alloc (.cells #[.int .u8 8, .int .u8 1, .int .u8 8, .int .u8 2] 5)) = .ok (.slice (some ⟨w.heap.size + 3, 0, none⟩) 4 4) Y4 := by
    rw [← hY4]
    exact Joins.run_convert_bytes_const_at Y3 27 5 #[.int .u8 8, .int .u8 1, .int .u8 8, .int .u8 2] 4 4 (w.heap.size + 3) (by omega) Tryz.underlying27 Tryz.underlying5
  have t2 := bY1.trans (bY2.mono bY1.size)
  have t3 := t2.trans (bY3.mono t2.size)
  have t4 := t3.trans (bY4.mono t3.size)
  rw [sY3, sY2, sY1] at cY4
  rw [sY2, sY1] at cY3
  rw [sY1] at cY2
  have d1 := (bY4.block _ (by omega)).trans ((bY3.block _ (by omega)).trans ((bY2.block _ (by omega)).trans cY1))
  have d2 := (bY4.block _ (by omega)).trans ((bY3.block _ (by omega)).trans cY2)
  have d3 := (bY4.block _ (by omega)).trans cY3
  have hH : HeldSc Y4 (fun b => b < Y4.heap.size) (.slice (some ⟨w.heap.size + 1, 0, none⟩) 1 1) (.slice none 0 0) (.slice none 0 0) scB := by
    refine ⟨⟨_, _, rfl, Nat.le_refl _, .inr ⟨w.heap.size + 1, 0, rfl, by show w.heap.size + 1 < Y4.heap.size; omega, fun j x hj => ?_⟩⟩, HeldN.nil _ _, RowsIn.nil _ _ _ _ _ _⟩
    obtain ⟨rfl, rfl⟩ := lst1 hj
    refine ⟨some ⟨w.heap.size, 0, none⟩, 1, cell_at d2 0 rfl, cell_at d2 1 rfl, ⟨_, _, rfl, Nat.le_refl _, .inr ⟨w.heap.size, 0, rfl, by show w.heap.size < Y4.heap.size; omega, fun k y hk => ?_⟩⟩⟩
    obtain ⟨rfl, rfl⟩ := lst1 hk
    intro i u hu
    simp only [World.cell?, d1]
    simpa [fdrow, fdB, mkB] using hu
  have hB4 : IsB Y4 (some ⟨w.heap.size + 3, 0, none⟩) 4 [8, 1, 8, 2] := by
    refine ⟨rfl, by decide, .inr ⟨w.heap.size + 3, 0, rfl, fun j z hj => ?_, by decide⟩⟩
    simp only [World.cell?, cY4]
    rcases j with _ | _ | _ | _ | j
    · have e : (8 : Int) = z := by simpa using hj
      subst e; rfl
    · have e : (1 : Int) = z := by simpa using hj
      subst e; rfl
    · have e : (8 : Int) = z := by simpa using hj
      subst e; rfl
    · have e : (2 : Int) = z := by simpa using hj
      subst e; rfl
    · simp at hj
  have h := decodeP_any (some ⟨w.heap.size + 1, 0, none⟩) none none 1 0 0 1 0 0 scB 0 (some ⟨w.heap.size + 3, 0, none⟩) 4 4 [8, 1, 8, 2] Y4 (tabs_below hT t4) rfl rfl rfl fitSB hH hB4 (by omega) (by omega) (fun h => absurd h noText)
  have q0 : Y3.cell? ⟨w.heap.size + 2, 0, none⟩ = some (.slice (some ⟨w.heap.size + 1, 0, none⟩) 1 1) := cell_at cY3 0 rfl
  have q1 : Y3.cell? ⟨w.heap.size + 2, 1, none⟩ = some (.slice none 0 0) := cell_at cY3 1 rfl
  have q2 : Y3.cell? ⟨w.heap.size + 2, 2, none⟩ = some (.slice none 0 0) := cell_at cY3 2 rfl
  have HY1 := Lib.hid hY1
  have HY2 := Lib.hid hY2
  have HY3 := Lib.hid hY3
  have HY4 := Lib.hid hY4
  have HB := Lib.hid t4
  have hz3 : Y3.heap.size = w.heap.size + 3 := by omega
  clear hY1 hY2 hY3 hY4 cY1 cY2 cY3 cY4 bY1 bY2 bY3 bY4 sY1 sY2 sY3 sY4 t2 t3 t4 d1 d2 d3 hH hB4 hT
  go_enter Tryz.func5, Tryz.ntmps5
  go_upto_region 2 with fail
  rw [HY1.out, HY2.out, HY3.out]
  go_wp2_with fail
  refine h.mono ?_
  rintro e W ⟨hor, hb1⟩
  have HB1 := Lib.hid (HB.out.trans (hb1.mono HB.out.size))
  have hgood : GoodM scB 0 := ⟨formB, by decide, by decide⟩
  rcases hor with ⟨hno, rfl⟩ | ⟨_, hlt, rfl⟩ | ⟨_, _, ⟨er, _, hde, _⟩ | ⟨x, v, hde, rfl, hv⟩⟩
  · exact absurd hgood hno
  · exact absurd hlt (by decide)
  · rw [decC] at hde; cases hde
  rw [decC] at hde
  have hx : ndC = x := by injection hde
  subst hx
  rw [normC] at hv
  have hou := oursN_any 16 ndC v W fitGC (hv.mv (fun _ _ => rfl) (fun b hb => hb.2))
  clear h hb1 hv hde q0 q1 q2 hcv
  go_wp2_with fail
  refine hou.mono ?_
  rintro e W2 ⟨a0, a1, a2, a3, a4, a5, sa, sl, sc, fsr, rfl, hrw, hfl, hb2⟩
  have HB2 := Lib.hid (HB1.out.trans (hb2.mono HB1.out.size))
  have h2s := hb2.size
  have hrow : [.int .i64 a0, .int .i64 a1, .int .u64 a2, .bool a3, .string a4, .int .i64 a5, .slice sa sl sc] = [Value.int .i64 7, .int .i64 0, .int .u64 0, .bool false, .string (mkB []), .int .i64 0, fsr] := hrw
  simp only [List.cons.injEq, Value.int.injEq, Value.bool.injEq, Value.string.injEq, true_and, and_true] at hrow
  obtain ⟨rfl, rfl, rfl, rfl, rfl, rfl, rfl⟩ := hrow
  have hfl := hfl rfl
  obtain ⟨ad9, c9, hsl9⟩ := HeldG.isSl hfl
  obtain ⟨rfl, rfl, rfl⟩ := Value.slice.inj hsl9
  obtain ⟨Z1, hZ1, cZ1, bZ1, sZ1⟩ := box_new W2 #[.int .i64 1, .int .i64 2, .int .u64 0, .bool false, .string ⟨#[]⟩, .int .i64 0, .slice none 0 0] 38
  obtain ⟨Z2, hZ2, cZ2, bZ2, sZ2⟩ := box_new Z1 #[.int .i64 1, .slice (some ⟨W2.heap.size, 0, none⟩) 1 1] 57
  have HZ1 := Lib.hid hZ1
  have HZ2 := Lib.hid hZ2
  have e1 := (bZ2.block _ (by omega)).trans cZ1
  rw [sZ1] at cZ2
  have u2 := bZ1.trans (bZ2.mono bZ1.size)
  have HBZ := Lib.hid (HB2.out.trans (u2.mono HB2.out.size))
  have hC2 : HeldG clS Z2 (fun b => b < Z2.heap.size) 16 (.slice (some ⟨W2.heap.size + 1, 0, none⟩) 1 1) ndC.fields := by
    refine ⟨_, _, rfl, Nat.le_refl _, .inr ⟨W2.heap.size + 1, 0, rfl, by show W2.heap.size + 1 < Z2.heap.size; omega, fun j x hj => ?_⟩⟩
    obtain ⟨rfl, rfl⟩ := lst1 hj
    refine ⟨.slice (some ⟨W2.heap.size, 0, none⟩) 1 1, fun i u hu => by simp only [World.cell?, cZ2]; simpa using hu, ⟨_, _, rfl, Nat.le_refl _, .inr ⟨W2.heap.size, 0, rfl, by show W2.heap.size < Z2.heap.size; omega, fun k y hk => ?_⟩⟩⟩
    obtain ⟨rfl, rfl⟩ := lst1 hk
    refine ⟨.nilFunc, fun i u hu => ?_, fun h => by simp [clS] at h⟩
    simp only [World.cell?, e1]
    simpa [clS, crow, nrow, cn, mkB] using hu
  have hsm := sameN_any 16 ndC ndC sa (some ⟨W2.heap.size + 1, 0, none⟩) 1 sc 1 Z2 rfl fitGC ⟨fun _ => ⟨HeldG.mv (fun b hb => u2.block b hb.2) (fun b hb => by have := hb.2; show b < Z2.heap.size; have := u2.size; omega) hfl, rfl⟩, fun h => absurd rfl h⟩ ⟨fun _ => ⟨hC2, rfl⟩, fun h => absurd rfl h⟩
  have hz1 : Z1.heap.size = W2.heap.size + 1 := by omega
  clear hZ1 hZ2 cZ1 cZ2 bZ1 bZ2 sZ1 sZ2 u2 hC2 e1 hfl hrw hb2 hou
  go_wp2_with fail
  rw [HZ1.out, HZ2.out]
  refine hsm.mono ?_
  rintro e W3 ⟨rfl, hb3⟩
  have HB3 := Lib.hid (HBZ.out.trans (hb3.mono HBZ.out.size))
  clear hsm hb3
  go_wp2_with fail
  go_ret
  exact ⟨rfl, HB3.out⟩
end Go.Proofs.YteajlfgbmefncaaGreatDoor
namespace Go.Proofs.YteajlfgbmefncaaGreatDoor
set_option linter.unusedVariables false
open Go.ChangeShapes Go.WideShapes Go.ChangeAt Go.RowKit

/-- what Ours and the document's Normal answer: a clean node -/
theorem row_cn {x : Nd} {fsr : Value} {a0 a1 a2 : Int} {a3 : Bool} {a4 : ByteArray} {a5 : Int} {sa : Option Addr} {sl sc : Nat} (h : [.int .i64 a0, .int .i64 a1, .int .u64 a2, .bool a3, .string a4, .int .i64 a5, .slice sa sl sc] = clS.row x fsr) :
    a0 = (cn x).kind ∧ a1 = (cn x).n ∧ a2 = (cn x).u ∧ a3 = (cn x).b ∧ a4 = mkB (cn x).s ∧ a5 = (cn x).type ∧ (Value.slice sa sl sc) = if x.kind = 7 then fsr else .slice none 0 0 := by
  have hr : clS.row x fsr = [.int .i64 (cn x).kind, .int .i64 (cn x).n, .int .u64 (cn x).u, .bool (cn x).b, .string (mkB (cn x).s), .int .i64 (cn x).type, if x.kind = 7 then fsr else .slice none 0 0] := rfl
  rw [hr] at h
  simp only [List.cons.injEq, Value.int.injEq, Value.bool.injEq, Value.string.injEq, true_and, and_true] at h
  exact h
theorem sameO_any (f : Nat) (x : Nd) (W : World) (a0 a1 a2 : Int) (a3 : Bool) (a4 : ByteArray) (a5 : Int) (sa : Option Addr) (sl sc : Nat) (fa : Value) (b0 b1 b2 : Int) (b3 : Bool) (b4 : ByteArray) (b5 : Int) (ta : Option Addr) (tl tc : Nat) (fb : Value) (hk : x.kind = 7) (hfit : FitG 100000 10000 f x)
    (ha : [.int .i64 a0, .int .i64 a1, .int .u64 a2, .bool a3, .string a4, .int .i64 a5, .slice sa sl sc] = clS.row x fa) (hga : HeldG clS W (fun b => b < W.heap.size) f fa x.fields)
    (hb : [.int .i64 b0, .int .i64 b1, .int .u64 b2, .bool b3, .string b4, .int .i64 b5, .slice ta tl tc] = clS.row x fb) (hgb : HeldG clS W (fun b => b < W.heap.size) f fb x.fields) :
    Calls Tryz.prog 9 #[.agg #[.int .i64 a0, .int .i64 a1, .int .u64 a2, .bool a3, .string a4, .int .i64 a5, .slice sa sl sc], .agg #[.int .i64 b0, .int .i64 b1, .int .u64 b2, .bool b3, .string b4, .int .i64 b5, .slice ta tl tc]] W fun e w' => e = .returned (.bool true) ∧ Below W.heap.size W w' := by
  obtain ⟨rfl, rfl, rfl, rfl, rfl, rfl, h1⟩ := row_cn ha
  obtain ⟨rfl, rfl, rfl, rfl, rfl, rfl, h2⟩ := row_cn hb
  rw [if_pos hk] at h1 h2
  subst h1 h2
  obtain ⟨_, _, e1⟩ := HeldG.isSl hga
  obtain ⟨_, _, e2⟩ := HeldG.isSl hgb
  obtain ⟨_, rfl, _⟩ := Value.slice.inj e1
  obtain ⟨_, rfl, _⟩ := Value.slice.inj e2
  exact sameN_any f x (cn x) sa ta x.fields.length sc tc W rfl hfit ⟨fun _ => ⟨hga, rfl⟩, fun h => absurd hk h⟩ ⟨fun _ => ⟨hgb, rfl⟩, fun h => absurd hk h⟩
end Go.Proofs.YteajlfgbmefncaaGreatDoor
namespace Go.Proofs.YteajlfgbmefncaaGreatDoor
set_option linter.unusedVariables false
open Go.ChangeShapes Go.WideShapes Go.ChangeAt Go.RowKit

/-- the bytes of t lie in a block -/
def CB (W : World) (g o : Nat) (t : ByteArray) : Prop := ∀ j, j < t.size → W.cell? ⟨g, o + j, none⟩ = some (.int .u8 ((t.get! j).toNat : Int))
theorem CB.at {W : World} {g o : Nat} {t : ByteArray} (h : CB W g o t) {j : Nat} (hj : j < t.size) {x : UInt8} (hx : t.get! j = x) : W.cell? ⟨g, o + j, none⟩ = some (.int .u8 (x.toNat : Int)) := by rw [← hx]; exact h j hj
theorem CB.drewN {W : World} {g o : Nat} {t : ByteArray} (h : CB W g o t) (q : Nat) : CB (W.drewN q) g o t := fun j hj => by
  have : (W.drewN q).cell? ⟨g, o + j, none⟩ = W.cell? ⟨g, o + j, none⟩ := by simp
  rw [this]; exact h j hj
set_option maxHeartbeats 8000000 in
set_option maxRecDepth 100000 in
theorem wordB_any (g o n c : Nat) (t : ByteArray) (w : World) (hn : t.size = n) (h8 : 8 ≤ n) (hC : CB w g o t) :
    Calls Tryz.prog 94 #[.slice (some ⟨g, o, none⟩) n c] w fun e w' => e = .returned (.int .u64 (Lib.leNat [t.get! 0, t.get! 1, t.get! 2, t.get! 3, t.get! 4, t.get! 5, t.get! 6, t.get! 7])) ∧ ∃ q, w' = w.drewN q := by
  obtain ⟨x0, hx0⟩ : ∃ x, t.get! 0 = x := ⟨_, rfl⟩
  obtain ⟨x1, hx1⟩ : ∃ x, t.get! 1 = x := ⟨_, rfl⟩
  obtain ⟨x2, hx2⟩ : ∃ x, t.get! 2 = x := ⟨_, rfl⟩
  obtain ⟨x3, hx3⟩ : ∃ x, t.get! 3 = x := ⟨_, rfl⟩
  obtain ⟨x4, hx4⟩ : ∃ x, t.get! 4 = x := ⟨_, rfl⟩
  obtain ⟨x5, hx5⟩ : ∃ x, t.get! 5 = x := ⟨_, rfl⟩
  obtain ⟨x6, hx6⟩ : ∃ x, t.get! 6 = x := ⟨_, rfl⟩
  obtain ⟨x7, hx7⟩ : ∃ x, t.get! 7 = x := ⟨_, rfl⟩
  have c0 : w.cell? ⟨g, o, none⟩ = some (.int .u8 (x0.toNat : Int)) := hC.at (j := 0) (by omega) hx0
  have c1 := hC.at (j := 1) (by omega) hx1
  have c2 := hC.at (j := 2) (by omega) hx2
  have c3 := hC.at (j := 3) (by omega) hx3
  have c4 := hC.at (j := 4) (by omega) hx4
  have c5 := hC.at (j := 5) (by omega) hx5
  have c6 := hC.at (j := 6) (by omega) hx6
  have c7 := hC.at (j := 7) (by omega) hx7
  have b0 := x0.toNat_lt; have b1 := x1.toNat_lt; have b2 := x2.toNat_lt; have b3 := x3.toNat_lt
  have b4 := x4.toNat_lt; have b5 := x5.toNat_lt; have b6 := x6.toNat_lt; have b7 := x7.toNat_lt
  rw [hx0, hx1, hx2, hx3, hx4, hx5, hx6, hx7]
  have hv : ((Lib.leNat [x0, x1, x2, x3, x4, x5, x6, x7] : Nat) : Int) = (x0.toNat : Int) + (x1.toNat : Int) * 256 + (x2.toNat : Int) * 65536 + (x3.toNat : Int) * 16777216 + (x4.toNat : Int) * 4294967296 + (x5.toNat : Int) * 1099511627776 + (x6.toNat : Int) * 281474976710656 + (x7.toNat : Int) * 72057594037927936 := by
    simp only [Lib.leNat]
    push_cast
    omega
  have q0 : (0 : Int) < (n : Int) := by omega
  have q1 : (1 : Int) < (n : Int) := by omega
  have q2 : (2 : Int) < (n : Int) := by omega
  have q3 : (3 : Int) < (n : Int) := by omega
  have q4 : (4 : Int) < (n : Int) := by omega
  have q5 : (5 : Int) < (n : Int) := by omega
  have q6 : (6 : Int) < (n : Int) := by omega
  have q7 : (7 : Int) < (n : Int) := by omega
  clear hC hx0 hx1 hx2 hx3 hx4 hx5 hx6 hx7 hn
  go_enter Tryz.func94, Tryz.ntmps94
  go_wp2
  go_quiet (fail)
  go_wp2
  go_ret
  refine ⟨?_, _, rfl⟩
  simp (disch := omega) only [u64_or8, u64_or16, u64_or24, u64_or32, u64_or40, u64_or48, u64_or56]
  rw [hv]
  rfl
end Go.Proofs.YteajlfgbmefncaaGreatDoor
