/-
  The walk over what the laws of layer 11 ask first: awake.
  Of the bytes of a field the field comes back, whatever stands behind them; cut off, they lack something. Nothing is proved of the program here.
  What is encoded are fields, and those of a message's numbers rise: plain functions. Nothing is proved of the program here.
  Fields that are not known, decoded and encoded again: the arithmetic. Nothing is proved of the program here.
-/
import Derived.Test.YtnopnjklcdcckaaGreatDoorM38
import Derived.Test.YtnopnjklcdcckaaGreatDoorM39
import Derived.Test.YtnopnjklcdcckaaGreatDoorM40
import Derived.Test.YtnopnjklcdcckaaGreatDoorM7
import Derived.Test.YtnopnjklcdcckaaGreatDoorM11
import Derived.Lib.SmallJoins
import Derived.Test.YtnopnjklcdcckaaGreatDoorM8
import Derived.Test.YtnopnjklcdcckaaGreatDoorM4
import Derived.Test.YtnopnjklcdcckaaGreatDoorM30
import Derived.Test.YtnopnjklcdcckaaGreatDoorM9
namespace Go.Proofs.YtnopnjklcdcckaaGreatDoor
set_option linter.unusedVariables false
open Go.ChangeShapes Go.WideShapes Go.ChangeAt Go.RowKit

def ndC : Nd := ⟨7, 0, 0, false, [], 0, [(1, [⟨1, 2, 0, false, [], 0, []⟩])]⟩
theorem decC : decM scB.ms 16 0 [8, 1, 8, 2] = .ok ndC := by rfl
theorem normC : normN scB.ms 16 ndC = ndC := by rfl
theorem fitS_ofC {s : SC} (h : SmS s) : FitS s := by
  obtain ⟨h0, h1, h2, h3⟩ := h
  refine ⟨⟨by omega, by omega⟩, fun m hm => ?_, fun m hm => ?_, by omega, fun t ht => ?_⟩
  · obtain ⟨a, b, c⟩ := h1 m hm
    exact ⟨by omega, by omega, fun f hf => by have := c f hf; omega⟩
  · obtain ⟨a, b, c⟩ := h2 m hm
    exact ⟨by omega, by omega, fun f hf => by have := c f hf; omega⟩
  · obtain ⟨a, b⟩ := h3 t ht
    exact ⟨by omega, by omega⟩
theorem fitSB : FitS scB := fitS_ofC ⟨by decide, (fun m hm => by
    have e : m = ⟨[65], [fdB]⟩ := by simpa [scB] using hm
    subst e
    exact ⟨by decide, by decide, fun f hf => by
      have e : f = fdB := by simpa using hf
      subst e; decide⟩), (fun m hm => by cases hm), (fun m hm => by cases hm)⟩
theorem noText : ¬ TextIn scB.ms := by
  rintro ⟨m, hm, x, hx, h5⟩
  have e : m = ⟨[65], [fdB]⟩ := by simpa [scB] using hm
  subst e
  have e : x = fdB := by simpa using hx
  subst e
  exact absurd h5 (by decide)
theorem fitGC : FitG 100000 10000 16 ndC := ⟨by decide, by decide, fun p hp => by
    have e : p = (1, [⟨1, 2, 0, false, [], 0, []⟩]) := by simpa [ndC] using hp
    subst e
    refine ⟨by decide, fun y hy => ?_⟩
    have e : y = ⟨1, 2, 0, false, [], 0, []⟩ := by simpa using hy
    subst e
    exact fitG_leaf rfl (by decide)⟩
set_option maxHeartbeats 16000000 in
set_option maxRecDepth 20000 in
theorem awake11_any (w : World) (hT : Tabs w) : Calls Tryz.prog 6 #[] w fun e w' => e = .returned (.bool true) ∧ Below w.heap.size w w' := by
  obtain ⟨Y1, hY1, cY1, bY1, sY1⟩ := box_new w #[.int .i64 1, .string ⟨#[120]⟩, .int .i64 1, .bool false, .int .i64 0] 52
  obtain ⟨Y2, hY2, cY2, bY2, sY2⟩ := box_new Y1 #[.string ⟨#[65]⟩, .slice (some ⟨w.heap.size, 0, none⟩) 1 1] 50
  obtain ⟨Y3, hY3, cY3, bY3, sY3⟩ := box_new Y2 #[.slice (some ⟨w.heap.size + 1, 0, none⟩) 1 1, .slice none 0 0, .slice none 0 0] 26
  obtain ⟨Y4, hY4⟩ : ∃ Y, Y3.alloc (.cells #[.int .u8 8, .int .u8 1, .int .u8 8, .int .u8 2] 5 (4, 5)) = Y := ⟨_, rfl⟩
  have cY4 : Y4.heap[Y3.heap.size]? = some (.cells #[.int .u8 8, .int .u8 1, .int .u8 8, .int .u8 2] 5 (4, 5)) := by rw [← hY4]; exact alloc_heap_new _ _
  have bY4 : Below Y3.heap.size Y3 Y4 := by rw [← hY4]; exact (Below.refl _ _).alloc (Nat.le_refl _) _
  have sY4 : Y4.heap.size = Y3.heap.size + 1 := by rw [← hY4]; simp
  have hcv : (convert 27 27 (.slice (some ⟨w.heap.size + 3, 0, none⟩) 4 4)).run Tryz.prog (Y3.alloc (.cells #[.int .u8 8, .int .u8 1, .int .u8 8, .int .u8 2] 5)) = .ok (.slice (some ⟨w.heap.size + 3, 0, none⟩) 4 4) Y4 := by
    rw [← hY4]
    exact Joins.run_convert_bytes_const_at Y3 27 5 #[.int .u8 8, .int .u8 1, .int .u8 8, .int .u8 2] 4 4 (w.heap.size + 3) (by omega) Tryz.underlying27 Tryz.underlying5
  have t2 := bY1.trans (bY2.mono bY1.size)
  have t3 := t2.trans (bY3.mono t2.size)
  have t4 := t3.trans (bY4.mono t3.size)
  rw [sY3, sY2, sY1] at cY4
  rw [sY2, sY1] at cY3
  rw [sY1] at cY2
  have d1 := (bY4.block _ (by omega)).trans ((bY3.block _ (by omega)).trans ((bY2.block _ (by omega)).trans cY1))
  have d2 := (bY4.block _ (by omega)).trans ((bY3.block _ (by omega)).trans cY2)
  have d3 := (bY4.block _ (by omega)).trans cY3
  have hH : HeldSc Y4 (fun b => b < Y4.heap.size) (.slice (some ⟨w.heap.size + 1, 0, none⟩) 1 1) (.slice none 0 0) (.slice none 0 0) scB := by
    refine ⟨⟨_, _, rfl, Nat.le_refl _, .inr ⟨w.heap.size + 1, 0, rfl, by show w.heap.size + 1 < Y4.heap.size; omega, fun j x hj => ?_⟩⟩, HeldN.nil _ _, RowsIn.nil _ _ _ _ _ _⟩
    obtain ⟨rfl, rfl⟩ := lst1 hj
    refine ⟨some ⟨w.heap.size, 0, none⟩, 1, cell_at d2 0 rfl, cell_at d2 1 rfl, ⟨_, _, rfl, Nat.le_refl _, .inr ⟨w.heap.size, 0, rfl, by show w.heap.size < Y4.heap.size; omega, fun k y hk => ?_⟩⟩⟩
    obtain ⟨rfl, rfl⟩ := lst1 hk
    intro i u hu
    simp only [World.cell?, d1]
    simpa [fdrow, fdB, mkB] using hu
  have hB4 : IsB Y4 (some ⟨w.heap.size + 3, 0, none⟩) 4 [8, 1, 8, 2] := by
    refine ⟨rfl, by decide, .inr ⟨w.heap.size + 3, 0, rfl, fun j z hj => ?_, by decide⟩⟩
    simp only [World.cell?, cY4]
    rcases j with _ | _ | _ | _ | j
    · have e : (8 : Int) = z := by simpa using hj
      subst e; rfl
    · have e : (1 : Int) = z := by simpa using hj
      subst e; rfl
    · have e : (8 : Int) = z := by simpa using hj
      subst e; rfl
    · have e : (2 : Int) = z := by simpa using hj
      subst e; rfl
    · simp at hj
  have h := decodeP_any (some ⟨w.heap.size + 1, 0, none⟩) none none 1 0 0 1 0 0 scB 0 (some ⟨w.heap.size + 3, 0, none⟩) 4 4 [8, 1, 8, 2] Y4 (tabs_below hT t4) rfl rfl rfl fitSB hH hB4 (by omega) (by omega) (fun h => absurd h noText)
  have q0 : Y3.cell? ⟨w.heap.size + 2, 0, none⟩ = some (.slice (some ⟨w.heap.size + 1, 0, none⟩) 1 1) := cell_at cY3 0 rfl
  have q1 : Y3.cell? ⟨w.heap.size + 2, 1, none⟩ = some (.slice none 0 0) := cell_at cY3 1 rfl
  have q2 : Y3.cell? ⟨w.heap.size + 2, 2, none⟩ = some (.slice none 0 0) := cell_at cY3 2 rfl
  have HY1 := Lib.hid hY1
  have HY2 := Lib.hid hY2
  have HY3 := Lib.hid hY3
  have HY4 := Lib.hid hY4
  have HB := Lib.hid t4
  have hz3 : Y3.heap.size = w.heap.size + 3 := by omega
  clear hY1 hY2 hY3 hY4 cY1 cY2 cY3 cY4 bY1 bY2 bY3 bY4 sY1 sY2 sY3 sY4 t2 t3 t4 d1 d2 d3 hH hB4 hT
  go_enter Tryz.func6, Tryz.ntmps6
  go_upto_region 2 with fail
  rw [HY1.out, HY2.out, HY3.out]
  go_wp2_with fail
  refine h.mono ?_
  rintro e W ⟨hor, hb1⟩
  have HB1 := Lib.hid (HB.out.trans (hb1.mono HB.out.size))
  have hgood : GoodM scB 0 := ⟨formB, by decide, by decide⟩
  rcases hor with ⟨hno, rfl⟩ | ⟨_, hlt, rfl⟩ | ⟨_, _, ⟨er, _, hde, _⟩ | ⟨x, v, hde, rfl, hv⟩⟩
  · exact absurd hgood hno
  · exact absurd hlt (by decide)
  · rw [decC] at hde; cases hde
  rw [decC] at hde
  have hx : ndC = x := by injection hde
  subst hx
  rw [normC] at hv
  have hou := oursN_any 16 ndC v W fitGC (hv.mv (fun _ _ => rfl) (fun b hb => hb.2))
  clear h hb1 hv hde q0 q1 q2 hcv
  go_wp2_with fail
  refine hou.mono ?_
  rintro e W2 ⟨a0, a1, a2, a3, a4, a5, sa, sl, sc, fsr, rfl, hrw, hfl, hb2⟩
  have HB2 := Lib.hid (HB1.out.trans (hb2.mono HB1.out.size))
  have h2s := hb2.size
  have hrow : [.int .i64 a0, .int .i64 a1, .int .u64 a2, .bool a3, .string a4, .int .i64 a5, .slice sa sl sc] = [Value.int .i64 7, .int .i64 0, .int .u64 0, .bool false, .string (mkB []), .int .i64 0, fsr] := hrw
  simp only [List.cons.injEq, Value.int.injEq, Value.bool.injEq, Value.string.injEq, true_and, and_true] at hrow
  obtain ⟨rfl, rfl, rfl, rfl, rfl, rfl, rfl⟩ := hrow
  have hfl := hfl rfl
  obtain ⟨ad9, c9, hsl9⟩ := HeldG.isSl hfl
  obtain ⟨rfl, rfl, rfl⟩ := Value.slice.inj hsl9
  obtain ⟨Z1, hZ1, cZ1, bZ1, sZ1⟩ := box_new W2 #[.int .i64 1, .int .i64 2, .int .u64 0, .bool false, .string ⟨#[]⟩, .int .i64 0, .slice none 0 0] 44
  obtain ⟨Z2, hZ2, cZ2, bZ2, sZ2⟩ := box_new Z1 #[.int .i64 1, .slice (some ⟨W2.heap.size, 0, none⟩) 1 1] 60
  have HZ1 := Lib.hid hZ1
  have HZ2 := Lib.hid hZ2
  have e1 := (bZ2.block _ (by omega)).trans cZ1
  rw [sZ1] at cZ2
  have u2 := bZ1.trans (bZ2.mono bZ1.size)
  have HBZ := Lib.hid (HB2.out.trans (u2.mono HB2.out.size))
  have hC2 : HeldG clS Z2 (fun b => b < Z2.heap.size) 16 (.slice (some ⟨W2.heap.size + 1, 0, none⟩) 1 1) ndC.fields := by
    refine ⟨_, _, rfl, Nat.le_refl _, .inr ⟨W2.heap.size + 1, 0, rfl, by show W2.heap.size + 1 < Z2.heap.size; omega, fun j x hj => ?_⟩⟩
    obtain ⟨rfl, rfl⟩ := lst1 hj
    refine ⟨.slice (some ⟨W2.heap.size, 0, none⟩) 1 1, fun i u hu => by simp only [World.cell?, cZ2]; simpa using hu, ⟨_, _, rfl, Nat.le_refl _, .inr ⟨W2.heap.size, 0, rfl, by show W2.heap.size < Z2.heap.size; omega, fun k y hk => ?_⟩⟩⟩
    obtain ⟨rfl, rfl⟩ := lst1 hk
    refine ⟨.nilFunc, fun i u hu => ?_, fun h => by simp [clS] at h⟩
    simp only [World.cell?, e1]
    simpa [clS, crow, nrow, cn, mkB] using hu
  have hsm := sameN_any 16 ndC ndC sa (some ⟨W2.heap.size + 1, 0, none⟩) 1 sc 1 Z2 rfl fitGC ⟨fun _ => ⟨HeldG.mv (fun b hb => u2.block b hb.2) (fun b hb => by have := hb.2; show b < Z2.heap.size; have := u2.size; omega) hfl, rfl⟩, fun h => absurd rfl h⟩ ⟨fun _ => ⟨hC2, rfl⟩, fun h => absurd rfl h⟩
  have hz1 : Z1.heap.size = W2.heap.size + 1 := by omega
  clear hZ1 hZ2 cZ1 cZ2 bZ1 bZ2 sZ1 sZ2 u2 hC2 e1 hfl hrw hb2 hou
  go_wp2_with fail
  rw [HZ1.out, HZ2.out]
  refine hsm.mono ?_
  rintro e W3 ⟨rfl, hb3⟩
  have HB3 := Lib.hid (HBZ.out.trans (hb3.mono HBZ.out.size))
  clear hsm hb3
  go_wp2_with fail
  go_ret
  exact ⟨rfl, HB3.out⟩
end Go.Proofs.YtnopnjklcdcckaaGreatDoor
namespace Go.Proofs.YtnopnjklcdcckaaGreatDoor
set_option linter.unusedVariables false

theorem dec_front (m : Nat) (t : List Int) (h : m ≤ 18446744073709551615) : dec 0 0 (vint m ++ t) = ((m : Int), ((vint m).length : Int), 0) := by
  have := dec_vint m 0 0 t (by simp) (by omega) (by simp; omega)
  rw [show (0 : Int) = ((0 : Nat) : Int) from rfl, this]
  simp
theorem low_front4 (n : Int) (t : List Int) (h0 : 0 ≤ n) (h1 : n ≤ 4294967295) : low ((lob n 4 ++ t).take 4) = n := by
  rw [List.take_append_of_le_length (by rw [lob_length]; omega), List.take_of_length_le (by rw [lob_length]; omega), low_lob]; omega
theorem low_front8 (n : Int) (t : List Int) (h0 : 0 ≤ n) (h1 : n ≤ 18446744073709551615) : low ((lob n 8 ++ t).take 8) = n := by
  rw [List.take_append_of_le_length (by rw [lob_length]; omega), List.take_of_length_le (by rw [lob_length]; omega), low_lob]; omega
/-- what stands behind a field's first varint -/
def frest (ty n : Int) (d : List Int) : List Int := if ty = 0 then vint n.toNat else if ty = 1 then lob n 8 else if ty = 5 then lob n 4 else vint d.length ++ d
theorem fbytes_eq (num ty n : Int) (d : List Int) : fbytes num ty n d = vint (8 * num + ty).toNat ++ frest ty n d := rfl
theorem fmd_spec {num ty n : Int} {len : Nat} (h : fmd num ty n len = true) : 1 ≤ num ∧ num ≤ 536870911 ∧ (((ty = 0 ∨ ty = 1) ∧ len = 0) ∨ (ty = 5 ∧ len = 0 ∧ n < 4294967296) ∨ (ty = 2 ∧ n = 0)) := by
  unfold fmd at h; simpa using h

theorem tf_front (num ty n : Int) (d t : List Int) (hf : fmd num ty n d.length = true) (h0 : 0 ≤ n) (h1 : n ≤ 18446744073709551615) (hd : d.length ≤ 18446744073709551615) :
    tf (fbytes num ty n d ++ t) = ⟨num, ty, n, d, ((fbytes num ty n d).length : Int), 0⟩ := by
  obtain ⟨hm0, hm1, hty⟩ := fmd_spec hf
  have hty5 : 0 ≤ ty ∧ ty ≤ 5 := by omega
  rw [fbytes_eq, List.append_assoc, List.length_append]
  unfold tf
  rw [dec_front _ _ (by omega)]
  simp only []
  rw [if_neg (by simp), Int.toNat_natCast, List.drop_left]
  have hN : (((8 * num + ty).toNat : Nat) : Int) = 8 * num + ty := by omega
  rw [hN]
  generalize (vint (8 * num + ty).toNat).length = L
  unfold tfBody
  rw [show (8 * num + ty) / 8 = num by omega, show (8 * num + ty) % 8 = ty by omega]
  rw [if_neg (by omega)]
  rcases hty with ⟨rfl | rfl, hl⟩ | ⟨rfl, hl, hn⟩ | ⟨rfl, rfl⟩
  · obtain rfl : d = [] := List.eq_nil_of_length_eq_zero hl
    rw [if_pos rfl, show frest 0 n [] = vint n.toNat from rfl, dec_front _ _ (by omega)]
    simp only []
    rw [if_neg (by simp), show ((n.toNat : Nat) : Int) = n by omega]
    simp
  · obtain rfl : d = [] := List.eq_nil_of_length_eq_zero hl
    rw [if_neg (by omega), if_neg (by omega), if_neg (by omega), show frest 1 n [] = lob n 8 from rfl]
    rw [if_neg (by rw [List.length_append, lob_length]; omega), low_front8 n t h0 h1, lob_length]
    simp
  · obtain rfl : d = [] := List.eq_nil_of_length_eq_zero hl
    rw [if_neg (by omega), if_neg (by omega), if_pos rfl, show frest 5 n [] = lob n 4 from rfl]
    rw [if_neg (by rw [List.length_append, lob_length]; omega), low_front4 n t h0 (by omega), lob_length]
    simp
  · rw [if_neg (by omega), if_pos rfl, show frest 2 0 d = vint d.length ++ d from rfl, List.append_assoc, dec_front _ _ (by omega)]
    simp only []
    rw [if_neg (by simp), if_neg (by simp only [List.length_append]; omega), Int.toNat_natCast, Int.toNat_natCast, List.drop_left, List.take_left]
    simp only [List.length_append]
    congr 1
    omega

end Go.Proofs.YtnopnjklcdcckaaGreatDoor
namespace Go.Proofs.YtnopnjklcdcckaaGreatDoor
set_option linter.unusedVariables false

def wiresF (rec : Nd → List Int) (fs : List FD) (p : Int × List Nd) : List WF := match firstF fs p.1 with
  | none => []
  | some fd => wireL rec fd p.2
theorem fldB_wires (rec : Nd → List Int) (fs : List FD) (p : Int × List Nd) : fldB rec fs p = (wiresF rec fs p).flatMap WF.bytes := by
  unfold fldB wiresF
  cases firstF fs p.1 <;> rfl
theorem wire_num {rec : Nd → List Int} {fd : FD} {vs : List Nd} : ∀ x ∈ wireL rec fd vs, x.num = fd.num := by
  intro x hx
  unfold wireL at hx
  split at hx
  · have e : x = ⟨fd.num, 2, 0, packL fd.kind vs⟩ := by simpa using hx
    rw [e]
  · obtain ⟨y, _, rfl⟩ := List.mem_map.1 hx
    unfold singW
    split <;> rfl
theorem wires_num (rec : Nd → List Int) (fs : List FD) (p : Int × List Nd) : ∀ q ∈ (wiresF rec fs p).map (fun f => (f.num, f.ty)), q.1 = p.1 := by
  intro q hq
  obtain ⟨x, hx, rfl⟩ := List.mem_map.1 hq
  unfold wiresF at hx
  cases h : firstF fs p.1 with
  | none => rw [h] at hx; cases hx
  | some fd =>
    rw [h] at hx
    exact (wire_num x hx).trans (firstF_some h).2
theorem flatMap_two {α β γ : Type} (g : α → List β) (h : β → List γ) (l : List α) : (l.flatMap fun a => (g a).flatMap h) = (l.flatMap g).flatMap h := by
  induction l with
  | nil => rfl
  | cons a l ih => rw [List.flatMap_cons, List.flatMap_cons, List.flatMap_append, ih]
theorem contB_ok (ms : List MD) (f : Nat) (y : Nd) : ∀ z ∈ contB (msgB ms f) y, 0 ≤ z ∧ z ≤ 255 := by
  unfold contB
  split
  · exact ints_ok _
  · split
    · exact msgB_ok ms f y
    · intro z hz; cases hz
end Go.Proofs.YtnopnjklcdcckaaGreatDoor
namespace Go.Proofs.YtnopnjklcdcckaaGreatDoor
set_option linter.unusedVariables false

def pcOf (f : WF) : TF × List Int := (⟨f.num, f.ty, f.n, f.d, (f.bytes.length : Int), 0⟩, f.bytes)
end Go.Proofs.YtnopnjklcdcckaaGreatDoor
