/-
  The walks over the program's own name, number, fieldType, field, value and method, and over all of each: whether they are formed.
-/
import Derived.Test.YtpojeinddnjpfaaGreatDoorM0
import Derived.Test.YtpojeinddnjpfaaGreatDoorM21
import Derived.Test.YtpojeinddnjpfaaGreatDoorM17
import Derived.Test.YtpojeinddnjpfaaGreatDoorM16
namespace Go.Proofs.YtpojeinddnjpfaaGreatDoor
set_option linter.unusedVariables false
open Go.ChangeShapes Go.WideShapes Go.ChangeAt Go.RowKit

set_option maxHeartbeats 2000000 in
theorem nameP_any (l : List UInt8) (w : World) (hl : l.length ≤ 200000000) :
  Calls Tryz.prog 97 #[.string (mkB l)] w fun e w' => e = .returned (.bool (plainL l)) ∧ Below w.heap.size w w' := by
 have hN := fun W => name_any (mkB l) W (by rw [mkB_size]; omega)
 have hR := fun W => reservedD_any (mkB l) W
 rw [mkB_list] at hR
 have HP : Hid (plainL l = (nameOf (runes (mkB l)) && !resOf l)) := rfl
 generalize plainL l = P at *
 generalize nameOf (runes (mkB l)) = a at *
 generalize resOf l = c at *
 go_enter Tryz.func97, Tryz.ntmps97
 cases a with
 | false =>
  go_wp2_with fail
  refine (hN _).mono ?_
  rintro e w1 ⟨rfl, hb⟩
  clear hN hR
  go_wp2_with fail
  go_ret
  exact ⟨retB (by rw [HP.out]; rfl), hb⟩
 | true =>
  go_wp2_with fail
  refine (hN _).mono ?_
  rintro e w1 ⟨rfl, hb⟩
  go_wp2_with fail
  refine (hR _).mono ?_
  rintro e w2 ⟨rfl, rfl⟩
  clear hN hR
  go_wp2_with fail
  go_ret
  exact ⟨retB (by rw [HP.out]; cases c <;> rfl), hb⟩
set_option maxHeartbeats 2000000 in
theorem numberP_any (n : Int) (w : World) :
  Calls Tryz.prog 171 #[.int .i64 n] w fun e w' => e = .returned (.bool (numOK n)) ∧ Below w.heap.size w w' := by
 unfold numOK
 by_cases h0 : 0 ≤ n
 ·by_cases h1 : n ≤ 2147483647
  ·go_enter Tryz.func171, Tryz.ntmps171
   go_wp2
   go_ret
   exact ⟨retB (by simp; omega), Below.refl _ _⟩
  ·go_enter Tryz.func171, Tryz.ntmps171
   go_wp2
   go_ret
   exact ⟨retB (by simp; omega), Below.refl _ _⟩
 ·go_enter Tryz.func171, Tryz.ntmps171
  go_wp2
  go_ret
  exact ⟨retB (by simp; omega), Below.refl _ _⟩
theorem pathQ_any (l : List UInt8) (w : World) (hl : l.length ≤ 200000000) :
  Calls Tryz.prog 172 #[.string (mkB l)] w fun e w' => e = .returned (.bool (pathOK l)) ∧ Below w.heap.size w w' := by
 have := pathP_any (mkB l) w (by rw [mkB_size]; exact hl)
 rw [show (mkB l).data.toList = l from rfl] at this
 exact this
set_option maxHeartbeats 4000000 in
theorem fieldTypeP_any (l : List UInt8) (w : World) (hl : l.length ≤ 200000000) :
    Calls Tryz.prog 170 #[.string (mkB l)] w fun e w' => e = .returned (.bool (typeOK l)) ∧ Below w.heap.size w w' := by
  have hP := fun W => pathQ_any l W hl
  have HS : Hid (typeOK l = (decide (0 < scalarOf (mkB l).toList) || pathOK l)) := by rw [mkB_list]; exact rfl
  generalize mkB l = s at *
  generalize typeOK l = T at *
  generalize pathOK l = p at *
  go_enter Tryz.func170, Tryz.ntmps170
  go_wp2_with (go_at_call 172; refine (hP _).mono ?_; rintro e w' ⟨rfl, hb⟩)
  all_goals
    go_ret
    clear hP
    first
      | (refine ⟨retB ?_, hb⟩
         rw [HS.out]
         unfold scalarOf
         simp_all
         done)
      | (refine ⟨retB ?_, Below.refl _ _⟩
         rw [HS.out]
         unfold scalarOf
         simp_all)
set_option maxHeartbeats 4000000 in
set_option maxRecDepth 20000 in
theorem oneF_any (x : Fd) (w : World) (hx : TF x) :
  Calls Tryz.prog 136 #[.agg #[.bool x.rep, .string (mkB x.type), .string (mkB x.name), .int .i64 x.num, .int .i64 x.line, .int .i64 x.col]] w fun e w' => e = .returned (.bool (fOK x)) ∧ Below w.heap.size w w' := by
 have h0 := fun W => fieldTypeP_any x.type W hx.1
 have h1 := fun W => nameP_any x.name W hx.2
 have h2 := fun W => numberP_any x.num W
 have HOK : Hid (fOK x = (typeOK x.type && plainL x.name && numOK x.num)) := rfl
 clear hx
 generalize fOK x = OK at *
 generalize typeOK x.type = b0 at *
 generalize plainL x.name = b1 at *
 generalize numOK x.num = b2 at *
 have hbV := (Below.refl w.heap.size w).alloc (Nat.le_refl _) (.cells #[.bool x.rep, .string (mkB x.type), .string (mkB x.name), .int .i64 x.num, .int .i64 x.line, .int .i64 x.col] 71)
 have hV : (w.alloc (.cells #[.bool x.rep, .string (mkB x.type), .string (mkB x.name), .int .i64 x.num, .int .i64 x.line, .int .i64 x.col] 71)).heap[w.heap.size]? = some (.cells #[.bool x.rep, .string (mkB x.type), .string (mkB x.name), .int .i64 x.num, .int .i64 x.line, .int .i64 x.col] 71 (0, 0)) := alloc_heap_new _ _
 go_enter Tryz.func136, Tryz.ntmps136
 go_upto_region 1 with fail
 generalize (w.alloc (.cells #[.bool x.rep, .string (mkB x.type), .string (mkB x.name), .int .i64 x.num, .int .i64 x.line, .int .i64 x.col] 71)) = V at *
 have HB := Lib.hid hbV
 have HV := Lib.hid hV
 have hs := hbV.size
 have hlt := blk_lt hV
 clear hbV hV
 have hv0 : V.heap[w.heap.size]? = some (.cells #[.bool x.rep, .string (mkB x.type), .string (mkB x.name), .int .i64 x.num, .int .i64 x.line, .int .i64 x.col] 71 (0, 0)) := HV.out
 have c0 := cell_at hv0 1 rfl
 have HV0 := Lib.hid hv0
 have hlt0 := blk_lt hv0
 clear hv0
 go_wp2_with fail
 refine (h0 _).mono ?_
 rintro e Y0 ⟨rfl, hb0⟩
 have HB0 := Lib.hid (HB.out.trans (hb0.mono HB.out.size))
 have HVn0 := Lib.hid ((hb0.block _ hlt0).trans HV0.out)
 clear c0 hb0
 cases b0 with
 | false =>
  clear h0 h1 h2
  go_wp2_with fail
  go_ret
  exact ⟨retB (by rw [HOK.out]; simp), HB0.out⟩
 | true =>
  have hv1 : Y0.heap[w.heap.size]? = some (.cells #[.bool x.rep, .string (mkB x.type), .string (mkB x.name), .int .i64 x.num, .int .i64 x.line, .int .i64 x.col] 71 (0, 0)) := HVn0.out
  have c1 := cell_at hv1 2 rfl
  have HV1 := Lib.hid hv1
  have hlt1 := blk_lt hv1
  clear hv1
  go_wp2_with fail
  refine (h1 _).mono ?_
  rintro e Y1 ⟨rfl, hb1⟩
  have HB1 := Lib.hid (HB0.out.trans (hb1.mono HB0.out.size))
  have HVn1 := Lib.hid ((hb1.block _ hlt1).trans HV1.out)
  clear c1 hb1
  cases b1 with
  | false =>
   clear h0 h1 h2
   go_wp2_with fail
   go_ret
   exact ⟨retB (by rw [HOK.out]; simp), HB1.out⟩
  | true =>
   have hv2 : Y1.heap[w.heap.size]? = some (.cells #[.bool x.rep, .string (mkB x.type), .string (mkB x.name), .int .i64 x.num, .int .i64 x.line, .int .i64 x.col] 71 (0, 0)) := HVn1.out
   have c2 := cell_at hv2 3 rfl
   have HV2 := Lib.hid hv2
   have hlt2 := blk_lt hv2
   clear hv2
   go_wp2_with fail
   refine (h2 _).mono ?_
   rintro e Y2 ⟨rfl, hb2⟩
   have HB2 := Lib.hid (HB1.out.trans (hb2.mono HB1.out.size))
   have HVn2 := Lib.hid ((hb2.block _ hlt2).trans HV2.out)
   clear c2 hb2
   clear h0 h1 h2
   go_wp2_with fail
   go_ret
   exact ⟨retB (by rw [HOK.out]; simp), HB2.out⟩
set_option maxHeartbeats 8000000 in
set_option maxRecDepth 20000 in
theorem allF_any {S : Nat → Prop} (v : Value) (xs : List Fd) (w : World) (h1 : RowsIn w S 6 frow v xs) (hS : ∀ b, S b → b < w.heap.size) (hl : xs.length ≤ 100000) (ht : ∀ x ∈ xs, TF x) :
  Calls Tryz.prog 135 #[v, .func (.func 136) #[] #[]] w fun e w' => e = .returned (.bool (xs.all fOK)) ∧ Below w.heap.size w w' := by
 obtain ⟨ad, c, rfl, hc, H⟩ := h1
 have Hf := Lib.hid H
 have HT := Lib.hid ht
 clear H ht
 go_enter Tryz.func135, Tryz.ntmps135
 go_wp2_with fail
 go_loopw [9] (fun kk wq => ∃ q : Nat, kk = .int .i64 (q : Int) ∧ q ≤ xs.length ∧ xs.all fOK = (xs.drop q).all fOK ∧ Below w.heap.size w wq) (fun kk _ => xs.length - (intOf kk).toNat)
 case atStart => exact ⟨0, rfl, by omega, rfl, Below.refl _ _⟩
 case round =>
  obtain ⟨q, rfl, hq, hall, hbq⟩ := hrel
  have HBQ := Lib.hid hbq
  have HAL := Lib.hid hall
  have hsq := hbq.size
  clear hbq hall
  by_cases hqn : q < xs.length
  ·obtain ⟨x, hx⟩ : ∃ x, xs[q]? = some x := ⟨_, List.getElem?_eq_getElem hqn⟩
   rcases Hf.out with h0 | ⟨g, o, rfl, hg, hk⟩
   ·rw [h0] at hx; simp at hx
   have b3 := HBQ.out.block g (hS g hg)
   have hcell := hk q x hx
   have e0 : wr.cell? ⟨g, o + q * 6, none⟩ = some (.bool x.rep) := by
    rw [World.cell?_of_block b3]
    have := hcell 0 _ rfl
    simpa [Nat.add_assoc] using this
   have e1 : wr.cell? ⟨g, o + q * 6 + 1, none⟩ = some (.string (mkB x.type)) := by
    rw [World.cell?_of_block b3]
    have := hcell 1 _ rfl
    simpa [Nat.add_assoc] using this
   have e2 : wr.cell? ⟨g, o + q * 6 + 2, none⟩ = some (.string (mkB x.name)) := by
    rw [World.cell?_of_block b3]
    have := hcell 2 _ rfl
    simpa [Nat.add_assoc] using this
   have e3 : wr.cell? ⟨g, o + q * 6 + 3, none⟩ = some (.int .i64 x.num) := by
    rw [World.cell?_of_block b3]
    have := hcell 3 _ rfl
    simpa [Nat.add_assoc] using this
   have e4 : wr.cell? ⟨g, o + q * 6 + 4, none⟩ = some (.int .i64 x.line) := by
    rw [World.cell?_of_block b3]
    have := hcell 4 _ rfl
    simpa [Nat.add_assoc] using this
   have e5 : wr.cell? ⟨g, o + q * 6 + 5, none⟩ = some (.int .i64 x.col) := by
    rw [World.cell?_of_block b3]
    have := hcell 5 _ rfl
    simpa [Nat.add_assoc] using this
   have hq0 : (0 : Int) ≤ (q : Int) := by omega
   have hq1 : (q : Int) < (xs.length : Int) := by omega
   have hwq : IntKind.i64.wrap ((q : Int) + 1) = (q : Int) + 1 := by rw [IntKind.wrap_i64]; omega
   have HX : Hid (xs.all fOK = (fOK x && (xs.drop (q + 1)).all fOK)) := by
    refine (?_ : _ = _)
    rw [HAL.out, List.drop_eq_getElem_cons hqn, List.all_cons, (List.getElem?_eq_some_iff.1 hx).2]
   have hCall := fun W => oneF_any x W (HT.out x (List.mem_of_getElem? hx))
   have hbY := HBQ.out.alloc hsq (.cells #[.bool x.rep, .string (mkB x.type), .string (mkB x.name), .int .i64 x.num, .int .i64 x.line, .int .i64 x.col] 71)
   have HBY := Lib.hid hbY
   clear hx hk b3 hcell hbY
   generalize fOK x = OK at *
   go_wp2_with fail
   refine (hCall _).mono ?_
   rintro e Y ⟨rfl, hbw⟩
   have HBZ := Lib.hid (HBY.out.trans (hbw.mono HBY.out.size))
   clear hCall hbw e0 e1 e2 e3 e4 e5
   cases OK with
   | false =>
    go_wp2_with fail
    go_ret
    exact ⟨retB (by rw [HX.out]; rfl), HBZ.out⟩
   | true =>
    go_wp2_with fail
    go_roundw
    case rel => exact ⟨q + 1, by go_num, by omega, by rw [HX.out]; rfl, HBZ.out⟩
    case measure => simp [intOf]; omega
  ·have hqn' : ¬ (q : Int) < (xs.length : Int) := by omega
   have hal : xs.all fOK = true := by rw [HAL.out, List.drop_eq_nil_of_le (by omega)]; rfl
   have HA := Lib.hid hal
   clear hal
   go_wp2_with fail
   go_ret
   exact ⟨retB (by rw [HA.out]), HBQ.out⟩
set_option maxHeartbeats 4000000 in
set_option maxRecDepth 20000 in
theorem oneV_any (x : Vl) (w : World) (hx : TV x) :
  Calls Tryz.prog 138 #[.agg #[.string (mkB x.name), .int .i64 x.num, .int .i64 x.line, .int .i64 x.col]] w fun e w' => e = .returned (.bool (vOK x)) ∧ Below w.heap.size w w' := by
 have h0 := fun W => nameP_any x.name W hx
 have h1 := fun W => numberP_any x.num W
 have HOK : Hid (vOK x = (plainL x.name && numOK x.num)) := rfl
 clear hx
 generalize vOK x = OK at *
 generalize plainL x.name = b0 at *
 generalize numOK x.num = b1 at *
 have hbV := (Below.refl w.heap.size w).alloc (Nat.le_refl _) (.cells #[.string (mkB x.name), .int .i64 x.num, .int .i64 x.line, .int .i64 x.col] 74)
 have hV : (w.alloc (.cells #[.string (mkB x.name), .int .i64 x.num, .int .i64 x.line, .int .i64 x.col] 74)).heap[w.heap.size]? = some (.cells #[.string (mkB x.name), .int .i64 x.num, .int .i64 x.line, .int .i64 x.col] 74 (0, 0)) := alloc_heap_new _ _
 go_enter Tryz.func138, Tryz.ntmps138
 go_upto_region 1 with fail
 generalize (w.alloc (.cells #[.string (mkB x.name), .int .i64 x.num, .int .i64 x.line, .int .i64 x.col] 74)) = V at *
 have HB := Lib.hid hbV
 have HV := Lib.hid hV
 have hs := hbV.size
 have hlt := blk_lt hV
 clear hbV hV
 have hv0 : V.heap[w.heap.size]? = some (.cells #[.string (mkB x.name), .int .i64 x.num, .int .i64 x.line, .int .i64 x.col] 74 (0, 0)) := HV.out
 have c0 := cell_at hv0 0 rfl
 have HV0 := Lib.hid hv0
 have hlt0 := blk_lt hv0
 clear hv0
 go_wp2_with fail
 refine (h0 _).mono ?_
 rintro e Y0 ⟨rfl, hb0⟩
 have HB0 := Lib.hid (HB.out.trans (hb0.mono HB.out.size))
 have HVn0 := Lib.hid ((hb0.block _ hlt0).trans HV0.out)
 clear c0 hb0
 cases b0 with
 | false =>
  clear h0 h1
  go_wp2_with fail
  go_ret
  exact ⟨retB (by rw [HOK.out]; simp), HB0.out⟩
 | true =>
  have hv1 : Y0.heap[w.heap.size]? = some (.cells #[.string (mkB x.name), .int .i64 x.num, .int .i64 x.line, .int .i64 x.col] 74 (0, 0)) := HVn0.out
  have c1 := cell_at hv1 1 rfl
  have HV1 := Lib.hid hv1
  have hlt1 := blk_lt hv1
  clear hv1
  go_wp2_with fail
  refine (h1 _).mono ?_
  rintro e Y1 ⟨rfl, hb1⟩
  have HB1 := Lib.hid (HB0.out.trans (hb1.mono HB0.out.size))
  have HVn1 := Lib.hid ((hb1.block _ hlt1).trans HV1.out)
  clear c1 hb1
  clear h0 h1
  go_wp2_with fail
  go_ret
  exact ⟨retB (by rw [HOK.out]; simp), HB1.out⟩
set_option maxHeartbeats 8000000 in
set_option maxRecDepth 20000 in
theorem allV_any {S : Nat → Prop} (v : Value) (xs : List Vl) (w : World) (h1 : RowsIn w S 4 vrow v xs) (hS : ∀ b, S b → b < w.heap.size) (hl : xs.length ≤ 100000) (ht : ∀ x ∈ xs, TV x) :
  Calls Tryz.prog 137 #[v, .func (.func 138) #[] #[]] w fun e w' => e = .returned (.bool (xs.all vOK)) ∧ Below w.heap.size w w' := by
 obtain ⟨ad, c, rfl, hc, H⟩ := h1
 have Hf := Lib.hid H
 have HT := Lib.hid ht
 clear H ht
 go_enter Tryz.func137, Tryz.ntmps137
 go_wp2_with fail
 go_loopw [9] (fun kk wq => ∃ q : Nat, kk = .int .i64 (q : Int) ∧ q ≤ xs.length ∧ xs.all vOK = (xs.drop q).all vOK ∧ Below w.heap.size w wq) (fun kk _ => xs.length - (intOf kk).toNat)
 case atStart => exact ⟨0, rfl, by omega, rfl, Below.refl _ _⟩
 case round =>
  obtain ⟨q, rfl, hq, hall, hbq⟩ := hrel
  have HBQ := Lib.hid hbq
  have HAL := Lib.hid hall
  have hsq := hbq.size
  clear hbq hall
  by_cases hqn : q < xs.length
  ·obtain ⟨x, hx⟩ : ∃ x, xs[q]? = some x := ⟨_, List.getElem?_eq_getElem hqn⟩
   rcases Hf.out with h0 | ⟨g, o, rfl, hg, hk⟩
   ·rw [h0] at hx; simp at hx
   have b3 := HBQ.out.block g (hS g hg)
   have hcell := hk q x hx
   have e0 : wr.cell? ⟨g, o + q * 4, none⟩ = some (.string (mkB x.name)) := by
    rw [World.cell?_of_block b3]
    have := hcell 0 _ rfl
    simpa [Nat.add_assoc] using this
   have e1 : wr.cell? ⟨g, o + q * 4 + 1, none⟩ = some (.int .i64 x.num) := by
    rw [World.cell?_of_block b3]
    have := hcell 1 _ rfl
    simpa [Nat.add_assoc] using this
   have e2 : wr.cell? ⟨g, o + q * 4 + 2, none⟩ = some (.int .i64 x.line) := by
    rw [World.cell?_of_block b3]
    have := hcell 2 _ rfl
    simpa [Nat.add_assoc] using this
   have e3 : wr.cell? ⟨g, o + q * 4 + 3, none⟩ = some (.int .i64 x.col) := by
    rw [World.cell?_of_block b3]
    have := hcell 3 _ rfl
    simpa [Nat.add_assoc] using this
   have hq0 : (0 : Int) ≤ (q : Int) := by omega
   have hq1 : (q : Int) < (xs.length : Int) := by omega
   have hwq : IntKind.i64.wrap ((q : Int) + 1) = (q : Int) + 1 := by rw [IntKind.wrap_i64]; omega
   have HX : Hid (xs.all vOK = (vOK x && (xs.drop (q + 1)).all vOK)) := by
    refine (?_ : _ = _)
    rw [HAL.out, List.drop_eq_getElem_cons hqn, List.all_cons, (List.getElem?_eq_some_iff.1 hx).2]
   have hCall := fun W => oneV_any x W (HT.out x (List.mem_of_getElem? hx))
   have hbY := HBQ.out.alloc hsq (.cells #[.string (mkB x.name), .int .i64 x.num, .int .i64 x.line, .int .i64 x.col] 74)
   have HBY := Lib.hid hbY
   clear hx hk b3 hcell hbY
   generalize vOK x = OK at *
   go_wp2_with fail
   refine (hCall _).mono ?_
   rintro e Y ⟨rfl, hbw⟩
   have HBZ := Lib.hid (HBY.out.trans (hbw.mono HBY.out.size))
   clear hCall hbw e0 e1 e2 e3
   cases OK with
   | false =>
    go_wp2_with fail
    go_ret
    exact ⟨retB (by rw [HX.out]; rfl), HBZ.out⟩
   | true =>
    go_wp2_with fail
    go_roundw
    case rel => exact ⟨q + 1, by go_num, by omega, by rw [HX.out]; rfl, HBZ.out⟩
    case measure => simp [intOf]; omega
  ·have hqn' : ¬ (q : Int) < (xs.length : Int) := by omega
   have hal : xs.all vOK = true := by rw [HAL.out, List.drop_eq_nil_of_le (by omega)]; rfl
   have HA := Lib.hid hal
   clear hal
   go_wp2_with fail
   go_ret
   exact ⟨retB (by rw [HA.out]), HBQ.out⟩
set_option maxHeartbeats 4000000 in
set_option maxRecDepth 20000 in
theorem oneM_any (x : Mt) (w : World) (hx : TM x) :
  Calls Tryz.prog 140 #[.agg #[.string (mkB x.name), .string (mkB x.inp), .string (mkB x.out), .int .i64 x.line, .int .i64 x.col]] w fun e w' => e = .returned (.bool (mOK x)) ∧ Below w.heap.size w w' := by
 have h0 := fun W => nameP_any x.name W hx.1
 have h1 := fun W => pathQ_any x.inp W hx.2.1
 have h2 := fun W => pathQ_any x.out W hx.2.2
 have HOK : Hid (mOK x = (plainL x.name && pathOK x.inp && pathOK x.out)) := rfl
 clear hx
 generalize mOK x = OK at *
 generalize plainL x.name = b0 at *
 generalize pathOK x.inp = b1 at *
 generalize pathOK x.out = b2 at *
 have hbV := (Below.refl w.heap.size w).alloc (Nat.le_refl _) (.cells #[.string (mkB x.name), .string (mkB x.inp), .string (mkB x.out), .int .i64 x.line, .int .i64 x.col] 77)
 have hV : (w.alloc (.cells #[.string (mkB x.name), .string (mkB x.inp), .string (mkB x.out), .int .i64 x.line, .int .i64 x.col] 77)).heap[w.heap.size]? = some (.cells #[.string (mkB x.name), .string (mkB x.inp), .string (mkB x.out), .int .i64 x.line, .int .i64 x.col] 77 (0, 0)) := alloc_heap_new _ _
 go_enter Tryz.func140, Tryz.ntmps140
 go_upto_region 1 with fail
 generalize (w.alloc (.cells #[.string (mkB x.name), .string (mkB x.inp), .string (mkB x.out), .int .i64 x.line, .int .i64 x.col] 77)) = V at *
 have HB := Lib.hid hbV
 have HV := Lib.hid hV
 have hs := hbV.size
 have hlt := blk_lt hV
 clear hbV hV
 have hv0 : V.heap[w.heap.size]? = some (.cells #[.string (mkB x.name), .string (mkB x.inp), .string (mkB x.out), .int .i64 x.line, .int .i64 x.col] 77 (0, 0)) := HV.out
 have c0 := cell_at hv0 0 rfl
 have HV0 := Lib.hid hv0
 have hlt0 := blk_lt hv0
 clear hv0
 go_wp2_with fail
 refine (h0 _).mono ?_
 rintro e Y0 ⟨rfl, hb0⟩
 have HB0 := Lib.hid (HB.out.trans (hb0.mono HB.out.size))
 have HVn0 := Lib.hid ((hb0.block _ hlt0).trans HV0.out)
 clear c0 hb0
 cases b0 with
 | false =>
  clear h0 h1 h2
  go_wp2_with fail
  go_ret
  exact ⟨retB (by rw [HOK.out]; simp), HB0.out⟩
 | true =>
  have hv1 : Y0.heap[w.heap.size]? = some (.cells #[.string (mkB x.name), .string (mkB x.inp), .string (mkB x.out), .int .i64 x.line, .int .i64 x.col] 77 (0, 0)) := HVn0.out
  have c1 := cell_at hv1 1 rfl
  have HV1 := Lib.hid hv1
  have hlt1 := blk_lt hv1
  clear hv1
  go_wp2_with fail
  refine (h1 _).mono ?_
  rintro e Y1 ⟨rfl, hb1⟩
  have HB1 := Lib.hid (HB0.out.trans (hb1.mono HB0.out.size))
  have HVn1 := Lib.hid ((hb1.block _ hlt1).trans HV1.out)
  clear c1 hb1
  cases b1 with
  | false =>
   clear h0 h1 h2
   go_wp2_with fail
   go_ret
   exact ⟨retB (by rw [HOK.out]; simp), HB1.out⟩
  | true =>
   have hv2 : Y1.heap[w.heap.size]? = some (.cells #[.string (mkB x.name), .string (mkB x.inp), .string (mkB x.out), .int .i64 x.line, .int .i64 x.col] 77 (0, 0)) := HVn1.out
   have c2 := cell_at hv2 2 rfl
   have HV2 := Lib.hid hv2
   have hlt2 := blk_lt hv2
   clear hv2
   go_wp2_with fail
   refine (h2 _).mono ?_
   rintro e Y2 ⟨rfl, hb2⟩
   have HB2 := Lib.hid (HB1.out.trans (hb2.mono HB1.out.size))
   have HVn2 := Lib.hid ((hb2.block _ hlt2).trans HV2.out)
   clear c2 hb2
   clear h0 h1 h2
   go_wp2_with fail
   go_ret
   exact ⟨retB (by rw [HOK.out]; simp), HB2.out⟩
set_option maxHeartbeats 8000000 in
set_option maxRecDepth 20000 in
theorem allM_any {S : Nat → Prop} (v : Value) (xs : List Mt) (w : World) (h1 : RowsIn w S 5 mrow v xs) (hS : ∀ b, S b → b < w.heap.size) (hl : xs.length ≤ 100000) (ht : ∀ x ∈ xs, TM x) :
  Calls Tryz.prog 139 #[v, .func (.func 140) #[] #[]] w fun e w' => e = .returned (.bool (xs.all mOK)) ∧ Below w.heap.size w w' := by
 obtain ⟨ad, c, rfl, hc, H⟩ := h1
 have Hf := Lib.hid H
 have HT := Lib.hid ht
 clear H ht
 go_enter Tryz.func139, Tryz.ntmps139
 go_wp2_with fail
 go_loopw [9] (fun kk wq => ∃ q : Nat, kk = .int .i64 (q : Int) ∧ q ≤ xs.length ∧ xs.all mOK = (xs.drop q).all mOK ∧ Below w.heap.size w wq) (fun kk _ => xs.length - (intOf kk).toNat)
 case atStart => exact ⟨0, rfl, by omega, rfl, Below.refl _ _⟩
 case round =>
  obtain ⟨q, rfl, hq, hall, hbq⟩ := hrel
  have HBQ := Lib.hid hbq
  have HAL := Lib.hid hall
  have hsq := hbq.size
  clear hbq hall
  by_cases hqn : q < xs.length
  ·obtain ⟨x, hx⟩ : ∃ x, xs[q]? = some x := ⟨_, List.getElem?_eq_getElem hqn⟩
   rcases Hf.out with h0 | ⟨g, o, rfl, hg, hk⟩
   ·rw [h0] at hx; simp at hx
   have b3 := HBQ.out.block g (hS g hg)
   have hcell := hk q x hx
   have e0 : wr.cell? ⟨g, o + q * 5, none⟩ = some (.string (mkB x.name)) := by
    rw [World.cell?_of_block b3]
    have := hcell 0 _ rfl
    simpa [Nat.add_assoc] using this
   have e1 : wr.cell? ⟨g, o + q * 5 + 1, none⟩ = some (.string (mkB x.inp)) := by
    rw [World.cell?_of_block b3]
    have := hcell 1 _ rfl
    simpa [Nat.add_assoc] using this
   have e2 : wr.cell? ⟨g, o + q * 5 + 2, none⟩ = some (.string (mkB x.out)) := by
    rw [World.cell?_of_block b3]
    have := hcell 2 _ rfl
    simpa [Nat.add_assoc] using this
   have e3 : wr.cell? ⟨g, o + q * 5 + 3, none⟩ = some (.int .i64 x.line) := by
    rw [World.cell?_of_block b3]
    have := hcell 3 _ rfl
    simpa [Nat.add_assoc] using this
   have e4 : wr.cell? ⟨g, o + q * 5 + 4, none⟩ = some (.int .i64 x.col) := by
    rw [World.cell?_of_block b3]
    have := hcell 4 _ rfl
    simpa [Nat.add_assoc] using this
   have hq0 : (0 : Int) ≤ (q : Int) := by omega
   have hq1 : (q : Int) < (xs.length : Int) := by omega
   have hwq : IntKind.i64.wrap ((q : Int) + 1) = (q : Int) + 1 := by rw [IntKind.wrap_i64]; omega
   have HX : Hid (xs.all mOK = (mOK x && (xs.drop (q + 1)).all mOK)) := by
    refine (?_ : _ = _)
    rw [HAL.out, List.drop_eq_getElem_cons hqn, List.all_cons, (List.getElem?_eq_some_iff.1 hx).2]
   have hCall := fun W => oneM_any x W (HT.out x (List.mem_of_getElem? hx))
   have hbY := HBQ.out.alloc hsq (.cells #[.string (mkB x.name), .string (mkB x.inp), .string (mkB x.out), .int .i64 x.line, .int .i64 x.col] 77)
   have HBY := Lib.hid hbY
   clear hx hk b3 hcell hbY
   generalize mOK x = OK at *
   go_wp2_with fail
   refine (hCall _).mono ?_
   rintro e Y ⟨rfl, hbw⟩
   have HBZ := Lib.hid (HBY.out.trans (hbw.mono HBY.out.size))
   clear hCall hbw e0 e1 e2 e3 e4
   cases OK with
   | false =>
    go_wp2_with fail
    go_ret
    exact ⟨retB (by rw [HX.out]; rfl), HBZ.out⟩
   | true =>
    go_wp2_with fail
    go_roundw
    case rel => exact ⟨q + 1, by go_num, by omega, by rw [HX.out]; rfl, HBZ.out⟩
    case measure => simp [intOf]; omega
  ·have hqn' : ¬ (q : Int) < (xs.length : Int) := by omega
   have hal : xs.all mOK = true := by rw [HAL.out, List.drop_eq_nil_of_le (by omega)]; rfl
   have HA := Lib.hid hal
   clear hal
   go_wp2_with fail
   go_ret
   exact ⟨retB (by rw [HA.out]), HBQ.out⟩
end Go.Proofs.YtpojeinddnjpfaaGreatDoor
