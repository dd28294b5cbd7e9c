/-
  The walk over the program's own field of a reader.
-/
import Derived.Test.YtpojeinddnjpfaaGreatDoorM0
import Derived.Test.YtpojeinddnjpfaaGreatDoorM7
namespace Go.Proofs.YtpojeinddnjpfaaGreatDoor
set_option linter.unusedVariables false
open Go.ChangeShapes Go.WideShapes Go.ChangeAt Go.RowKit

set_option maxHeartbeats 16000000 in
set_option maxRecDepth 20000 in
theorem fieldD_any {f : Nat} {w0 we : World} {R : Nat} {en : Int × Int} {q : Rd} {nm : List UInt8} {pl pc : Int} {fs ins : Value} {fl : List Fd} {ds : List Dc} {rs : List (List Value)} (h : Dm f w0 we R en q nm pl pc fs ins fl ds rs) (he : q.e = 0) (hbd : fl.length ≤ 100000) :
  Calls Tryz.prog 193 #[.pointer (some ⟨R, 0, none⟩), .pointer (some ⟨w0.heap.size + 1, 0, none⟩)] we fun x w' => ∃ (fd : Fd) (fs' : Value), x = .returned (.bool (decide ((q.field en).2.e = 0))) ∧ ((q.field en).2.e = 0 → fd = (q.field en).1) ∧
   Dm f w0 w' R en (q.field en).2 nm pl pc fs' ins (fl ++ [fd]) ds rs := by
 have hlt := h.lo.lt
 have hszw := h.lo.size
 have hSk := skipD_any R en q ⟨#[114, 101, 112, 101, 97, 116, 101, 100]⟩ we he (by decide) h.lo.rd
 have eR : (ByteArray.mk #[114, 101, 112, 101, 97, 116, 101, 100]).data.toList = tRepeated := rfl
 rw [eR] at hSk
 have hskip : (if q.is tRepeated = true then q.take en tRepeated else q) = q.skip tRepeated := by
  unfold Rd.skip
  by_cases hi : q.is tRepeated = true
  ·rw [if_pos hi, if_pos hi]; unfold Rd.take; rw [if_pos hi]
  ·rw [if_neg hi, if_neg hi]
 have HVE : Hid (q.field en = (⟨q.is tRepeated, ((q.skip tRepeated).typ en).1, ((q.skip tRepeated).typ en).2.nameT, ((((q.skip tRepeated).typ en).2.name en).take en [61]).numberV, (((q.skip tRepeated).typ en).2.nameP en).1, (((q.skip tRepeated).typ en).2.nameP en).2⟩, (((((q.skip tRepeated).typ en).2.name en).take en [61]).number en).take en [59])) := by
  refine (?_ : _ = _)
  rw [← hskip]; rfl
 have hq1e : (q.skip tRepeated).e = 0 := by
  unfold Rd.skip
  split
  ·exact he
  ·exact he
 obtain ⟨VAL, hVAL⟩ : ∃ VAL, q.field en = VAL := ⟨_, rfl⟩
 rw [hVAL] at HVE ⊢
 have HD0 := Lib.hid h
 obtain ⟨fa, fc, rfl⟩ := own_slice h.ownF
 obtain ⟨rp, hrp⟩ : ∃ rp, q.is tRepeated = rp := ⟨_, rfl⟩
 rw [hrp] at HVE hSk
 generalize q.skip tRepeated = q1 at *
 clear hVAL eR hskip h hrp he
 go_enter Tryz.func193, Tryz.ntmps193
 go_wp2_with fail
 refine hSk.mono ?_
 rintro e w5 ⟨rfl, hr5, hg5⟩
 have HD5 := Lib.hid (HD0.out.step hr5 hg5)
 have hsz5 := HD5.out.lo.size
 have HG0 : Hid (Lv w5 (w5.alloc (.cells #[.bool rp, .string ⟨#[]⟩, .string ⟨#[]⟩, .int .i64 0, .int .i64 0, .int .i64 0] 71)) R en q1 w5.heap.size 71 #[.bool rp, .string ⟨#[]⟩, .string ⟨#[]⟩, .int .i64 0, .int .i64 0, .int .i64 0]) := Lv.start w5 w5 hr5 (World.grownBy.refl _ _) hr5.lt 71 #[.bool rp, .string ⟨#[]⟩, .string ⟨#[]⟩, .int .i64 0, .int .i64 0, .int .i64 0]
 clear hSk hr5 hg5
 go_upto_region 2 with fail
 generalize w5.alloc (.cells #[.bool rp, .string ⟨#[]⟩, .string ⟨#[]⟩, .int .i64 0, .int .i64 0, .int .i64 0] 71) = V5 at *
 obtain ⟨G, hG⟩ : ∃ G, w5.heap.size = G := ⟨_, rfl⟩
 rw [hG] at HG0 ⊢
 go_cut [6] (fun s6 wz => ∃ el : Fd, s6 = .bool (decide (VAL.2.e = 0)) ∧ (VAL.2.e = 0 → el = VAL.1) ∧ Lv w5 wz R en VAL.2 G 71 #[.bool el.rep, .string (mkB el.type), .string (mkB el.name), .int .i64 el.num, .int .i64 el.line, .int .i64 el.col])
 case first =>
  have hC1 := fun W (hW : Lv w5 W R en q1 G 71 #[.bool rp, .string (mkB []), .string (mkB []), .int .i64 0, .int .i64 0, .int .i64 0]) => fieldTypeLv hW hq1e 1 rfl
  obtain ⟨z1, hz1⟩ : ∃ z, (q1.typ en).1 = z := ⟨_, rfl⟩
  rw [hz1] at hC1
  obtain ⟨x1, hx1⟩ : ∃ x, (q1.typ en).2 = x := ⟨_, rfl⟩
  rw [hx1] at hC1
  by_cases hb1 : decide (x1.e = 0) = true
  ·have e1 : x1.e = 0 := of_decide_eq_true hb1
   rw [hb1] at hC1
   have hC2 := fun W (hW : Lv w5 W R en x1 G 71 #[.bool rp, .string (mkB z1), .string (mkB []), .int .i64 0, .int .i64 0, .int .i64 0]) => nameLv hW e1 2 4 (by simp) (by simp) (by decide)
   unfold nameC at hC2
   have hE2 := Rd.e_name en e1
   obtain ⟨x2, hx2⟩ : ∃ x, x1.name en = x := ⟨_, rfl⟩
   rw [hx2] at hC2 hE2
   by_cases hb2 : x1.isName = true
   ·rw [hb2] at hE2
    have e2 : x2.e = 0 := of_decide_eq_true hE2
    rw [if_pos hb2, hb2] at hC2
    have hC3 := fun W (hW : Lv w5 W R en x2 G 71 #[.bool rp, .string (mkB z1), .string (mkB x1.nameT), .int .i64 0, .int .i64 (x1.nameP en).1, .int .i64 (x1.nameP en).2]) => wantLv hW e2 ⟨#[61]⟩ (by decide)
    have eB3 : (ByteArray.mk #[61]).data.toList = [61] := rfl
    rw [eB3] at hC3
    clear eB3
    have hE3 := Rd.e_take en e2 [61]
    obtain ⟨x3, hx3⟩ : ∃ x, x2.take en [61] = x := ⟨_, rfl⟩
    rw [hx3] at hC3 hE3
    by_cases hb3 : x2.is [61] = true
    ·rw [hb3] at hE3
     have e3 : x3.e = 0 := of_decide_eq_true hE3
     rw [hb3] at hC3
     have hC4 := fun W (hW : Lv w5 W R en x3 G 71 #[.bool rp, .string (mkB z1), .string (mkB x1.nameT), .int .i64 0, .int .i64 (x1.nameP en).1, .int .i64 (x1.nameP en).2]) => numberLv hW e3 3 (by simp)
     unfold numberC at hC4
     have hE4 := Rd.e_number en e3
     obtain ⟨x4, hx4⟩ : ∃ x, x3.number en = x := ⟨_, rfl⟩
     rw [hx4] at hC4 hE4
     by_cases hb4 : x3.isNum = true
     ·rw [hb4] at hE4
      have e4 : x4.e = 0 := of_decide_eq_true hE4
      rw [if_pos hb4, hb4] at hC4
      have hC5 := fun W (hW : Lv w5 W R en x4 G 71 #[.bool rp, .string (mkB z1), .string (mkB x1.nameT), .int .i64 x3.numberV, .int .i64 (x1.nameP en).1, .int .i64 (x1.nameP en).2]) => wantLv hW e4 ⟨#[59]⟩ (by decide)
      have eB5 : (ByteArray.mk #[59]).data.toList = [59] := rfl
      rw [eB5] at hC5
      clear eB5
      have hE5 := Rd.e_take en e4 [59]
      obtain ⟨x5, hx5⟩ : ∃ x, x4.take en [59] = x := ⟨_, rfl⟩
      rw [hx5] at hC5 hE5
      go_wp2_with fail
      refine (hC1 _ HG0.out).mono ?_
      rintro e v1 ⟨y1, rfl, hy1, l1⟩
      rw [hy1 e1] at l1
      have l1 : Lv w5 v1 R en x1 G 71 #[.bool rp, .string (mkB z1), .string (mkB []), .int .i64 0, .int .i64 0, .int .i64 0] := l1
      go_wp2_with fail
      refine (hC2 _ l1).mono ?_
      rintro e v2 ⟨rfl, l2⟩
      have l2 : Lv w5 v2 R en x2 G 71 #[.bool rp, .string (mkB z1), .string (mkB x1.nameT), .int .i64 0, .int .i64 (x1.nameP en).1, .int .i64 (x1.nameP en).2] := l2
      go_wp2_with fail
      refine (hC3 _ l2).mono ?_
      rintro e v3 ⟨rfl, l3⟩
      have l3 : Lv w5 v3 R en x3 G 71 #[.bool rp, .string (mkB z1), .string (mkB x1.nameT), .int .i64 0, .int .i64 (x1.nameP en).1, .int .i64 (x1.nameP en).2] := l3
      go_wp2_with fail
      refine (hC4 _ l3).mono ?_
      rintro e v4 ⟨rfl, l4⟩
      have l4 : Lv w5 v4 R en x4 G 71 #[.bool rp, .string (mkB z1), .string (mkB x1.nameT), .int .i64 x3.numberV, .int .i64 (x1.nameP en).1, .int .i64 (x1.nameP en).2] := l4
      go_wp2_with fail
      refine (hC5 _ l4).mono ?_
      rintro e v5 ⟨rfl, l5⟩
      have l5 : Lv w5 v5 R en x5 G 71 #[.bool rp, .string (mkB z1), .string (mkB x1.nameT), .int .i64 x3.numberV, .int .i64 (x1.nameP en).1, .int .i64 (x1.nameP en).2] := l5
      go_wp2_with fail
      go_meet
      have hVV : VAL = (⟨rp, z1, x1.nameT, x3.numberV, (x1.nameP en).1, (x1.nameP en).2⟩, x5) := by rw [HVE.out, hz1, hx1, hx2, hx3, hx4, hx5]
      have hV2 : VAL.2 = x5 := by rw [hVV]
      have hV1 : VAL.1 = ⟨rp, z1, x1.nameT, x3.numberV, (x1.nameP en).1, (x1.nameP en).2⟩ := by rw [hVV]
      exact ⟨⟨rp, z1, x1.nameT, x3.numberV, (x1.nameP en).1, (x1.nameP en).2⟩, by rw [hV2]; exact congrArg Value.bool hE5.symm, fun _ => hV1.symm, by rw [hV2]; exact l5⟩
     ·have hb4f : (x3.isNum) = false := by simpa using hb4
      rw [hb4f] at hE4
      have n4 : x4.e ≠ 0 := of_decide_eq_false hE4
      rw [if_neg hb4, hb4f] at hC4
      go_wp2_with fail
      refine (hC1 _ HG0.out).mono ?_
      rintro e v1 ⟨y1, rfl, hy1, l1⟩
      rw [hy1 e1] at l1
      have l1 : Lv w5 v1 R en x1 G 71 #[.bool rp, .string (mkB z1), .string (mkB []), .int .i64 0, .int .i64 0, .int .i64 0] := l1
      go_wp2_with fail
      refine (hC2 _ l1).mono ?_
      rintro e v2 ⟨rfl, l2⟩
      have l2 : Lv w5 v2 R en x2 G 71 #[.bool rp, .string (mkB z1), .string (mkB x1.nameT), .int .i64 0, .int .i64 (x1.nameP en).1, .int .i64 (x1.nameP en).2] := l2
      go_wp2_with fail
      refine (hC3 _ l2).mono ?_
      rintro e v3 ⟨rfl, l3⟩
      have l3 : Lv w5 v3 R en x3 G 71 #[.bool rp, .string (mkB z1), .string (mkB x1.nameT), .int .i64 0, .int .i64 (x1.nameP en).1, .int .i64 (x1.nameP en).2] := l3
      go_wp2_with fail
      refine (hC4 _ l3).mono ?_
      rintro e v4 ⟨rfl, l4⟩
      have l4 : Lv w5 v4 R en x4 G 71 #[.bool rp, .string (mkB z1), .string (mkB x1.nameT), .int .i64 0, .int .i64 (x1.nameP en).1, .int .i64 (x1.nameP en).2] := l4
      go_wp2_with fail
      go_meet
      have hV2 : VAL.2 = x4 := by rw [HVE.out]; show ((((q1.typ en).2.name en).take en [61]).number en).take en [59] = _; rw [hx1, hx2, hx3, hx4, Rd.take_stay en n4]
      exact ⟨⟨rp, z1, x1.nameT, 0, (x1.nameP en).1, (x1.nameP en).2⟩, by rw [hV2]; exact congrArg Value.bool (decide_eq_false n4).symm, fun h => absurd (hV2 ▸ h) n4, by rw [hV2]; exact l4⟩
    ·have hb3f : (x2.is [61]) = false := by simpa using hb3
     rw [hb3f] at hE3
     have n3 : x3.e ≠ 0 := of_decide_eq_false hE3
     rw [hb3f] at hC3
     go_wp2_with fail
     refine (hC1 _ HG0.out).mono ?_
     rintro e v1 ⟨y1, rfl, hy1, l1⟩
     rw [hy1 e1] at l1
     have l1 : Lv w5 v1 R en x1 G 71 #[.bool rp, .string (mkB z1), .string (mkB []), .int .i64 0, .int .i64 0, .int .i64 0] := l1
     go_wp2_with fail
     refine (hC2 _ l1).mono ?_
     rintro e v2 ⟨rfl, l2⟩
     have l2 : Lv w5 v2 R en x2 G 71 #[.bool rp, .string (mkB z1), .string (mkB x1.nameT), .int .i64 0, .int .i64 (x1.nameP en).1, .int .i64 (x1.nameP en).2] := l2
     go_wp2_with fail
     refine (hC3 _ l2).mono ?_
     rintro e v3 ⟨rfl, l3⟩
     have l3 : Lv w5 v3 R en x3 G 71 #[.bool rp, .string (mkB z1), .string (mkB x1.nameT), .int .i64 0, .int .i64 (x1.nameP en).1, .int .i64 (x1.nameP en).2] := l3
     go_wp2_with fail
     go_meet
     have hV2 : VAL.2 = x3 := by rw [HVE.out]; show ((((q1.typ en).2.name en).take en [61]).number en).take en [59] = _; rw [hx1, hx2, hx3, Rd.number_stay en n3, Rd.take_stay en n3]
     exact ⟨⟨rp, z1, x1.nameT, 0, (x1.nameP en).1, (x1.nameP en).2⟩, by rw [hV2]; exact congrArg Value.bool (decide_eq_false n3).symm, fun h => absurd (hV2 ▸ h) n3, by rw [hV2]; exact l3⟩
   ·have hb2f : (x1.isName) = false := by simpa using hb2
    rw [hb2f] at hE2
    have n2 : x2.e ≠ 0 := of_decide_eq_false hE2
    rw [if_neg hb2, hb2f] at hC2
    go_wp2_with fail
    refine (hC1 _ HG0.out).mono ?_
    rintro e v1 ⟨y1, rfl, hy1, l1⟩
    rw [hy1 e1] at l1
    have l1 : Lv w5 v1 R en x1 G 71 #[.bool rp, .string (mkB z1), .string (mkB []), .int .i64 0, .int .i64 0, .int .i64 0] := l1
    go_wp2_with fail
    refine (hC2 _ l1).mono ?_
    rintro e v2 ⟨rfl, l2⟩
    have l2 : Lv w5 v2 R en x2 G 71 #[.bool rp, .string (mkB z1), .string (mkB []), .int .i64 0, .int .i64 0, .int .i64 0] := l2
    go_wp2_with fail
    go_meet
    have hV2 : VAL.2 = x2 := by rw [HVE.out]; show ((((q1.typ en).2.name en).take en [61]).number en).take en [59] = _; rw [hx1, hx2, Rd.take_stay en n2, Rd.number_stay en n2, Rd.take_stay en n2]
    exact ⟨⟨rp, z1, [], 0, 0, 0⟩, by rw [hV2]; exact congrArg Value.bool (decide_eq_false n2).symm, fun h => absurd (hV2 ▸ h) n2, by rw [hV2]; exact l2⟩
  ·have hb1f : (decide (x1.e = 0)) = false := by simpa using hb1
   have n1 : x1.e ≠ 0 := of_decide_eq_false hb1f
   rw [hb1f] at hC1
   go_wp2_with fail
   refine (hC1 _ HG0.out).mono ?_
   rintro e v1 ⟨y1, rfl, hy1, l1⟩
   have l1 : Lv w5 v1 R en x1 G 71 #[.bool rp, .string (mkB y1), .string (mkB []), .int .i64 0, .int .i64 0, .int .i64 0] := l1
   go_wp2_with fail
   go_meet
   have hV2 : VAL.2 = x1 := by rw [HVE.out]; show ((((q1.typ en).2.name en).take en [61]).number en).take en [59] = _; rw [hx1, Rd.name_stay en n1, Rd.take_stay en n1, Rd.number_stay en n1, Rd.take_stay en n1]
   exact ⟨⟨rp, y1, [], 0, 0, 0⟩, by rw [hV2]; exact congrArg Value.bool (decide_eq_false n1).symm, fun h => absurd (hV2 ▸ h) n1, by rw [hV2]; exact l1⟩
 case rest =>
  obtain ⟨el, rfl, hel, hLz⟩ := hcut
  generalize wc = W8 at *
  have HEL := Lib.hid hel
  have hDB := HD5.out.step hLz.rd hLz.gr
  have hDA := hDB.drew
  have gA : W8.heap[G]? = some (.cells #[.bool el.rep, .string (mkB el.type), .string (mkB el.name), .int .i64 el.num, .int .i64 el.line, .int .i64 el.col] 71 (0, 0)) := hLz.loc
  have gB : ∀ ob, (W8.alloc ob).heap[G]? = some (.cells #[.bool el.rep, .string (mkB el.type), .string (mkB el.name), .int .i64 el.num, .int .i64 el.line, .int .i64 el.col] 71 (0, 0)) := fun ob => by
   rw [alloc_heap_old _ _ _ hLz.size]; exact gA
  have p0 := cell_at gA 0 rfl
  have s0 : ∀ ob, (W8.alloc ob).cell? ⟨G, 0, none⟩ = some (.bool el.rep) := fun ob => by simp [World.cell?, gB ob]
  have p1 := cell_at gA 1 rfl
  have s1 : ∀ ob, (W8.alloc ob).cell? ⟨G, 1, none⟩ = some (.string (mkB el.type)) := fun ob => by simp [World.cell?, gB ob]
  have p2 := cell_at gA 2 rfl
  have s2 : ∀ ob, (W8.alloc ob).cell? ⟨G, 2, none⟩ = some (.string (mkB el.name)) := fun ob => by simp [World.cell?, gB ob]
  have p3 := cell_at gA 3 rfl
  have s3 : ∀ ob, (W8.alloc ob).cell? ⟨G, 3, none⟩ = some (.int .i64 el.num) := fun ob => by simp [World.cell?, gB ob]
  have p4 := cell_at gA 4 rfl
  have s4 : ∀ ob, (W8.alloc ob).cell? ⟨G, 4, none⟩ = some (.int .i64 el.line) := fun ob => by simp [World.cell?, gB ob]
  have p5 := cell_at gA 5 rfl
  have s5 : ∀ ob, (W8.alloc ob).cell? ⟨G, 5, none⟩ = some (.int .i64 el.col) := fun ob => by simp [World.cell?, gB ob]
  have d4 := hDB.lo.cells8.1.2.2.2.2.1
  have d4a := fun ob => (hDB.alloc ob).lo.cells8.1.2.2.2.2.1
  clear hDB
  clear hel hLz gA gB HG0 HVE HD0 HD5
  go_wp2_with fail
  go_region_law (
   (refine hDA.pushF el rfl _ _ rfl _ rfl rfl rfl (by omega) ?_; intro g cap W6 hLo6 hLm6; have hc8 := (hLo6 _ hDA.lo).cells8.1.2.2.2.2.1; have hf8 := (hLo6 _ hDA.lo).cells8.2.2.2 4; clear hLo6; dsimp only))
  all_goals
   have HL6 := Lib.hid hLm6
   clear hLm6
   go_wp2_with fail
   go_ret
   exact ⟨el, _, rfl, HEL.out, HL6.out⟩
end Go.Proofs.YtpojeinddnjpfaaGreatDoor
