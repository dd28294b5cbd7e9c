/-
  The walk over the program's own field of a reader.
  The walk over the program's own member of a reader.
  The walk over the program's own message of a reader.
-/
import Derived.Test.YtbfkaanmbdekfaaGreatDoorGf6
import Derived.Test.YtbfkaanmbdekfaaGreatDoorGf7
import Derived.Deep.RegionWith
namespace Go.Proofs.YtbfkaanmbdekfaaGreatDoor
set_option linter.unusedVariables false
open Go.ChangeShapes Go.WideShapes Go.ChangeAt Go.RowKit

set_option maxHeartbeats 16000000 in
set_option maxRecDepth 20000 in
theorem fieldD_any {f : Nat} {w0 we : World} {R : Nat} {en : Int × Int} {q : Rd} {nm : List UInt8} {pl pc : Int} {fs ins : Value} {fl : List Fd} {ds : List Dc} {rs : List (List Value)} (h : Dm f w0 we R en q nm pl pc fs ins fl ds rs) (he : q.e = 0) (hbd : fl.length ≤ 100000) :
    Calls Tryz.prog 87 #[.pointer (some ⟨R, 0, none⟩), .pointer (some ⟨w0.heap.size + 1, 0, none⟩)] we fun x w' => ∃ (fd : Fd) (fs' : Value), x = .returned (.bool (decide ((q.field en).2.e = 0))) ∧ ((q.field en).2.e = 0 → fd = (q.field en).1) ∧
      Dm f w0 w' R en (q.field en).2 nm pl pc fs' ins (fl ++ [fd]) ds rs := by
  have hlt := h.lo.lt
  have hszw := h.lo.size
  have hSk := skipD_any R en q ⟨#[114, 101, 112, 101, 97, 116, 101, 100]⟩ we he (by decide) h.lo.rd
  have eR : (ByteArray.mk #[114, 101, 112, 101, 97, 116, 101, 100]).data.toList = tRepeated := rfl
  rw [eR] at hSk
  have hskip : (if q.is tRepeated = true then q.take en tRepeated else q) = q.skip tRepeated := by
    unfold Rd.skip
    by_cases hi : q.is tRepeated = true
    · rw [if_pos hi, if_pos hi]; unfold Rd.take; rw [if_pos hi]
    · rw [if_neg hi, if_neg hi]
  have HVE : Hid (q.field en = (⟨q.is tRepeated, ((q.skip tRepeated).typ en).1, ((q.skip tRepeated).typ en).2.nameT, ((((q.skip tRepeated).typ en).2.name en).take en [61]).numberV, (((q.skip tRepeated).typ en).2.nameP en).1, (((q.skip tRepeated).typ en).2.nameP en).2⟩, (((((q.skip tRepeated).typ en).2.name en).take en [61]).number en).take en [59])) := by
    refine (?_ : _ = _)
    rw [← hskip]; rfl
  have hq1e : (q.skip tRepeated).e = 0 := by
    unfold Rd.skip
    split
    · exact he
    · exact he
  obtain ⟨VAL, hVAL⟩ : ∃ VAL, q.field en = VAL := ⟨_, rfl⟩
  rw [hVAL] at HVE ⊢
  have HD0 := Lib.hid h
  obtain ⟨fa, fc, rfl⟩ := own_slice h.ownF
  obtain ⟨rp, hrp⟩ : ∃ rp, q.is tRepeated = rp := ⟨_, rfl⟩
  rw [hrp] at HVE hSk
  generalize q.skip tRepeated = q1 at *
  clear hVAL eR hskip h hrp he
  go_enter Tryz.func87, Tryz.ntmps87
  go_wp2_with fail
  refine hSk.mono ?_
  rintro e w5 ⟨rfl, hr5, hg5⟩
  have HD5 := Lib.hid (HD0.out.step hr5 hg5)
  have hsz5 := HD5.out.lo.size
  have HG0 : Hid (Lv w5 (w5.alloc (.cells #[.bool rp, .string ⟨#[]⟩, .string ⟨#[]⟩, .int .i64 0, .int .i64 0, .int .i64 0] 46)) R en q1 w5.heap.size 46 #[.bool rp, .string ⟨#[]⟩, .string ⟨#[]⟩, .int .i64 0, .int .i64 0, .int .i64 0]) := Lv.start w5 w5 hr5 (World.grownBy.refl _ _) hr5.lt 46 #[.bool rp, .string ⟨#[]⟩, .string ⟨#[]⟩, .int .i64 0, .int .i64 0, .int .i64 0]
  clear hSk hr5 hg5
  go_upto_region 2 with fail
  generalize w5.alloc (.cells #[.bool rp, .string ⟨#[]⟩, .string ⟨#[]⟩, .int .i64 0, .int .i64 0, .int .i64 0] 46) = V5 at *
  obtain ⟨G, hG⟩ : ∃ G, w5.heap.size = G := ⟨_, rfl⟩
  rw [hG] at HG0 ⊢
  go_cut [6] (fun s6 wz => ∃ el : Fd, s6 = .bool (decide (VAL.2.e = 0)) ∧ (VAL.2.e = 0 → el = VAL.1) ∧ Lv w5 wz R en VAL.2 G 46 #[.bool el.rep, .string (mkB el.type), .string (mkB el.name), .int .i64 el.num, .int .i64 el.line, .int .i64 el.col])
  case first =>
    have hC1 := fun W (hW : Lv w5 W R en q1 G 46 #[.bool rp, .string (mkB []), .string (mkB []), .int .i64 0, .int .i64 0, .int .i64 0]) => fieldTypeLv hW hq1e 1 rfl
    obtain ⟨z1, hz1⟩ : ∃ z, (q1.typ en).1 = z := ⟨_, rfl⟩
    rw [hz1] at hC1
    obtain ⟨x1, hx1⟩ : ∃ x, (q1.typ en).2 = x := ⟨_, rfl⟩
    rw [hx1] at hC1
    by_cases hb1 : decide (x1.e = 0) = true
    · have e1 : x1.e = 0 := of_decide_eq_true hb1
      rw [hb1] at hC1
      have hC2 := fun W (hW : Lv w5 W R en x1 G 46 #[.bool rp, .string (mkB z1), .string (mkB []), .int .i64 0, .int .i64 0, .int .i64 0]) => nameLv hW e1 2 4 (by simp) (by simp) (by decide)
      unfold nameC at hC2
      have hE2 := Rd.e_name en e1
      obtain ⟨x2, hx2⟩ : ∃ x, x1.name en = x := ⟨_, rfl⟩
      rw [hx2] at hC2 hE2
      by_cases hb2 : x1.isName = true
      · rw [hb2] at hE2
        have e2 : x2.e = 0 := of_decide_eq_true hE2
        rw [if_pos hb2, hb2] at hC2
        have hC3 := fun W (hW : Lv w5 W R en x2 G 46 #[.bool rp, .string (mkB z1), .string (mkB x1.nameT), .int .i64 0, .int .i64 (x1.nameP en).1, .int .i64 (x1.nameP en).2]) => wantLv hW e2 ⟨#[61]⟩ (by decide)
        have eB3 : (ByteArray.mk #[61]).data.toList = [61] := rfl
        rw [eB3] at hC3
        clear eB3
        have hE3 := Rd.e_take en e2 [61]
        obtain ⟨x3, hx3⟩ : ∃ x, x2.take en [61] = x := ⟨_, rfl⟩
        rw [hx3] at hC3 hE3
        by_cases hb3 : x2.is [61] = true
        · rw [hb3] at hE3
          have e3 : x3.e = 0 := of_decide_eq_true hE3
          rw [hb3] at hC3
          have hC4 := fun W (hW : Lv w5 W R en x3 G 46 #[.bool rp, .string (mkB z1), .string (mkB x1.nameT), .int .i64 0, .int .i64 (x1.nameP en).1, .int .i64 (x1.nameP en).2]) => numberLv hW e3 3 (by simp)
          unfold numberC at hC4
          have hE4 := Rd.e_number en e3
          obtain ⟨x4, hx4⟩ : ∃ x, x3.number en = x := ⟨_, rfl⟩
          rw [hx4] at hC4 hE4
          by_cases hb4 : x3.isNum = true
          · rw [hb4] at hE4
            have e4 : x4.e = 0 := of_decide_eq_true hE4
            rw [if_pos hb4, hb4] at hC4
            have hC5 := fun W (hW : Lv w5 W R en x4 G 46 #[.bool rp, .string (mkB z1), .string (mkB x1.nameT), .int .i64 x3.numberV, .int .i64 (x1.nameP en).1, .int .i64 (x1.nameP en).2]) => wantLv hW e4 ⟨#[59]⟩ (by decide)
            have eB5 : (ByteArray.mk #[59]).data.toList = [59] := rfl
            rw [eB5] at hC5
            clear eB5
            have hE5 := Rd.e_take en e4 [59]
            obtain ⟨x5, hx5⟩ : ∃ x, x4.take en [59] = x := ⟨_, rfl⟩
            rw [hx5] at hC5 hE5
            go_wp2_with fail
            refine (hC1 _ HG0.out).mono ?_
            rintro e v1 ⟨y1, rfl, hy1, l1⟩
            rw [hy1 e1] at l1
            have l1 : Lv w5 v1 R en x1 G 46 #[.bool rp, .string (mkB z1), .string (mkB []), .int .i64 0, .int .i64 0, .int .i64 0] := l1
            go_wp2_with fail
            refine (hC2 _ l1).mono ?_
            rintro e v2 ⟨rfl, l2⟩
            have l2 : Lv w5 v2 R en x2 G 46 #[.bool rp, .string (mkB z1), .string (mkB x1.nameT), .int .i64 0, .int .i64 (x1.nameP en).1, .int .i64 (x1.nameP en).2] := l2
            go_wp2_with fail
            refine (hC3 _ l2).mono ?_
            rintro e v3 ⟨rfl, l3⟩
            have l3 : Lv w5 v3 R en x3 G 46 #[.bool rp, .string (mkB z1), .string (mkB x1.nameT), .int .i64 0, .int .i64 (x1.nameP en).1, .int .i64 (x1.nameP en).2] := l3
            go_wp2_with fail
            refine (hC4 _ l3).mono ?_
            rintro e v4 ⟨rfl, l4⟩
            have l4 : Lv w5 v4 R en x4 G 46 #[.bool rp, .string (mkB z1), .string (mkB x1.nameT), .int .i64 x3.numberV, .int .i64 (x1.nameP en).1, .int .i64 (x1.nameP en).2] := l4
            go_wp2_with fail
            refine (hC5 _ l4).mono ?_
            rintro e v5 ⟨rfl, l5⟩
            have l5 : Lv w5 v5 R en x5 G 46 #[.bool rp, .string (mkB z1), .string (mkB x1.nameT), .int .i64 x3.numberV, .int .i64 (x1.nameP en).1, .int .i64 (x1.nameP en).2] := l5
            go_wp2_with fail
            go_meet
            have hVV : VAL = (⟨rp, z1, x1.nameT, x3.numberV, (x1.nameP en).1, (x1.nameP en).2⟩, x5) := by rw [HVE.out, hz1, hx1, hx2, hx3, hx4, hx5]
            have hV2 : VAL.2 = x5 := by rw [hVV]
            have hV1 : VAL.1 = ⟨rp, z1, x1.nameT, x3.numberV, (x1.nameP en).1, (x1.nameP en).2⟩ := by rw [hVV]
            exact ⟨⟨rp, z1, x1.nameT, x3.numberV, (x1.nameP en).1, (x1.nameP en).2⟩, by rw [hV2]; exact congrArg Value.bool hE5.symm, fun _ => hV1.symm, by rw [hV2]; exact l5⟩
          · have hb4f : (x3.isNum) = false := by simpa using hb4
            rw [hb4f] at hE4
            have n4 : x4.e ≠ 0 := of_decide_eq_false hE4
            rw [if_neg hb4, hb4f] at hC4
            go_wp2_with fail
            refine (hC1 _ HG0.out).mono ?_
            rintro e v1 ⟨y1, rfl, hy1, l1⟩
            rw [hy1 e1] at l1
            have l1 : Lv w5 v1 R en x1 G 46 #[.bool rp, .string (mkB z1), .string (mkB []), .int .i64 0, .int .i64 0, .int .i64 0] := l1
            go_wp2_with fail
            refine (hC2 _ l1).mono ?_
            rintro e v2 ⟨rfl, l2⟩
            have l2 : Lv w5 v2 R en x2 G 46 #[.bool rp, .string (mkB z1), .string (mkB x1.nameT), .int .i64 0, .int .i64 (x1.nameP en).1, .int .i64 (x1.nameP en).2] := l2
            go_wp2_with fail
            refine (hC3 _ l2).mono ?_
            rintro e v3 ⟨rfl, l3⟩
            have l3 : Lv w5 v3 R en x3 G 46 #[.bool rp, .string (mkB z1), .string (mkB x1.nameT), .int .i64 0, .int .i64 (x1.nameP en).1, .int .i64 (x1.nameP en).2] := l3
            go_wp2_with fail
            refine (hC4 _ l3).mono ?_
            rintro e v4 ⟨rfl, l4⟩
            have l4 : Lv w5 v4 R en x4 G 46 #[.bool rp, .string (mkB z1), .string (mkB x1.nameT), .int .i64 0, .int .i64 (x1.nameP en).1, .int .i64 (x1.nameP en).2] := l4
            go_wp2_with fail
            go_meet
            have hV2 : VAL.2 = x4 := by rw [HVE.out]; show ((((q1.typ en).2.name en).take en [61]).number en).take en [59] = _; rw [hx1, hx2, hx3, hx4, Rd.take_stay en n4]
            exact ⟨⟨rp, z1, x1.nameT, 0, (x1.nameP en).1, (x1.nameP en).2⟩, by rw [hV2]; exact congrArg Value.bool (decide_eq_false n4).symm, fun h => absurd (hV2 ▸ h) n4, by rw [hV2]; exact l4⟩
        · have hb3f : (x2.is [61]) = false := by simpa using hb3
          rw [hb3f] at hE3
          have n3 : x3.e ≠ 0 := of_decide_eq_false hE3
          rw [hb3f] at hC3
          go_wp2_with fail
          refine (hC1 _ HG0.out).mono ?_
          rintro e v1 ⟨y1, rfl, hy1, l1⟩
          rw [hy1 e1] at l1
          have l1 : Lv w5 v1 R en x1 G 46 #[.bool rp, .string (mkB z1), .string (mkB []), .int .i64 0, .int .i64 0, .int .i64 0] := l1
          go_wp2_with fail
          refine (hC2 _ l1).mono ?_
          rintro e v2 ⟨rfl, l2⟩
          have l2 : Lv w5 v2 R en x2 G 46 #[.bool rp, .string (mkB z1), .string (mkB x1.nameT), .int .i64 0, .int .i64 (x1.nameP en).1, .int .i64 (x1.nameP en).2] := l2
          go_wp2_with fail
          refine (hC3 _ l2).mono ?_
          rintro e v3 ⟨rfl, l3⟩
          have l3 : Lv w5 v3 R en x3 G 46 #[.bool rp, .string (mkB z1), .string (mkB x1.nameT), .int .i64 0, .int .i64 (x1.nameP en).1, .int .i64 (x1.nameP en).2] := l3
          go_wp2_with fail
          go_meet
          have hV2 : VAL.2 = x3 := by rw [HVE.out]; show ((((q1.typ en).2.name en).take en [61]).number en).take en [59] = _; rw [hx1, hx2, hx3, Rd.number_stay en n3, Rd.take_stay en n3]
          exact ⟨⟨rp, z1, x1.nameT, 0, (x1.nameP en).1, (x1.nameP en).2⟩, by rw [hV2]; exact congrArg Value.bool (decide_eq_false n3).symm, fun h => absurd (hV2 ▸ h) n3, by rw [hV2]; exact l3⟩
      · have hb2f : (x1.isName) = false := by simpa using hb2
        rw [hb2f] at hE2
        have n2 : x2.e ≠ 0 := of_decide_eq_false hE2
        rw [if_neg hb2, hb2f] at hC2
        go_wp2_with fail
        refine (hC1 _ HG0.out).mono ?_
        rintro e v1 ⟨y1, rfl, hy1, l1⟩
        rw [hy1 e1] at l1
        have l1 : Lv w5 v1 R en x1 G 46 #[.bool rp, .string (mkB z1), .string (mkB []), .int .i64 0, .int .i64 0, .int .i64 0] := l1
        go_wp2_with fail
        refine (hC2 _ l1).mono ?_
        rintro e v2 ⟨rfl, l2⟩
        have l2 : Lv w5 v2 R en x2 G 46 #[.bool rp, .string (mkB z1), .string (mkB []), .int .i64 0, .int .i64 0, .int .i64 0] := l2
        go_wp2_with fail
        go_meet
        have hV2 : VAL.2 = x2 := by rw [HVE.out]; show ((((q1.typ en).2.name en).take en [61]).number en).take en [59] = _; rw [hx1, hx2, Rd.take_stay en n2, Rd.number_stay en n2, Rd.take_stay en n2]
        exact ⟨⟨rp, z1, [], 0, 0, 0⟩, by rw [hV2]; exact congrArg Value.bool (decide_eq_false n2).symm, fun h => absurd (hV2 ▸ h) n2, by rw [hV2]; exact l2⟩
    · have hb1f : (decide (x1.e = 0)) = false := by simpa using hb1
      have n1 : x1.e ≠ 0 := of_decide_eq_false hb1f
      rw [hb1f] at hC1
      go_wp2_with fail
      refine (hC1 _ HG0.out).mono ?_
      rintro e v1 ⟨y1, rfl, hy1, l1⟩
      have l1 : Lv w5 v1 R en x1 G 46 #[.bool rp, .string (mkB y1), .string (mkB []), .int .i64 0, .int .i64 0, .int .i64 0] := l1
      go_wp2_with fail
      go_meet
      have hV2 : VAL.2 = x1 := by rw [HVE.out]; show ((((q1.typ en).2.name en).take en [61]).number en).take en [59] = _; rw [hx1, Rd.name_stay en n1, Rd.take_stay en n1, Rd.number_stay en n1, Rd.take_stay en n1]
      exact ⟨⟨rp, y1, [], 0, 0, 0⟩, by rw [hV2]; exact congrArg Value.bool (decide_eq_false n1).symm, fun h => absurd (hV2 ▸ h) n1, by rw [hV2]; exact l1⟩
  case rest =>
    obtain ⟨el, rfl, hel, hLz⟩ := hcut
    generalize wc = W8 at *
    have HEL := Lib.hid hel
    have hDB := HD5.out.step hLz.rd hLz.gr
    have hDA := hDB.drew
    have gA : W8.heap[G]? = some (.cells #[.bool el.rep, .string (mkB el.type), .string (mkB el.name), .int .i64 el.num, .int .i64 el.line, .int .i64 el.col] 46 (0, 0)) := hLz.loc
    have gB : ∀ ob, (W8.alloc ob).heap[G]? = some (.cells #[.bool el.rep, .string (mkB el.type), .string (mkB el.name), .int .i64 el.num, .int .i64 el.line, .int .i64 el.col] 46 (0, 0)) := fun ob => by
      rw [alloc_heap_old _ _ _ hLz.size]; exact gA
    have p0 : W8.cell? ⟨G, 0, none⟩ = some (.bool el.rep) := by simp [World.cell?, gA]
    have s0 : ∀ ob, (W8.alloc ob).cell? ⟨G, 0, none⟩ = some (.bool el.rep) := fun ob => by simp [World.cell?, gB ob]
    have p1 : W8.cell? ⟨G, 1, none⟩ = some (.string (mkB el.type)) := by simp [World.cell?, gA]
    have s1 : ∀ ob, (W8.alloc ob).cell? ⟨G, 1, none⟩ = some (.string (mkB el.type)) := fun ob => by simp [World.cell?, gB ob]
    have p2 : W8.cell? ⟨G, 2, none⟩ = some (.string (mkB el.name)) := by simp [World.cell?, gA]
    have s2 : ∀ ob, (W8.alloc ob).cell? ⟨G, 2, none⟩ = some (.string (mkB el.name)) := fun ob => by simp [World.cell?, gB ob]
    have p3 : W8.cell? ⟨G, 3, none⟩ = some (.int .i64 el.num) := by simp [World.cell?, gA]
    have s3 : ∀ ob, (W8.alloc ob).cell? ⟨G, 3, none⟩ = some (.int .i64 el.num) := fun ob => by simp [World.cell?, gB ob]
    have p4 : W8.cell? ⟨G, 4, none⟩ = some (.int .i64 el.line) := by simp [World.cell?, gA]
    have s4 : ∀ ob, (W8.alloc ob).cell? ⟨G, 4, none⟩ = some (.int .i64 el.line) := fun ob => by simp [World.cell?, gB ob]
    have p5 : W8.cell? ⟨G, 5, none⟩ = some (.int .i64 el.col) := by simp [World.cell?, gA]
    have s5 : ∀ ob, (W8.alloc ob).cell? ⟨G, 5, none⟩ = some (.int .i64 el.col) := fun ob => by simp [World.cell?, gB ob]
    have d4 := hDB.lo.cells8.1.2.2.2.2.1
    have d4a := fun ob => (hDB.alloc ob).lo.cells8.1.2.2.2.2.1
    clear hDB
    clear hel hLz gA gB HG0 HVE HD0 HD5
    go_wp2_with fail
    go_region_law (
      (refine hDA.pushF el rfl _ _ rfl _ rfl rfl rfl (by omega) ?_; intro g cap W6 hLo6 hLm6; have hc8 := (hLo6 _ hDA.lo).cells8.1.2.2.2.2.1; have hf8 := (hLo6 _ hDA.lo).cells8.2.2.2 4; clear hLo6; dsimp only))
    all_goals
      have HL6 := Lib.hid hLm6
      clear hLm6
      go_wp2_with fail
      go_ret
      exact ⟨el, _, rfl, HEL.out, HL6.out⟩
end Go.Proofs.YtbfkaanmbdekfaaGreatDoor
namespace Go.Proofs.YtbfkaanmbdekfaaGreatDoor
set_option linter.unusedVariables false
open Go.ChangeShapes Go.WideShapes Go.ChangeAt Go.RowKit

/-- what message, enum and service answer -/
def PAns (en : Int × Int) (k : Nat) (R : Nat) (w : World) (a : Dc × Rd) (x : Ending) (w' : World) : Prop :=
  ∃ (d : Dc) (fa : Option Addr) (fn fc : Nat) (va : Option Addr) (vn vc : Nat) (ma : Option Addr) (mn mc : Nat) (ia : Option Addr) (inn ic : Nat),
    x = .returned (.tuple #[.agg #[.int .i64 d.kind, .string (mkB d.name), .int .i64 d.line, .int .i64 d.col, .slice fa fn fc, .slice va vn vc, .slice ma mn mc, .slice ia inn ic], .bool (decide (a.2.e = 0))]) ∧
    (a.2.e = 0 → d = a.1) ∧ DrAt w' R en a.2 ∧ w.grownBy w' (some R) ∧ Kids k w' (fun b => w.heap.size + 2 ≤ b ∧ b < w'.heap.size) (.slice fa fn fc) (.slice va vn vc) (.slice ma mn mc) (.slice ia inn ic) d
theorem enumD_kids (R : Nat) (en : Int × Int) (r : Rd) (w : World) (he : r.e = 0) (h : DrAt w R en r) (k : Nat) :
    Calls Tryz.prog 40 #[.pointer (some ⟨R, 0, none⟩)] w fun x w' => PAns en k R w (r.enum en) x w' := by
  refine (enumD_any R en r w he h).mono ?_
  rintro e w' ⟨nm, pl, pc, acc, vs, rfl, hd, hr, hg, hown⟩
  obtain ⟨va, vc, rfl⟩ := own_slice hown
  exact ⟨⟨2, nm, pl, pc, [], acc, [], []⟩, none, 0, 0, va, acc.length, vc, none, 0, 0, none, 0, 0, rfl, fun hx => (hd hx).symm, hr, hg, RowsIn.nil _ _ _ _ _ _, rowsIn_own (k := 4) (row := vrow) (fun _ => rfl) hown _ (fun b hb => own_block hown b hb), RowsIn.nil _ _ _ _ _ _, HeldD.nil _ _ _ _ _⟩
theorem serviceD_kids (R : Nat) (en : Int × Int) (r : Rd) (w : World) (he : r.e = 0) (h : DrAt w R en r) (k : Nat) :
    Calls Tryz.prog 41 #[.pointer (some ⟨R, 0, none⟩)] w fun x w' => PAns en k R w (r.service en) x w' := by
  refine (serviceD_any R en r w he h).mono ?_
  rintro e w' ⟨nm, pl, pc, acc, vs, rfl, hd, hr, hg, hown⟩
  obtain ⟨va, vc, rfl⟩ := own_slice hown
  exact ⟨⟨3, nm, pl, pc, [], [], acc, []⟩, none, 0, 0, none, 0, 0, va, acc.length, vc, none, 0, 0, rfl, fun hx => (hd hx).symm, hr, hg, RowsIn.nil _ _ _ _ _ _, RowsIn.nil _ _ _ _ _ _, rowsIn_own (k := 5) (row := mrow) (fun _ => rfl) hown _ (fun b hb => own_block hown b hb), HeldD.nil _ _ _ _ _⟩
/-- one member more of a message -/
def stepB (en : Int × Int) (msg : Rd → Dc × Rd) (q : Rd) (fl : List Fd) (ds : List Dc) : (List Fd × List Dc) × Rd :=
  if q.is tMessage = true then ((fl, ds ++ [(msg q).1]), (msg q).2) else if q.is tEnum = true then ((fl, ds ++ [(q.enum en).1]), (q.enum en).2) else ((fl ++ [(q.field en).1], ds), (q.field en).2)
theorem bodyL_step (en : Int × Int) (msg : Rd → Dc × Rd) (f : Nat) (r : Rd) (fs : List Fd) (ds : List Dc) (h : r.e = 0 ∧ r.is [125] = false) : bodyL en msg (f + 1) r fs ds = bodyL en msg f (stepB en msg r fs ds).2 (stepB en msg r fs ds).1.1 (stepB en msg r fs ds).1.2 := by
  rw [bodyL_go en msg f r fs ds h]
  unfold stepB
  split
  · rfl
  · split <;> rfl
theorem set8_flat {W : World} {I : Nat} {T : TypeId} (h : W.heap[I]? = some (.cells z8 T (0, 0))) (x0 x1 x2 x3 x4 x5 x6 x7 : Value) : (S8 W I 0 x0 x1 x2 x3 x4 x5 x6 x7).heap[I]? = some (.cells #[x0, x1, x2, x3, x4, x5, x6, x7] T (0, 0)) := by
  have := set8 h x0 x1 x2 x3 x4 x5 x6 x7
  exact this
theorem setCell_swap (W : World) (a i b j : Nat) (x y : Value) (h : a ≠ b) : (W.setCell ⟨a, i, none⟩ x).setCell ⟨b, j, none⟩ y = (W.setCell ⟨b, j, none⟩ y).setCell ⟨a, i, none⟩ x := by
  unfold World.setCell
  congr 1
  apply Array.ext_getElem?
  intro k
  simp only [Array.getElem?_modify]
  by_cases h1 : a = k
  · by_cases h2 : b = k
    · omega
    · simp [h1, h2]
  · by_cases h2 : b = k
    · simp [h1, h2]
    · simp [h1, h2]
/-- the order of two stores -/
theorem S8_swap {P : World → Prop} {W : World} {g D : Nat} {m j : Nat} {x0 x1 x2 x3 x4 x5 x6 x7 y : Value} (h : g ≠ D) (hP : P ((S8 W g m x0 x1 x2 x3 x4 x5 x6 x7).setCell ⟨D, j, none⟩ y)) : P (S8 (W.setCell ⟨D, j, none⟩ y) g m x0 x1 x2 x3 x4 x5 x6 x7) := by
  unfold S8 at *
  rw [setCell_swap _ g _ D _ _ _ h, setCell_swap _ g _ D _ _ _ h, setCell_swap _ g _ D _ _ _ h, setCell_swap _ g _ D _ _ _ h, setCell_swap _ g _ D _ _ _ h, setCell_swap _ g _ D _ _ _ h, setCell_swap _ g _ D _ _ _ h, setCell_swap _ g _ D _ _ _ h] at hP
  exact hP
/-- a new thing's cells are set: a step, seen from ahead of it -/
theorem S8_step {we W5 : World} {I R : Nat} {o : Obj} (hI : we.heap.size ≤ I) (hg : we.grownBy W5 (some R)) (x0 x1 x2 x3 x4 x5 x6 x7 : Value) : we.grownBy (S8 W5 I 0 x0 x1 x2 x3 x4 x5 x6 x7) (some R) :=
  grow_then hg (S8_grown _ _ _ _ _ _ _ _ _ _ _) (fun b hb => by cases hb; exact .inl hI)
set_option maxHeartbeats 16000000 in
set_option maxRecDepth 20000 in
theorem memberD_any {f : Nat} {w0 we : World} {R : Nat} {en : Int × Int} {q : Rd} {nm : List UInt8} {pl pc : Int} {fs ins : Value} {fl : List Fd} {ds : List Dc} {rs : List (List Value)} (h : Dm f w0 we R en q nm pl pc fs ins fl ds rs) (he : q.e = 0) (hbd : fl.length ≤ 100000) (hbd2 : ds.length ≤ 100000)
    (msg : Rd → Dc × Rd) (depth : Nat) (hdp : depth ≤ 100) (hmsg : ∀ W, DrAt W R en q → Calls Tryz.prog 39 #[.pointer (some ⟨R, 0, none⟩), .int .i64 ((depth + 1 : Nat) : Int)] W fun x w' => PAns en f R W (msg q) x w') :
    Calls Tryz.prog 69 #[.pointer (some ⟨R, 0, none⟩), .pointer (some ⟨w0.heap.size + 1, 0, none⟩), .int .i64 (depth : Int)] we fun x w' => ∃ (fl' : List Fd) (ds' : List Dc) (rs' : List (List Value)) (fs' ins' : Value), x = .returned (.bool (decide ((stepB en msg q fl ds).2.e = 0))) ∧
      ((stepB en msg q fl ds).2.e = 0 → fl' = (stepB en msg q fl ds).1.1 ∧ ds' = (stepB en msg q fl ds).1.2) ∧ fl'.length + ds'.length = fl.length + ds.length + 1 ∧ Dm f w0 w' R en (stepB en msg q fl ds).2 nm pl pc fs' ins' fl' ds' rs' := by
  have hlt := h.lo.lt
  have hszw := h.lo.size
  have HD0 := Lib.hid h
  have HI0 := Lib.hid (alloc_heap_new we (.cells z8 44))
  have hTx := textD_any R en q (we.alloc (.cells z8 44)) (h.lo.rd.alloc _)
  have HRI := Lib.hid (h.lo.rd.alloc (.cells z8 44))
  have iM := Rd.is_text (t := tMessage) he (by decide)
  have iE := Rd.is_text (t := tEnum) he (by decide)
  have hwr : IntKind.i64.wrap ((depth : Int) + 1) = ((depth + 1 : Nat) : Int) := by rw [IntKind.wrap_i64]; omega
  obtain ⟨fa0, fc0, rfl⟩ := own_slice h.ownF
  obtain ⟨ia0, ic0, rfl⟩ := own_slice h.decls.own
  have HFO : Hid (∀ b, (Value.slice fa0 fl.length fc0).ownBlock = some b → b < we.heap.size) := fun b hb => (own_block h.ownF b hb).2
  have HIO : Hid (∀ b, (Value.slice ia0 ds.length ic0).ownBlock = some b → b < we.heap.size) := fun b hb => (own_block h.decls.own b hb).2
  have HGI : Hid (we.grownBy (we.alloc (.cells z8 44)) (some R)) := World.grownBy_alloc we _ _
  have hsI : (we.alloc (.cells z8 44)).heap.size = we.heap.size + 1 := by simp
  by_cases hM : q.is tMessage = true
  · have b0 : ((mkB q.text).toList == [109, 101, 115, 115, 97, 103, 101]) = true := by rw [mkB_list, ← iM]; exact hM
    have hRec := hmsg
    have hST : stepB en msg q fl ds = ((fl, ds ++ [(msg q).1]), (msg q).2) := by unfold stepB; rw [if_pos hM]
    clear hM iM iE hmsg
    generalize q.text = tx at *
    obtain ⟨CH, hCH⟩ : ∃ CH, msg q = CH := ⟨_, rfl⟩
    rw [hCH] at hRec hST
    have HST := Lib.hid hST
    clear hCH hST h
    go_enter Tryz.func69, Tryz.ntmps69
    go_wp2_with fail
    refine hTx.mono ?_
    rintro e w9 ⟨rfl, h9⟩
    have h9 := h9.symm
    subst h9
    clear hTx
    go_wp2_with fail
    refine (hRec _ HRI.out).mono ?_
    generalize we.alloc (.cells z8 44) = V at *
    rintro e W5 ⟨d, fa, fn, fc, va, vn, vc, ma, mn, mc, ia, inn, ic, rfl, hd, hr5, hg5, hkid⟩
    have hz5 := hg5.size
    have HI5 := Lib.hid (keepG HI0.out hg5 (by omega))
    have HS8 := Lib.hid (set8_flat HI5.out (.int .i64 d.kind) (.string (mkB d.name)) (.int .i64 d.line) (.int .i64 d.col) (.slice fa fn fc) (.slice va vn vc) (.slice ma mn mc) (.slice ia inn ic))
    have hgY : we.grownBy (S8 W5 we.heap.size 0 (.int .i64 d.kind) (.string (mkB d.name)) (.int .i64 d.line) (.int .i64 d.col) (.slice fa fn fc) (.slice va vn vc) (.slice ma mn mc) (.slice ia inn ic)) (some R) := S8_step (o := .cells z8 44) (Nat.le_refl _) (HGI.out.trans hg5) _ _ _ _ _ _ _ _
    have hrY : DrAt (S8 W5 we.heap.size 0 (.int .i64 d.kind) (.string (mkB d.name)) (.int .i64 d.line) (.int .i64 d.col) (.slice fa fn fc) (.slice va vn vc) (.slice ma mn mc) (.slice ia inn ic)) R en CH.2 := hr5.old fun k hk => S8_far _ _ _ _ _ _ _ _ _ _ _ k (by omega)
    have HDY := Lib.hid (HD0.out.step hrY hgY)
    have HKD : Hid (Kids f (S8 W5 we.heap.size 0 (.int .i64 d.kind) (.string (mkB d.name)) (.int .i64 d.line) (.int .i64 d.col) (.slice fa fn fc) (.slice va vn vc) (.slice ma mn mc) (.slice ia inn ic)) (AwayE w0 (S8 W5 we.heap.size 0 (.int .i64 d.kind) (.string (mkB d.name)) (.int .i64 d.line) (.int .i64 d.col) (.slice fa fn fc) (.slice va vn vc) (.slice ma mn mc) (.slice ia inn ic)) (.slice fa0 fl.length fc0) (.slice ia0 ds.length ic0)) (.slice fa fn fc) (.slice va vn vc) (.slice ma mn mc) (.slice ia inn ic) d) := by
      refine (?_ : Kids _ _ _ _ _ _ _ _)
      refine (hkid.old fun b hb => S8_far _ _ _ _ _ _ _ _ _ _ _ b (by have := hb.1; omega)).more fun b hb => ⟨by have := hb.1; omega, by rw [S8_size]; exact hb.2, fun e => by have := HFO.out b e; have := hb.1; omega, fun e => by have := HIO.out b e; have := hb.1; omega⟩
    have HDD := Lib.hid hd
    have i5 := HI5.out
    obtain ⟨c0, c1, c2, c3, c4, c5, c6, c7, hfz⟩ : W5.cell? ⟨we.heap.size, 0, none⟩ = some (.int .i64 0) ∧ W5.cell? ⟨we.heap.size, 1, none⟩ = some (.string ⟨#[]⟩) ∧ W5.cell? ⟨we.heap.size, 2, none⟩ = some (.int .i64 0) ∧ W5.cell? ⟨we.heap.size, 3, none⟩ = some (.int .i64 0) ∧ W5.cell? ⟨we.heap.size, 4, none⟩ = some (.slice none 0 0) ∧ W5.cell? ⟨we.heap.size, 5, none⟩ = some (.slice none 0 0) ∧ W5.cell? ⟨we.heap.size, 6, none⟩ = some (.slice none 0 0) ∧ W5.cell? ⟨we.heap.size, 7, none⟩ = some (.slice none 0 0) ∧ ∀ j, W5.frozen? ⟨we.heap.size, j, none⟩ = false := by
      refine ⟨?_, ?_, ?_, ?_, ?_, ?_, ?_, ?_, ?_⟩
      all_goals simp [World.cell?, World.frozen?, i5]
    have fz0 := hfz 0
    have fz1 := hfz 1
    have fz2 := hfz 2
    have fz3 := hfz 3
    have fz4 := hfz 4
    have fz5 := hfz 5
    have fz6 := hfz 6
    have fz7 := hfz 7
    clear hRec hr5 hg5 hkid hgY hrY hd i5 hfz HI5 HRI HI0 HGI
    go_upto_region 9 with fail
    clear c0 c1 c2 c3 c4 c5 c6 c7 fz0 fz1 fz2 fz3 fz4 fz5 fz6 fz7
    change Code.wp _ _ _ _ (S8 W5 we.heap.size 0 (.int .i64 d.kind) (.string (mkB d.name)) (.int .i64 d.line) (.int .i64 d.col) (.slice fa fn fc) (.slice va vn vc) (.slice ma mn mc) (.slice ia inn ic))
    generalize S8 W5 we.heap.size 0 (.int .i64 d.kind) (.string (mkB d.name)) (.int .i64 d.line) (.int .i64 d.col) (.slice fa fn fc) (.slice va vn vc) (.slice ma mn mc) (.slice ia inn ic) = Y at *
    obtain ⟨I, hI⟩ : ∃ I, we.heap.size = I := ⟨_, rfl⟩
    rw [hI] at HS8 ⊢
    have s8 := HS8.out
    have hIY : I < Y.heap.size := (Array.getElem?_eq_some_iff.1 s8).1
    have s8a : ∀ ob, (Y.alloc ob).heap[I]? = some (.cells #[.int .i64 d.kind, .string (mkB d.name), .int .i64 d.line, .int .i64 d.col, .slice fa fn fc, .slice va vn vc, .slice ma mn mc, .slice ia inn ic] 44 (0, 0)) := fun ob => by rw [alloc_heap_old _ _ _ hIY]; exact s8
    have p0 : Y.cell? ⟨I, 0, none⟩ = some (.int .i64 d.kind) := by simp [World.cell?, s8]
    have q0 : ∀ ob, (Y.alloc ob).cell? ⟨I, 0, none⟩ = some (.int .i64 d.kind) := fun ob => by simp [World.cell?, s8a ob]
    have p1 : Y.cell? ⟨I, 1, none⟩ = some (.string (mkB d.name)) := by simp [World.cell?, s8]
    have q1 : ∀ ob, (Y.alloc ob).cell? ⟨I, 1, none⟩ = some (.string (mkB d.name)) := fun ob => by simp [World.cell?, s8a ob]
    have p2 : Y.cell? ⟨I, 2, none⟩ = some (.int .i64 d.line) := by simp [World.cell?, s8]
    have q2 : ∀ ob, (Y.alloc ob).cell? ⟨I, 2, none⟩ = some (.int .i64 d.line) := fun ob => by simp [World.cell?, s8a ob]
    have p3 : Y.cell? ⟨I, 3, none⟩ = some (.int .i64 d.col) := by simp [World.cell?, s8]
    have q3 : ∀ ob, (Y.alloc ob).cell? ⟨I, 3, none⟩ = some (.int .i64 d.col) := fun ob => by simp [World.cell?, s8a ob]
    have p4 : Y.cell? ⟨I, 4, none⟩ = some (.slice fa fn fc) := by simp [World.cell?, s8]
    have q4 : ∀ ob, (Y.alloc ob).cell? ⟨I, 4, none⟩ = some (.slice fa fn fc) := fun ob => by simp [World.cell?, s8a ob]
    have p5 : Y.cell? ⟨I, 5, none⟩ = some (.slice va vn vc) := by simp [World.cell?, s8]
    have q5 : ∀ ob, (Y.alloc ob).cell? ⟨I, 5, none⟩ = some (.slice va vn vc) := fun ob => by simp [World.cell?, s8a ob]
    have p6 : Y.cell? ⟨I, 6, none⟩ = some (.slice ma mn mc) := by simp [World.cell?, s8]
    have q6 : ∀ ob, (Y.alloc ob).cell? ⟨I, 6, none⟩ = some (.slice ma mn mc) := fun ob => by simp [World.cell?, s8a ob]
    have p7 : Y.cell? ⟨I, 7, none⟩ = some (.slice ia inn ic) := by simp [World.cell?, s8]
    have q7 : ∀ ob, (Y.alloc ob).cell? ⟨I, 7, none⟩ = some (.slice ia inn ic) := fun ob => by simp [World.cell?, s8a ob]
    have d7 := HDY.out.lo.cells8.1.2.2.2.2.2.2.2
    have d7a := fun ob => (HDY.out.alloc ob).lo.cells8.1.2.2.2.2.2.2.2
    have hDA := HDY.out.drew
    have hKA : Kids f Y.drew (AwayE w0 Y.drew (.slice fa0 fl.length fc0) (.slice ia0 ds.length ic0)) (.slice fa fn fc) (.slice va vn vc) (.slice ma mn mc) (.slice ia inn ic) d := (HKD.out.old (w' := Y.drew) (fun _ _ => rfl)).more fun b hb => hb
    have hix : (ds.length : Int) < (ds.length : Int) + 1 := by omega
    clear s8 s8a HS8 HDY HD0
    go_region_law (
      (refine hDA.pushZ d _ _ _ _ hKA rfl _ _ rfl rfl rfl (by omega) ?_; intro g cap W6 hLo6 hz6 hg6 hLm6; obtain ⟨⟨z0, z1, z2, z3, z4, z5, z6, z7⟩, hzf⟩ := hz6; have hc8 := (hLo6 _ hDA.lo).cells8.1.2.2.2.2.2.2.2; have hf8 := (hLo6 _ hDA.lo).cells8.2.2.2 7; clear hLo6; have n1 : g ≠ w0.heap.size + 1 := (by omega); have n2 : w0.heap.size + 1 ≠ g := (by omega); have g0 := hzf (ds.length * 8); have g1 := hzf (ds.length * 8 + 1); have g2 := hzf (ds.length * 8 + 2); have g3 := hzf (ds.length * 8 + 3); have g4 := hzf (ds.length * 8 + 4); have g5 := hzf (ds.length * 8 + 5); have g6 := hzf (ds.length * 8 + 6); have g7 := hzf (ds.length * 8 + 7); clear hzf; have hLmB := S8_swap (P := fun V => Dm f w0 V R en CH.2 nm pl pc (.slice fa0 fl.length fc0) (.slice (some ⟨g, 0, none⟩) (ds.length + 1) cap) fl (ds ++ [d]) (rs ++ [drow d (.slice fa fn fc) (.slice va vn vc) (.slice ma mn mc) (.slice ia inn ic)])) n1 hLm6; unfold S8 at hLm6 hLmB; have HL6 := Lib.hid hLm6; have HL7 := Lib.hid hLmB; clear hLm6 hLmB; dsimp only))
    all_goals
      clear hDA hKA
      go_wp2_with fail
      go_ret
      refine ⟨fl, ds ++ [d], _, _, _, by rw [HST.out]; rfl, fun hx => ?_, by simp; omega, by rw [HST.out]; first | with_reducible exact HL6.out | with_reducible exact HL7.out⟩
      rw [HST.out] at hx ⊢
      exact ⟨rfl, by rw [HDD.out hx]⟩
  · have hM' : q.is tMessage = false := by simpa using hM
    have b0 : ((mkB q.text).toList == [109, 101, 115, 115, 97, 103, 101]) = false := by rw [mkB_list, ← iM]; exact hM'
    by_cases hX : q.is tEnum = true
    · have b1 : ((mkB q.text).toList == [101, 110, 117, 109]) = true := by rw [mkB_list, ← iE]; exact hX
      have hRec := fun W hW => enumD_kids R en q W he hW f
      have hST : stepB en msg q fl ds = ((fl, ds ++ [(q.enum en).1]), (q.enum en).2) := by unfold stepB; rw [if_neg hM, if_pos hX]
      clear hM hM' hX iM iE hmsg
      generalize q.text = tx at *
      obtain ⟨CH, hCH⟩ : ∃ CH, q.enum en = CH := ⟨_, rfl⟩
      rw [hCH] at hRec hST
      have HST := Lib.hid hST
      clear hCH hST h
      go_enter Tryz.func69, Tryz.ntmps69
      go_wp2_with fail
      refine hTx.mono ?_
      rintro e w9 ⟨rfl, h9⟩
      have h9 := h9.symm
      subst h9
      clear hTx
      go_wp2_with fail
      refine (hRec _ HRI.out).mono ?_
      generalize we.alloc (.cells z8 44) = V at *
      rintro e W5 ⟨d, fa, fn, fc, va, vn, vc, ma, mn, mc, ia, inn, ic, rfl, hd, hr5, hg5, hkid⟩
      have hz5 := hg5.size
      have HI5 := Lib.hid (keepG HI0.out hg5 (by omega))
      have HS8 := Lib.hid (set8_flat HI5.out (.int .i64 d.kind) (.string (mkB d.name)) (.int .i64 d.line) (.int .i64 d.col) (.slice fa fn fc) (.slice va vn vc) (.slice ma mn mc) (.slice ia inn ic))
      have hgY : we.grownBy (S8 W5 we.heap.size 0 (.int .i64 d.kind) (.string (mkB d.name)) (.int .i64 d.line) (.int .i64 d.col) (.slice fa fn fc) (.slice va vn vc) (.slice ma mn mc) (.slice ia inn ic)) (some R) := S8_step (o := .cells z8 44) (Nat.le_refl _) (HGI.out.trans hg5) _ _ _ _ _ _ _ _
      have hrY : DrAt (S8 W5 we.heap.size 0 (.int .i64 d.kind) (.string (mkB d.name)) (.int .i64 d.line) (.int .i64 d.col) (.slice fa fn fc) (.slice va vn vc) (.slice ma mn mc) (.slice ia inn ic)) R en CH.2 := hr5.old fun k hk => S8_far _ _ _ _ _ _ _ _ _ _ _ k (by omega)
      have HDY := Lib.hid (HD0.out.step hrY hgY)
      have HKD : Hid (Kids f (S8 W5 we.heap.size 0 (.int .i64 d.kind) (.string (mkB d.name)) (.int .i64 d.line) (.int .i64 d.col) (.slice fa fn fc) (.slice va vn vc) (.slice ma mn mc) (.slice ia inn ic)) (AwayE w0 (S8 W5 we.heap.size 0 (.int .i64 d.kind) (.string (mkB d.name)) (.int .i64 d.line) (.int .i64 d.col) (.slice fa fn fc) (.slice va vn vc) (.slice ma mn mc) (.slice ia inn ic)) (.slice fa0 fl.length fc0) (.slice ia0 ds.length ic0)) (.slice fa fn fc) (.slice va vn vc) (.slice ma mn mc) (.slice ia inn ic) d) := by
        refine (?_ : Kids _ _ _ _ _ _ _ _)
        refine (hkid.old fun b hb => S8_far _ _ _ _ _ _ _ _ _ _ _ b (by have := hb.1; omega)).more fun b hb => ⟨by have := hb.1; omega, by rw [S8_size]; exact hb.2, fun e => by have := HFO.out b e; have := hb.1; omega, fun e => by have := HIO.out b e; have := hb.1; omega⟩
      have HDD := Lib.hid hd
      have i5 := HI5.out
      obtain ⟨c0, c1, c2, c3, c4, c5, c6, c7, hfz⟩ : W5.cell? ⟨we.heap.size, 0, none⟩ = some (.int .i64 0) ∧ W5.cell? ⟨we.heap.size, 1, none⟩ = some (.string ⟨#[]⟩) ∧ W5.cell? ⟨we.heap.size, 2, none⟩ = some (.int .i64 0) ∧ W5.cell? ⟨we.heap.size, 3, none⟩ = some (.int .i64 0) ∧ W5.cell? ⟨we.heap.size, 4, none⟩ = some (.slice none 0 0) ∧ W5.cell? ⟨we.heap.size, 5, none⟩ = some (.slice none 0 0) ∧ W5.cell? ⟨we.heap.size, 6, none⟩ = some (.slice none 0 0) ∧ W5.cell? ⟨we.heap.size, 7, none⟩ = some (.slice none 0 0) ∧ ∀ j, W5.frozen? ⟨we.heap.size, j, none⟩ = false := by
        refine ⟨?_, ?_, ?_, ?_, ?_, ?_, ?_, ?_, ?_⟩
        all_goals simp [World.cell?, World.frozen?, i5]
      have fz0 := hfz 0
      have fz1 := hfz 1
      have fz2 := hfz 2
      have fz3 := hfz 3
      have fz4 := hfz 4
      have fz5 := hfz 5
      have fz6 := hfz 6
      have fz7 := hfz 7
      clear hRec hr5 hg5 hkid hgY hrY hd i5 hfz HI5 HRI HI0 HGI
      go_upto_region 9 with fail
      clear c0 c1 c2 c3 c4 c5 c6 c7 fz0 fz1 fz2 fz3 fz4 fz5 fz6 fz7
      change Code.wp _ _ _ _ (S8 W5 we.heap.size 0 (.int .i64 d.kind) (.string (mkB d.name)) (.int .i64 d.line) (.int .i64 d.col) (.slice fa fn fc) (.slice va vn vc) (.slice ma mn mc) (.slice ia inn ic))
      generalize S8 W5 we.heap.size 0 (.int .i64 d.kind) (.string (mkB d.name)) (.int .i64 d.line) (.int .i64 d.col) (.slice fa fn fc) (.slice va vn vc) (.slice ma mn mc) (.slice ia inn ic) = Y at *
      obtain ⟨I, hI⟩ : ∃ I, we.heap.size = I := ⟨_, rfl⟩
      rw [hI] at HS8 ⊢
      have s8 := HS8.out
      have hIY : I < Y.heap.size := (Array.getElem?_eq_some_iff.1 s8).1
      have s8a : ∀ ob, (Y.alloc ob).heap[I]? = some (.cells #[.int .i64 d.kind, .string (mkB d.name), .int .i64 d.line, .int .i64 d.col, .slice fa fn fc, .slice va vn vc, .slice ma mn mc, .slice ia inn ic] 44 (0, 0)) := fun ob => by rw [alloc_heap_old _ _ _ hIY]; exact s8
      have p0 : Y.cell? ⟨I, 0, none⟩ = some (.int .i64 d.kind) := by simp [World.cell?, s8]
      have q0 : ∀ ob, (Y.alloc ob).cell? ⟨I, 0, none⟩ = some (.int .i64 d.kind) := fun ob => by simp [World.cell?, s8a ob]
      have p1 : Y.cell? ⟨I, 1, none⟩ = some (.string (mkB d.name)) := by simp [World.cell?, s8]
      have q1 : ∀ ob, (Y.alloc ob).cell? ⟨I, 1, none⟩ = some (.string (mkB d.name)) := fun ob => by simp [World.cell?, s8a ob]
      have p2 : Y.cell? ⟨I, 2, none⟩ = some (.int .i64 d.line) := by simp [World.cell?, s8]
      have q2 : ∀ ob, (Y.alloc ob).cell? ⟨I, 2, none⟩ = some (.int .i64 d.line) := fun ob => by simp [World.cell?, s8a ob]
      have p3 : Y.cell? ⟨I, 3, none⟩ = some (.int .i64 d.col) := by simp [World.cell?, s8]
      have q3 : ∀ ob, (Y.alloc ob).cell? ⟨I, 3, none⟩ = some (.int .i64 d.col) := fun ob => by simp [World.cell?, s8a ob]
      have p4 : Y.cell? ⟨I, 4, none⟩ = some (.slice fa fn fc) := by simp [World.cell?, s8]
      have q4 : ∀ ob, (Y.alloc ob).cell? ⟨I, 4, none⟩ = some (.slice fa fn fc) := fun ob => by simp [World.cell?, s8a ob]
      have p5 : Y.cell? ⟨I, 5, none⟩ = some (.slice va vn vc) := by simp [World.cell?, s8]
      have q5 : ∀ ob, (Y.alloc ob).cell? ⟨I, 5, none⟩ = some (.slice va vn vc) := fun ob => by simp [World.cell?, s8a ob]
      have p6 : Y.cell? ⟨I, 6, none⟩ = some (.slice ma mn mc) := by simp [World.cell?, s8]
      have q6 : ∀ ob, (Y.alloc ob).cell? ⟨I, 6, none⟩ = some (.slice ma mn mc) := fun ob => by simp [World.cell?, s8a ob]
      have p7 : Y.cell? ⟨I, 7, none⟩ = some (.slice ia inn ic) := by simp [World.cell?, s8]
      have q7 : ∀ ob, (Y.alloc ob).cell? ⟨I, 7, none⟩ = some (.slice ia inn ic) := fun ob => by simp [World.cell?, s8a ob]
      have d7 := HDY.out.lo.cells8.1.2.2.2.2.2.2.2
      have d7a := fun ob => (HDY.out.alloc ob).lo.cells8.1.2.2.2.2.2.2.2
      have hDA := HDY.out.drew
      have hKA : Kids f Y.drew (AwayE w0 Y.drew (.slice fa0 fl.length fc0) (.slice ia0 ds.length ic0)) (.slice fa fn fc) (.slice va vn vc) (.slice ma mn mc) (.slice ia inn ic) d := (HKD.out.old (w' := Y.drew) (fun _ _ => rfl)).more fun b hb => hb
      have hix : (ds.length : Int) < (ds.length : Int) + 1 := by omega
      clear s8 s8a HS8 HDY HD0
      go_region_law (
        (refine hDA.pushZ d _ _ _ _ hKA rfl _ _ rfl rfl rfl (by omega) ?_; intro g cap W6 hLo6 hz6 hg6 hLm6; obtain ⟨⟨z0, z1, z2, z3, z4, z5, z6, z7⟩, hzf⟩ := hz6; have hc8 := (hLo6 _ hDA.lo).cells8.1.2.2.2.2.2.2.2; have hf8 := (hLo6 _ hDA.lo).cells8.2.2.2 7; clear hLo6; have n1 : g ≠ w0.heap.size + 1 := (by omega); have n2 : w0.heap.size + 1 ≠ g := (by omega); have g0 := hzf (ds.length * 8); have g1 := hzf (ds.length * 8 + 1); have g2 := hzf (ds.length * 8 + 2); have g3 := hzf (ds.length * 8 + 3); have g4 := hzf (ds.length * 8 + 4); have g5 := hzf (ds.length * 8 + 5); have g6 := hzf (ds.length * 8 + 6); have g7 := hzf (ds.length * 8 + 7); clear hzf; have hLmB := S8_swap (P := fun V => Dm f w0 V R en CH.2 nm pl pc (.slice fa0 fl.length fc0) (.slice (some ⟨g, 0, none⟩) (ds.length + 1) cap) fl (ds ++ [d]) (rs ++ [drow d (.slice fa fn fc) (.slice va vn vc) (.slice ma mn mc) (.slice ia inn ic)])) n1 hLm6; unfold S8 at hLm6 hLmB; have HL6 := Lib.hid hLm6; have HL7 := Lib.hid hLmB; clear hLm6 hLmB; dsimp only))
      all_goals
        clear hDA hKA
        go_wp2_with fail
        go_ret
        refine ⟨fl, ds ++ [d], _, _, _, by rw [HST.out]; rfl, fun hx => ?_, by simp; omega, by rw [HST.out]; first | with_reducible exact HL6.out | with_reducible exact HL7.out⟩
        rw [HST.out] at hx ⊢
        exact ⟨rfl, by rw [HDD.out hx]⟩
    · have hX' : q.is tEnum = false := by simpa using hX
      have b1 : ((mkB q.text).toList == [101, 110, 117, 109]) = false := by rw [mkB_list, ← iE]; exact hX'
      have hRec := fieldD_any (h.alloc (.cells z8 44)) he hbd
      have hST : stepB en msg q fl ds = ((fl ++ [(q.field en).1], ds), (q.field en).2) := by unfold stepB; rw [if_neg hM, if_neg hX]
      have HST := Lib.hid hST
      clear hM hM' hX hX' iM iE hmsg hST h HD0 HI0 HRI HFO HIO HGI
      generalize q.text = tx at *
      go_enter Tryz.func69, Tryz.ntmps69
      go_wp2_with fail
      refine hTx.mono ?_
      rintro e w9 ⟨rfl, h9⟩
      have h9 := h9.symm
      subst h9
      clear hTx
      go_wp2_with fail
      refine hRec.mono ?_
      rintro e W5 ⟨fd, fs5, rfl, hfd, hD5⟩
      go_wp2_with fail
      go_ret
      refine ⟨fl ++ [fd], ds, rs, fs5, _, by rw [HST.out]; rfl, fun hx => ?_, by simp; omega, by rw [HST.out]; exact hD5⟩
      rw [HST.out] at hx ⊢
      exact ⟨by rw [hfd hx], rfl⟩
end Go.Proofs.YtbfkaanmbdekfaaGreatDoor
namespace Go.Proofs.YtbfkaanmbdekfaaGreatDoor
set_option linter.unusedVariables false
open Go.ChangeShapes Go.WideShapes Go.ChangeAt Go.RowKit

theorem stepB_m (en : Int × Int) (msg : Rd → Dc × Rd) (q : Rd) (fl : List Fd) (ds : List Dc) (hm : (msg q).2.m ≤ q.m - 1) : (stepB en msg q fl ds).2.m ≤ q.m - 1 := by
  unfold stepB
  split
  · exact hm
  · split
    · exact Rd.m_enum en q
    · exact Rd.m_field en q
set_option maxHeartbeats 16000000 in
set_option maxRecDepth 20000 in
theorem messageD_zero (en : Int × Int) (R : Nat) (r : Rd) (w : World) (he : r.e = 0) (h : DrAt w R en r) :
    Calls Tryz.prog 39 #[.pointer (some ⟨R, 0, none⟩), .int .i64 9] w fun x w' => PAns en 1 R w (messageL en 1 9 r) x w' := by
  have hlt := h.lt
  have hL0 := Do.start w h 44 z8 #[.int .i64 1, .string ⟨#[]⟩, .int .i64 0, .int .i64 0, .slice none 0 0, .slice none 0 0, .slice none 0 0, .slice none 0 0]
  have HL0 := Lib.hid hL0
  have hre := Rd.fail_e r 8 (r.here en) (by decide)
  have hM2 : (messageL en 1 9 r).2 = r.fail 8 (r.here en) := by
    rw [messageL, if_pos (by omega)]
    simp only
    rw [Rd.take_stay en hre, Rd.name_stay en hre, Rd.take_stay en hre, bodyL_stop en _ _ _ _ _ (fun hh => hre hh.1), Rd.take_stay en hre]
  have HM2 := Lib.hid hM2
  have HDD : Hid (decide ((messageL en 1 9 r).2.e = 0) = false) := by refine (?_ : _ = _); rw [hM2]; exact decide_eq_false hre
  obtain ⟨EN, hEN⟩ : ∃ EN, messageL en 1 9 r = EN := ⟨_, rfl⟩
  rw [hEN] at HM2 HDD ⊢
  have hPl := fun W hW => placeD_any R en r W hW
  have hFa := fun W hW => failD_any R en r 8 (r.here en).1 (r.here en).2 W he hW
  rw [show ((r.here en).1, (r.here en).2) = r.here en from rfl] at hFa
  clear hM2 hL0 h hEN he hre
  go_enter Tryz.func39, Tryz.ntmps39
  go_wp2_with fail
  generalize (w.alloc (.cells z8 44)).alloc (.cells #[.int .i64 1, .string ⟨#[]⟩, .int .i64 0, .int .i64 0, .slice none 0 0, .slice none 0 0, .slice none 0 0, .slice none 0 0] 44) = V at *
  obtain ⟨⟨c0, c1, c2, c3, c4, c5, c6, c7⟩, _, _, _⟩ := HL0.out.cells8
  go_region_with (first
    | (go_at_call 66; refine (hPl _ ?_).mono ?_; exact HL0.out.drew.rd; rintro e W1 ⟨rfl, hb1⟩; have hL1 := HL0.out.drew.below hb1; obtain ⟨⟨e0, e1, e2, e3, e4, e5, e6, e7⟩, _, _, _⟩ := hL1.cells8)
    | (go_at_call 65; refine (hFa _ ?_).mono ?_; exact hL1.rd; rintro e W2 ⟨rfl, hr2, hg2⟩; have hL2 := hL1.step hr2 hg2; obtain ⟨⟨f0, f1, f2, f3, f4, f5, f6, f7⟩, ⟨a0, a1, a2, a3, a4, a5, a6, a7⟩, hf, _⟩ := hL2.cells8; have b0 := hf 0; have b1 := hf 1; have b2 := hf 2; have b3 := hf 3; have b4 := hf 4; have b5 := hf 5; have b6 := hf 6; have b7 := hf 7))
  all_goals
    obtain ⟨Y, hY, hRY, hGY, hBY, y0, y1, y2, y3, y4, y5, y6, y7⟩ := hL2.final8
    have HY := Lib.hid hY
    clear hY
    go_wp2_with fail
    rw [HY.out]
    exact bodyPost_ret (v := .tuple #[.agg #[.int .i64 1, .string (mkB []), .int .i64 0, .int .i64 0, .slice none 0 0, .slice none 0 0, .slice none 0 0, .slice none 0 0], .bool false]) (by simp [results, Tryz.results39, go_sem, y0, y1, y2, y3, y4, y5, y6, y7, mkB]) rfl ⟨⟨1, [], 0, 0, [], [], [], []⟩, none, 0, 0, none, 0, 0, none, 0, 0, none, 0, 0, by rw [HDD.out], fun hx => absurd hx (of_decide_eq_false HDD.out), by rw [HM2.out]; exact hRY, hGY, RowsIn.nil _ _ _ _ _ _, RowsIn.nil _ _ _ _ _ _, RowsIn.nil _ _ _ _ _ _, HeldD.nil _ _ _ _ _⟩
set_option maxHeartbeats 16000000 in
set_option maxRecDepth 20000 in
theorem messageD_any (en : Int × Int) : ∀ (k depth : Nat), depth + k = 9 → ∀ (R : Nat) (r : Rd) (w : World), r.e = 0 → DrAt w R en r →
    Calls Tryz.prog 39 #[.pointer (some ⟨R, 0, none⟩), .int .i64 (depth : Int)] w fun x w' => PAns en (k + 1) R w (messageL en (k + 1) depth r) x w' := by
  intro k
  induction k with
  | zero =>
    intro depth hdk R r w he h
    obtain rfl : depth = 9 := by omega
    exact messageD_zero en R r w he h
  | succ k ih =>
  intro depth hdk R r w he h
  have hlt := h.lt
  have hfew := h.few
  have hmle := Rd.m_le r
  have hd8 : ¬ (8 : Int) < (depth : Int) := by omega
  have hL0 : Lv (w.alloc (.cells z8 44)) ((w.alloc (.cells z8 44)).alloc (.cells #[.int .i64 1, .string ⟨#[]⟩, .int .i64 0, .int .i64 0, .slice none 0 0, .slice none 0 0, .slice none 0 0, .slice none 0 0] 44)) R en r (w.heap.size + 1) 44 #[.int .i64 1, .string ⟨#[]⟩, .int .i64 0, .int .i64 0, .slice none 0 0, .slice none 0 0, .slice none 0 0, .slice none 0 0] := by
    have := Lv.start (w.alloc (.cells z8 44)) (w.alloc (.cells z8 44)) (h.alloc _) (World.grownBy.refl _ _) (by simp; omega) 44 #[.int .i64 1, .string ⟨#[]⟩, .int .i64 0, .int .i64 0, .slice none 0 0, .slice none 0 0, .slice none 0 0, .slice none 0 0]
    rw [show (w.alloc (.cells z8 44)).heap.size = w.heap.size + 1 by simp] at this
    exact this
  have hHd := headLv hL0 he ⟨#[109, 101, 115, 115, 97, 103, 101]⟩ (by decide)
  have eT : (ByteArray.mk #[109, 101, 115, 115, 97, 103, 101]).data.toList = tMessage := rfl
  rw [eT] at hHd
  have HM1 := Lib.hid (Rd.m_take en r tMessage)
  have HEN : Hid (messageL en (k + 2) depth r = (⟨1, (r.take en tMessage).nameT, ((r.take en tMessage).nameP en).1, ((r.take en tMessage).nameP en).2, (bodyL en (messageL en (k + 1) (depth + 1)) ((((r.take en tMessage).name en).take en [123]).l.length + 1) (((r.take en tMessage).name en).take en [123]) [] []).1.1, [], [], (bodyL en (messageL en (k + 1) (depth + 1)) ((((r.take en tMessage).name en).take en [123]).l.length + 1) (((r.take en tMessage).name en).take en [123]) [] []).1.2⟩, (bodyL en (messageL en (k + 1) (depth + 1)) ((((r.take en tMessage).name en).take en [123]).l.length + 1) (((r.take en tMessage).name en).take en [123]) [] []).2.take en [125])) := by
    refine (?_ : _ = _)
    rw [messageL, if_neg (by omega)]
  obtain ⟨EN, hEN⟩ : ∃ EN, messageL en (k + 1 + 1) depth r = EN := ⟨_, rfl⟩
  have hEN' : messageL en (k + 2) depth r = EN := hEN
  rw [hEN'] at HEN
  rw [hEN]
  generalize r.take en tMessage = q1 at *
  have HM2 := Lib.hid (Rd.m_name en q1)
  have HM3 := Lib.hid (Rd.m_take en (q1.name en) [123])
  obtain ⟨NM, hNM⟩ : ∃ NM, q1.nameT = NM := ⟨_, rfl⟩
  obtain ⟨PL, hPL⟩ : ∃ PL, (q1.nameP en).1 = PL := ⟨_, rfl⟩
  obtain ⟨PC, hPC⟩ : ∃ PC, (q1.nameP en).2 = PC := ⟨_, rfl⟩
  rw [hNM, hPL, hPC] at HEN hHd
  generalize (q1.name en).take en [123] = q3 at *
  obtain ⟨BD, hBD⟩ : ∃ BD, bodyL en (messageL en (k + 1) (depth + 1)) (q3.l.length + 1) q3 [] [] = BD := ⟨_, rfl⟩
  have HBD := Lib.hid hBD
  rw [hBD] at HEN
  have hq3 : q3.m ≤ 4001 := by have := HM3.out; have := HM2.out; have := HM1.out; omega
  have HQ3 := Lib.hid (Rd.m_le q3)
  clear hEN hEN' hL0 eT h hNM hPL hPC hBD HM1 HM2 HM3
  go_enter Tryz.func39, Tryz.ntmps39
  go_wp2_with fail
  refine hHd.mono ?_
  rintro e w1 ⟨nm, pl, pc, rfl, hnm, hL1⟩
  have HNM : Hid (q3.e = 0 → nm = NM ∧ pl = PL ∧ pc = PC) := hnm
  have HL1 := Lib.hid (Do.of_lv hlt hL1)
  clear hHd hnm hL1
  go_wp2_with fail
  go_loopw [7] (fun s7 wr => ∃ (f : Nat) (q : Rd) (fl : List Fd) (ds : List Dc) (rs : List (List Value)) (fs ins : Value), s7 = .bool (decide (q.e = 0)) ∧ Dm (k + 1) w wr R en q nm pl pc fs ins fl ds rs ∧ q.m ≤ f ∧ fl.length + ds.length + q.m ≤ 4001 ∧ (q.e = 0 → q3.e = 0 ∧ BD = bodyL en (messageL en (k + 1) (depth + 1)) f q fl ds) ∧ (q.e ≠ 0 → BD.2 = q)) (fun _ wr => rdM wr R)
  case atStart =>
    refine ⟨q3.l.length + 1, q3, [], [], [], .slice none 0 0, .slice none 0 0, rfl, ⟨HL1.out, World.ownsRow_nil _ _ _ _, De.nil _ _ _ _, fun b hb => by simp [Value.ownBlock] at hb⟩, HQ3.out, by simpa using hq3, fun hz => ⟨hz, HBD.out.symm⟩, fun hz => ?_⟩
    rw [← HBD.out, bodyL_stop en _ _ q3 [] [] (fun hh => hz hh.1)]
  case round =>
    obtain ⟨f, q, fl, ds, rs, fs, ins, rfl, hLm, hmf, hacc, hok, hno⟩ := hrel
    obtain ⟨fa, fc, rfl⟩ := own_slice hLm.ownF
    obtain ⟨ia, ic, rfl⟩ := own_slice hLm.decls.own
    have HLm := Lib.hid hLm
    have hszr := hLm.lo.size
    have HM0 := Lib.hid hLm.lo.rd.m
    clear hLm
    by_cases he0 : q.e = 0
    · have hd0 : decide (q.e = 0) = true := decide_eq_true he0
      rw [hd0]
      obtain ⟨hq3e, hbd⟩ := hok he0
      have HQE := Lib.hid hq3e
      have HBQ := Lib.hid hbd
      have hSk := skipD_any R en q ⟨#[125]⟩ wr he0 (by decide) HLm.out.lo.rd
      have e125 : (ByteArray.mk #[125]).data.toList = [125] := rfl
      rw [e125] at hSk
      clear hno hok e125 hbd hd0 hq3e
      by_cases hi : q.is [125] = true
      · have hsk : q.skip [125] = q.tail := by unfold Rd.skip; rw [if_pos hi]
        have htk : q.take en [125] = q.tail := by unfold Rd.take; rw [if_pos hi]
        rw [hsk, hi] at hSk
        have hVE : BD = ((fl, ds), q) := by rw [HBQ.out, bodyL_stop en _ f q fl ds (fun hh => by rw [hi] at hh; exact absurd hh.2 (by decide))]
        have HE2 : Hid (EN.2 = q.tail) := by refine (?_ : _ = _); rw [HEN.out, hVE]; exact htk
        have HE1 : Hid (EN.1 = ⟨1, nm, pl, pc, fl, [], [], ds⟩) := by
          refine (?_ : _ = _)
          obtain ⟨a1, a2, a3⟩ := HNM.out HQE.out
          rw [HEN.out, hVE, a1, a2, a3]
        have HDD : Hid (decide (EN.2.e = 0) = true) := by refine (?_ : _ = _); rw [HE2.out]; exact decide_eq_true he0
        clear hi hsk htk hVE HBQ ih
        go_wp2_with fail
        refine hSk.mono ?_
        rintro e w5 ⟨rfl, hr5, hg5⟩
        have HL5 := Lib.hid (HLm.out.step hr5 hg5)
        obtain ⟨⟨c0, c1, c2, c3, c4, c5', c6, c7⟩, ⟨a0, a1, a2, a3, a4, a5, a6, a7⟩, hf, _⟩ := HL5.out.lo.cells8
        obtain ⟨Y, hY, hRY, hGY, ⟨y0, y1, y2, y3, y4, y5, y6, y7⟩, hKY⟩ := HL5.out.final
        have HY := Lib.hid hY
        have HKY := Lib.hid hKY
        have b0 := hf 0
        have b1 := hf 1
        have b2 := hf 2
        have b3 := hf 3
        have b4 := hf 4
        have b5 := hf 5
        have b6 := hf 6
        have b7 := hf 7
        clear hY hf hSk hr5 hg5 hKY
        go_wp2_with fail
        rw [HY.out]
        exact bodyPost_ret (v := .tuple #[.agg #[.int .i64 1, .string (mkB nm), .int .i64 pl, .int .i64 pc, .slice fa fl.length fc, .slice none 0 0, .slice none 0 0, .slice ia ds.length ic], .bool true]) (by simp [results, Tryz.results39, go_sem, y0, y1, y2, y3, y4, y5, y6, y7]) rfl ⟨⟨1, nm, pl, pc, fl, [], [], ds⟩, fa, fl.length, fc, none, 0, 0, none, 0, 0, ia, ds.length, ic, by rw [HDD.out], fun _ => HE1.out.symm, by rw [HE2.out]; exact hRY, hGY, HKY.out⟩
      · have hi' : q.is [125] = false := by simpa using hi
        have hsk : q.skip [125] = q := by unfold Rd.skip; rw [if_neg hi]
        rw [hsk, hi'] at hSk
        have hm1 : 1 ≤ q.m := by unfold Rd.m; rw [if_pos he0]; omega
        obtain ⟨f, rfl⟩ : ∃ f', f = f' + 1 := ⟨f - 1, by omega⟩
        have hBG := bodyL_step en (messageL en (k + 1) (depth + 1)) f q fl ds ⟨he0, hi'⟩
        rw [← HBQ.out] at hBG
        have HBG := Lib.hid hBG
        have hmv := stepB_m en (messageL en (k + 1) (depth + 1)) q fl ds (messageL_m en k (depth + 1) q)
        have hMem := fun W (hW : Dm (k + 1) w W R en q nm pl pc (.slice fa fl.length fc) (.slice ia ds.length ic) fl ds rs) => memberD_any hW he0 (by omega) (by omega) (messageL en (k + 1) (depth + 1)) depth (by omega) (fun W2 hW2 => ih (depth + 1) (by omega) R q W2 he0 hW2)
        generalize stepB en (messageL en (k + 1) (depth + 1)) q fl ds = ST at *
        clear HBQ hi hi' hsk hBG ih
        go_wp2_with fail
        refine hSk.mono ?_
        rintro e w5 ⟨rfl, hr5, hg5⟩
        have HL5 := Lib.hid (HLm.out.step hr5 hg5)
        clear hSk hr5 hg5
        go_wp2_with fail
        refine (hMem w5 HL5.out).mono ?_
        rintro e w6 ⟨fl', ds', rs', fs', ins', rfl, hst, hlen, hD6⟩
        have HD6 := Lib.hid hD6
        have HSTT := Lib.hid hst
        clear hMem hD6 hst
        go_wp2_with fail
        go_roundw
        case rel =>
          refine ⟨f, ST.2, fl', ds', rs', fs', ins', rfl, HD6.out, by omega, by omega, fun hz => ⟨HQE.out, ?_⟩, fun hz => ?_⟩
          · obtain ⟨s1, s2⟩ := HSTT.out hz
            rw [s1, s2]; exact HBG.out
          · rw [HBG.out, bodyL_stop en _ f ST.2 _ _ (fun hh => hz hh.1)]
        case measure =>
          have e1 := HD6.out.lo.rd.m
          have e2 := HM0.out
          exact Nat.lt_of_le_of_lt (Nat.le_of_eq e1) (by rw [e2]; omega)
    · have hd0 : decide (q.e = 0) = false := decide_eq_false he0
      rw [hd0]
      have hV2 := hno he0
      have HE2 : Hid (EN.2 = q) := by refine (?_ : _ = _); rw [HEN.out, hV2]; exact Rd.take_stay en he0 _
      have HDD : Hid (decide (EN.2.e = 0) = false) := by refine (?_ : _ = _); rw [HE2.out]; exact hd0
      obtain ⟨⟨c0, c1, c2, c3, c4, c5', c6, c7⟩, ⟨a0, a1, a2, a3, a4, a5, a6, a7⟩, hf, _⟩ := HLm.out.lo.cells8
      obtain ⟨Y, hY, hRY, hGY, ⟨y0, y1, y2, y3, y4, y5, y6, y7⟩, hKY⟩ := HLm.out.final
      have HY := Lib.hid hY
      have HKY := Lib.hid hKY
      have b0 := hf 0
      have b1 := hf 1
      have b2 := hf 2
      have b3 := hf 3
      have b4 := hf 4
      have b5 := hf 5
      have b6 := hf 6
      have b7 := hf 7
      clear hY hf hKY hno hok hV2 hd0 ih
      go_wp2_with fail
      rw [HY.out]
      exact bodyPost_ret (v := .tuple #[.agg #[.int .i64 1, .string (mkB nm), .int .i64 pl, .int .i64 pc, .slice fa fl.length fc, .slice none 0 0, .slice none 0 0, .slice ia ds.length ic], .bool false]) (by simp [results, Tryz.results39, go_sem, y0, y1, y2, y3, y4, y5, y6, y7]) rfl ⟨⟨1, nm, pl, pc, fl, [], [], ds⟩, fa, fl.length, fc, none, 0, 0, none, 0, 0, ia, ds.length, ic, by rw [HDD.out], fun hx => absurd hx (of_decide_eq_false HDD.out), by rw [HE2.out]; exact hRY, hGY, HKY.out⟩
end Go.Proofs.YtbfkaanmbdekfaaGreatDoor
