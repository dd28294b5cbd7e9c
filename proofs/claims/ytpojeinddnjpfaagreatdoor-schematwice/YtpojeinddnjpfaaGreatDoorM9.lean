/-
  The walk over the program's own service of a reader.
-/
import Derived.Test.YtpojeinddnjpfaaGreatDoorM0
import Derived.Test.YtpojeinddnjpfaaGreatDoorM7
namespace Go.Proofs.YtpojeinddnjpfaaGreatDoor
set_option linter.unusedVariables false
open Go.ChangeShapes Go.WideShapes Go.ChangeAt Go.RowKit

set_option maxHeartbeats 16000000 in
set_option maxRecDepth 20000 in
theorem serviceD_any (R : Nat) (en : Int × Int) (r : Rd) (w : World) (he : r.e = 0) (h : DrAt w R en r) :
  Calls Tryz.prog 118 #[.pointer (some ⟨R, 0, none⟩)] w fun x w' => ∃ (nm : List UInt8) (pl pc : Int) (acc : List Mt) (vs : Value), x = .returned (.tuple #[dval 3 nm pl pc (.slice none 0 0) (.slice none 0 0) vs (.slice none 0 0), .bool (decide ((r.service en).2.e = 0))]) ∧
   ((r.service en).2.e = 0 → (r.service en).1 = ⟨3, nm, pl, pc, [], [], acc, []⟩) ∧ DrAt w' R en (r.service en).2 ∧ w.grownBy w' (some R) ∧ w'.ownsRow (w.heap.size + 2) 77 5 vs acc.length (acc.flatMap mrow) := by
 have hlt := h.lt
 have hfew := h.few
 have hmle := Rd.m_le r
 have hL0 : Lv (w.alloc (.cells z8 69)) ((w.alloc (.cells z8 69)).alloc (.cells #[.int .i64 3, .string ⟨#[]⟩, .int .i64 0, .int .i64 0, .slice none 0 0, .slice none 0 0, .slice none 0 0, .slice none 0 0] 69)) R en r (w.heap.size + 1) 69 #[.int .i64 3, .string ⟨#[]⟩, .int .i64 0, .int .i64 0, .slice none 0 0, .slice none 0 0, .slice none 0 0, .slice none 0 0] := by
  have := Lv.start (w.alloc (.cells z8 69)) (w.alloc (.cells z8 69)) (h.alloc _) (World.grownBy.refl _ _) (by simp; omega) 69 #[.int .i64 3, .string ⟨#[]⟩, .int .i64 0, .int .i64 0, .slice none 0 0, .slice none 0 0, .slice none 0 0, .slice none 0 0]
  rw [show (w.alloc (.cells z8 69)).heap.size = w.heap.size + 1 by simp] at this
  exact this
 have hHd := headLv hL0 he ⟨#[115, 101, 114, 118, 105, 99, 101]⟩ (by decide)
 have eT : (ByteArray.mk #[115, 101, 114, 118, 105, 99, 101]).data.toList = tService := rfl
 rw [eT] at hHd
 have HM1 := Lib.hid (Rd.m_take en r tService)
 have HEN : Hid (r.service en = (⟨3, (r.take en tService).nameT, ((r.take en tService).nameP en).1, ((r.take en tService).nameP en).2, [], [], (methodsL en ((((r.take en tService).name en).take en [123]).l.length + 1) (((r.take en tService).name en).take en [123]) []).1, []⟩, (methodsL en ((((r.take en tService).name en).take en [123]).l.length + 1) (((r.take en tService).name en).take en [123]) []).2.take en [125])) := rfl
 obtain ⟨EN, hEN⟩ : ∃ EN, r.service en = EN := ⟨_, rfl⟩
 rw [hEN] at HEN ⊢
 generalize r.take en tService = q1 at *
 have HM2 := Lib.hid (Rd.m_name en q1)
 have HM3 := Lib.hid (Rd.m_take en (q1.name en) [123])
 obtain ⟨NM, hNM⟩ : ∃ NM, q1.nameT = NM := ⟨_, rfl⟩
 obtain ⟨PL, hPL⟩ : ∃ PL, (q1.nameP en).1 = PL := ⟨_, rfl⟩
 obtain ⟨PC, hPC⟩ : ∃ PC, (q1.nameP en).2 = PC := ⟨_, rfl⟩
 rw [hNM, hPL, hPC] at HEN hHd
 generalize (q1.name en).take en [123] = q3 at *
 obtain ⟨VS, hVS⟩ : ∃ VS, methodsL en (q3.l.length + 1) q3 [] = VS := ⟨_, rfl⟩
 have HVS := Lib.hid hVS
 rw [hVS] at HEN
 have hq3 : q3.m ≤ 4001 := by have := HM3.out; have := HM2.out; have := HM1.out; omega
 have HQ3 := Lib.hid (Rd.m_le q3)
 clear hEN hL0 eT h hNM hPL hPC hVS HM1 HM2 HM3
 go_enter Tryz.func118, Tryz.ntmps118
 go_wp2_with fail
 refine hHd.mono ?_
 rintro e w1 ⟨nm, pl, pc, rfl, hnm, hL1⟩
 have HNM : Hid (q3.e = 0 → nm = NM ∧ pl = PL ∧ pc = PC) := hnm
 have HL1 := Lib.hid (Do.of_lv hlt hL1)
 clear hHd hnm hL1
 go_wp2_with fail
 go_loopw [5] (fun s5 wr => ∃ (f : Nat) (q : Rd) (acc : List Mt) (vs : Value), s5 = .bool (decide (q.e = 0)) ∧ Dl w wr R en q 69 z8 #[.int .i64 3, .string (mkB nm), .int .i64 pl, .int .i64 pc, .slice none 0 0, .slice none 0 0, vs, .slice none 0 0] 77 5 vs acc.length (acc.flatMap mrow) ∧ q.m ≤ f ∧ acc.length + q.m ≤ 4001 ∧ (q.e = 0 → q3.e = 0 ∧ VS = methodsL en f q acc) ∧ (q.e ≠ 0 → VS.2 = q)) (fun _ wr => rdM wr R)
 case atStart =>
  refine ⟨q3.l.length + 1, q3, [], .slice none 0 0, rfl, ⟨HL1.out, World.ownsRow_nil _ _ _ _⟩, HQ3.out, by simpa using hq3, fun hz => ⟨hz, HVS.out.symm⟩, fun hz => ?_⟩
  rw [← HVS.out, methodsL_stop en _ q3 [] (fun hh => hz hh.1)]
 case round =>
  obtain ⟨f, q, acc, vs, rfl, hLs, hmf, hacc, hok, hno⟩ := hrel
  obtain ⟨va, vc, rfl⟩ := own_slice hLs.own
  have HLs := Lib.hid hLs
  have hszr := hLs.lo.size
  have HM0 := Lib.hid hLs.lo.rd.m
  clear hLs
  by_cases he0 : q.e = 0
  ·have hd0 : decide (q.e = 0) = true := decide_eq_true he0
   rw [hd0]
   obtain ⟨hq3e, hvs⟩ := hok he0
   have HQE := Lib.hid hq3e
   have HVQ := Lib.hid hvs
   have hSk := skipD_any R en q ⟨#[125]⟩ wr he0 (by decide) HLs.out.lo.rd
   have e125 : (ByteArray.mk #[125]).data.toList = [125] := rfl
   rw [e125] at hSk
   clear hno hok e125 hvs hd0 hq3e
   by_cases hi : q.is [125] = true
   ·have hsk : q.skip [125] = q.tail := by unfold Rd.skip; rw [if_pos hi]
    have htk : q.take en [125] = q.tail := by unfold Rd.take; rw [if_pos hi]
    rw [hsk, hi] at hSk
    have hVE : VS = (acc, q) := by rw [HVQ.out, methodsL_stop en f q acc (fun hh => by rw [hi] at hh; exact absurd hh.2 (by decide))]
    have HE2 : Hid (EN.2 = q.tail) := by refine (?_ : _ = _); rw [HEN.out, hVE]; exact htk
    have HE1 : Hid (EN.1 = ⟨3, nm, pl, pc, [], [], acc, []⟩) := by
     refine (?_ : _ = _)
     obtain ⟨a1, a2, a3⟩ := HNM.out HQE.out
     rw [HEN.out, hVE, a1, a2, a3]
    have HDD : Hid (decide (EN.2.e = 0) = true) := by refine (?_ : _ = _); rw [HE2.out]; exact decide_eq_true he0
    clear hi hsk htk hVE HVQ
    go_wp2_with fail
    refine hSk.mono ?_
    rintro e w5 ⟨rfl, hr5, hg5⟩
    have HL5 := Lib.hid (HLs.out.step hr5 hg5)
    obtain ⟨⟨c0, c1, c2, c3, c4, c5', c6, c7⟩, ⟨a0, a1, a2, a3, a4, a5, a6, a7⟩, hf, _⟩ := HL5.out.lo.cells8
    obtain ⟨Y, hY, hRY, hGY, hBY, y0, y1, y2, y3, y4, y5, y6, y7⟩ := HL5.out.lo.final8
    have HOY : Hid (Y.ownsRow (w.heap.size + 2) 77 5 (.slice va acc.length vc) acc.length (acc.flatMap mrow)) := own_keep HL5.out.own fun b hb => hBY b (by have := (own_block HL5.out.own b hb).1; omega)
    have HY := Lib.hid hY
    have b0 := hf 0
    have b1 := hf 1
    have b2 := hf 2
    have b3 := hf 3
    have b4 := hf 4
    have b5 := hf 5
    have b6 := hf 6
    have b7 := hf 7
    clear hY hf hSk hr5 hg5 hBY
    go_wp2_with fail
    rw [HY.out]
    exact bodyPost_ret (v := .tuple #[dval 3 nm pl pc (.slice none 0 0) (.slice none 0 0) (.slice va acc.length vc) (.slice none 0 0), .bool true]) (by unfold dval; simp [results, Tryz.results118, go_sem, y0, y1, y2, y3, y4, y5, y6, y7]) rfl ⟨nm, pl, pc, acc, _, by rw [HDD.out], fun _ => HE1.out, by rw [HE2.out]; exact hRY, hGY, HOY.out⟩
   ·have hi' : q.is [125] = false := by simpa using hi
    have hsk : q.skip [125] = q := by unfold Rd.skip; rw [if_neg hi]
    rw [hsk, hi'] at hSk
    have hm1 : 1 ≤ q.m := by unfold Rd.m; rw [if_pos he0]; omega
    obtain ⟨f, rfl⟩ : ∃ f', f = f' + 1 := ⟨f - 1, by omega⟩
    have hmv := Rd.m_method en q
    have HNX : Hid (VS = methodsL en f (q.method en).2 (acc ++ [(q.method en).1])) := by
     refine (?_ : _ = _)
     rw [HVQ.out, methodsL_go en f q acc ⟨he0, hi'⟩]
    have HVE : Hid (q.method en = (⟨(q.take en tRpc).nameT, ((((q.take en tRpc).name en).take en [40]).path en).1, ((((((((q.take en tRpc).name en).take en [40]).path en).2.take en [41]).take en tReturns).take en [40]).path en).1, ((q.take en tRpc).nameP en).1, ((q.take en tRpc).nameP en).2⟩, (((((((((q.take en tRpc).name en).take en [40]).path en).2.take en [41]).take en tReturns).take en [40]).path en).2.take en [41]).take en [59])) := rfl
    obtain ⟨VAL, hVAL⟩ : ∃ VAL, q.method en = VAL := ⟨_, rfl⟩
    rw [hVAL] at HNX HVE hmv
    clear HVQ hi hi' hsk hVAL
    go_wp2_with fail
    refine hSk.mono ?_
    rintro e w5 ⟨rfl, hr5, hg5⟩
    have HL5 := Lib.hid (HLs.out.step hr5 hg5)
    have hsz5 := HL5.out.lo.size
    have HG0 : Hid (Lv w5 (w5.alloc (.cells #[.string ⟨#[]⟩, .string ⟨#[]⟩, .string ⟨#[]⟩, .int .i64 0, .int .i64 0] 77)) R en q w5.heap.size 77 #[.string ⟨#[]⟩, .string ⟨#[]⟩, .string ⟨#[]⟩, .int .i64 0, .int .i64 0]) := Lv.start w5 w5 hr5 (World.grownBy.refl _ _) hr5.lt 77 #[.string ⟨#[]⟩, .string ⟨#[]⟩, .string ⟨#[]⟩, .int .i64 0, .int .i64 0]
    clear hSk hr5 hg5
    go_upto_region 5 with fail
    generalize w5.alloc (.cells #[.string ⟨#[]⟩, .string ⟨#[]⟩, .string ⟨#[]⟩, .int .i64 0, .int .i64 0] 77) = V5 at *
    obtain ⟨G, hG⟩ : ∃ G, w5.heap.size = G := ⟨_, rfl⟩
    rw [hG] at HG0 ⊢
    go_cut [5] from 10 to 47 (fun s5 wz => ∃ el : Mt, s5 = .bool (decide (VAL.2.e = 0)) ∧ (VAL.2.e = 0 → el = VAL.1) ∧ Lv w5 wz R en VAL.2 G 77 #[.string (mkB el.name), .string (mkB el.inp), .string (mkB el.out), .int .i64 el.line, .int .i64 el.col])
    case first =>
     have hC1 := fun W (hW : Lv w5 W R en q G 77 #[.string (mkB []), .string (mkB []), .string (mkB []), .int .i64 0, .int .i64 0]) => wantLv hW he0 ⟨#[114, 112, 99]⟩ (by decide)
     have eB1 : (ByteArray.mk #[114, 112, 99]).data.toList = [114, 112, 99] := rfl
     rw [eB1] at hC1
     clear eB1
     have hE1 := Rd.e_take en he0 [114, 112, 99]
     obtain ⟨x1, hx1⟩ : ∃ x, q.take en [114, 112, 99] = x := ⟨_, rfl⟩
     rw [hx1] at hC1 hE1
     by_cases hb1 : q.is [114, 112, 99] = true
     ·rw [hb1] at hE1
      have e1 : x1.e = 0 := of_decide_eq_true hE1
      rw [hb1] at hC1
      have hC2 := fun W (hW : Lv w5 W R en x1 G 77 #[.string (mkB []), .string (mkB []), .string (mkB []), .int .i64 0, .int .i64 0]) => nameLv hW e1 0 3 (by simp) (by simp) (by decide)
      unfold nameC at hC2
      have hE2 := Rd.e_name en e1
      obtain ⟨x2, hx2⟩ : ∃ x, x1.name en = x := ⟨_, rfl⟩
      rw [hx2] at hC2 hE2
      by_cases hb2 : x1.isName = true
      ·rw [hb2] at hE2
       have e2 : x2.e = 0 := of_decide_eq_true hE2
       rw [if_pos hb2, hb2] at hC2
       have hC3 := fun W (hW : Lv w5 W R en x2 G 77 #[.string (mkB x1.nameT), .string (mkB []), .string (mkB []), .int .i64 (x1.nameP en).1, .int .i64 (x1.nameP en).2]) => bracketedLv hW e2 1 rfl
       obtain ⟨z3, hz3⟩ : ∃ z, ((x2.take en [40]).path en).1 = z := ⟨_, rfl⟩
       rw [hz3] at hC3
       obtain ⟨x3, hx3⟩ : ∃ x, ((x2.take en [40]).path en).2.take en [41] = x := ⟨_, rfl⟩
       rw [hx3] at hC3
       by_cases hb3 : decide (x3.e = 0) = true
       ·have e3 : x3.e = 0 := of_decide_eq_true hb3
        rw [hb3] at hC3
        have hC4 := fun W (hW : Lv w5 W R en x3 G 77 #[.string (mkB x1.nameT), .string (mkB z3), .string (mkB []), .int .i64 (x1.nameP en).1, .int .i64 (x1.nameP en).2]) => wantLv hW e3 ⟨#[114, 101, 116, 117, 114, 110, 115]⟩ (by decide)
        have eB4 : (ByteArray.mk #[114, 101, 116, 117, 114, 110, 115]).data.toList = [114, 101, 116, 117, 114, 110, 115] := rfl
        rw [eB4] at hC4
        clear eB4
        have hE4 := Rd.e_take en e3 [114, 101, 116, 117, 114, 110, 115]
        obtain ⟨x4, hx4⟩ : ∃ x, x3.take en [114, 101, 116, 117, 114, 110, 115] = x := ⟨_, rfl⟩
        rw [hx4] at hC4 hE4
        by_cases hb4 : x3.is [114, 101, 116, 117, 114, 110, 115] = true
        ·rw [hb4] at hE4
         have e4 : x4.e = 0 := of_decide_eq_true hE4
         rw [hb4] at hC4
         have hC5 := fun W (hW : Lv w5 W R en x4 G 77 #[.string (mkB x1.nameT), .string (mkB z3), .string (mkB []), .int .i64 (x1.nameP en).1, .int .i64 (x1.nameP en).2]) => bracketedLv hW e4 2 rfl
         obtain ⟨z5, hz5⟩ : ∃ z, ((x4.take en [40]).path en).1 = z := ⟨_, rfl⟩
         rw [hz5] at hC5
         obtain ⟨x5, hx5⟩ : ∃ x, ((x4.take en [40]).path en).2.take en [41] = x := ⟨_, rfl⟩
         rw [hx5] at hC5
         by_cases hb5 : decide (x5.e = 0) = true
         ·have e5 : x5.e = 0 := of_decide_eq_true hb5
          rw [hb5] at hC5
          have hC6 := fun W (hW : Lv w5 W R en x5 G 77 #[.string (mkB x1.nameT), .string (mkB z3), .string (mkB z5), .int .i64 (x1.nameP en).1, .int .i64 (x1.nameP en).2]) => wantLv hW e5 ⟨#[59]⟩ (by decide)
          have eB6 : (ByteArray.mk #[59]).data.toList = [59] := rfl
          rw [eB6] at hC6
          clear eB6
          have hE6 := Rd.e_take en e5 [59]
          obtain ⟨x6, hx6⟩ : ∃ x, x5.take en [59] = x := ⟨_, rfl⟩
          rw [hx6] at hC6 hE6
          go_wp2_with fail
          refine (hC1 _ HG0.out).mono ?_
          rintro e v1 ⟨rfl, l1⟩
          have l1 : Lv w5 v1 R en x1 G 77 #[.string (mkB []), .string (mkB []), .string (mkB []), .int .i64 0, .int .i64 0] := l1
          go_wp2_with fail
          refine (hC2 _ l1).mono ?_
          rintro e v2 ⟨rfl, l2⟩
          have l2 : Lv w5 v2 R en x2 G 77 #[.string (mkB x1.nameT), .string (mkB []), .string (mkB []), .int .i64 (x1.nameP en).1, .int .i64 (x1.nameP en).2] := l2
          go_wp2_with fail
          refine (hC3 _ l2).mono ?_
          rintro e v3 ⟨y3, rfl, hy3, l3⟩
          rw [hy3 e3] at l3
          have l3 : Lv w5 v3 R en x3 G 77 #[.string (mkB x1.nameT), .string (mkB z3), .string (mkB []), .int .i64 (x1.nameP en).1, .int .i64 (x1.nameP en).2] := l3
          go_wp2_with fail
          refine (hC4 _ l3).mono ?_
          rintro e v4 ⟨rfl, l4⟩
          have l4 : Lv w5 v4 R en x4 G 77 #[.string (mkB x1.nameT), .string (mkB z3), .string (mkB []), .int .i64 (x1.nameP en).1, .int .i64 (x1.nameP en).2] := l4
          go_wp2_with fail
          refine (hC5 _ l4).mono ?_
          rintro e v5 ⟨y5, rfl, hy5, l5⟩
          rw [hy5 e5] at l5
          have l5 : Lv w5 v5 R en x5 G 77 #[.string (mkB x1.nameT), .string (mkB z3), .string (mkB z5), .int .i64 (x1.nameP en).1, .int .i64 (x1.nameP en).2] := l5
          go_wp2_with fail
          refine (hC6 _ l5).mono ?_
          rintro e v6 ⟨rfl, l6⟩
          have l6 : Lv w5 v6 R en x6 G 77 #[.string (mkB x1.nameT), .string (mkB z3), .string (mkB z5), .int .i64 (x1.nameP en).1, .int .i64 (x1.nameP en).2] := l6
          go_wp2_with fail
          go_meet
          have hVV : VAL = (⟨x1.nameT, z3, z5, (x1.nameP en).1, (x1.nameP en).2⟩, x6) := by rw [HVE.out, hx1, hx2, hz3, hx3, hx4, hz5, hx5, hx6]
          have hV2 : VAL.2 = x6 := by rw [hVV]
          have hV1 : VAL.1 = ⟨x1.nameT, z3, z5, (x1.nameP en).1, (x1.nameP en).2⟩ := by rw [hVV]
          exact ⟨⟨x1.nameT, z3, z5, (x1.nameP en).1, (x1.nameP en).2⟩, by rw [hV2]; exact congrArg Value.bool hE6.symm, fun _ => hV1.symm, by rw [hV2]; exact l6⟩
         ·have hb5f : (decide (x5.e = 0)) = false := by simpa using hb5
          have n5 : x5.e ≠ 0 := of_decide_eq_false hb5f
          rw [hb5f] at hC5
          go_wp2_with fail
          refine (hC1 _ HG0.out).mono ?_
          rintro e v1 ⟨rfl, l1⟩
          have l1 : Lv w5 v1 R en x1 G 77 #[.string (mkB []), .string (mkB []), .string (mkB []), .int .i64 0, .int .i64 0] := l1
          go_wp2_with fail
          refine (hC2 _ l1).mono ?_
          rintro e v2 ⟨rfl, l2⟩
          have l2 : Lv w5 v2 R en x2 G 77 #[.string (mkB x1.nameT), .string (mkB []), .string (mkB []), .int .i64 (x1.nameP en).1, .int .i64 (x1.nameP en).2] := l2
          go_wp2_with fail
          refine (hC3 _ l2).mono ?_
          rintro e v3 ⟨y3, rfl, hy3, l3⟩
          rw [hy3 e3] at l3
          have l3 : Lv w5 v3 R en x3 G 77 #[.string (mkB x1.nameT), .string (mkB z3), .string (mkB []), .int .i64 (x1.nameP en).1, .int .i64 (x1.nameP en).2] := l3
          go_wp2_with fail
          refine (hC4 _ l3).mono ?_
          rintro e v4 ⟨rfl, l4⟩
          have l4 : Lv w5 v4 R en x4 G 77 #[.string (mkB x1.nameT), .string (mkB z3), .string (mkB []), .int .i64 (x1.nameP en).1, .int .i64 (x1.nameP en).2] := l4
          go_wp2_with fail
          refine (hC5 _ l4).mono ?_
          rintro e v5 ⟨y5, rfl, hy5, l5⟩
          have l5 : Lv w5 v5 R en x5 G 77 #[.string (mkB x1.nameT), .string (mkB z3), .string (mkB y5), .int .i64 (x1.nameP en).1, .int .i64 (x1.nameP en).2] := l5
          go_wp2_with fail
          go_meet
          have hV2 : VAL.2 = x5 := by rw [HVE.out]; show (((((((((q.take en tRpc).name en).take en [40]).path en).2.take en [41]).take en tReturns).take en [40]).path en).2.take en [41]).take en [59] = _; rw [hx1, hx2, hx3, hx4, hx5, Rd.take_stay en n5]
          exact ⟨⟨x1.nameT, z3, y5, (x1.nameP en).1, (x1.nameP en).2⟩, by rw [hV2]; exact congrArg Value.bool (decide_eq_false n5).symm, fun h => absurd (hV2 ▸ h) n5, by rw [hV2]; exact l5⟩
        ·have hb4f : (x3.is [114, 101, 116, 117, 114, 110, 115]) = false := by simpa using hb4
         rw [hb4f] at hE4
         have n4 : x4.e ≠ 0 := of_decide_eq_false hE4
         rw [hb4f] at hC4
         go_wp2_with fail
         refine (hC1 _ HG0.out).mono ?_
         rintro e v1 ⟨rfl, l1⟩
         have l1 : Lv w5 v1 R en x1 G 77 #[.string (mkB []), .string (mkB []), .string (mkB []), .int .i64 0, .int .i64 0] := l1
         go_wp2_with fail
         refine (hC2 _ l1).mono ?_
         rintro e v2 ⟨rfl, l2⟩
         have l2 : Lv w5 v2 R en x2 G 77 #[.string (mkB x1.nameT), .string (mkB []), .string (mkB []), .int .i64 (x1.nameP en).1, .int .i64 (x1.nameP en).2] := l2
         go_wp2_with fail
         refine (hC3 _ l2).mono ?_
         rintro e v3 ⟨y3, rfl, hy3, l3⟩
         rw [hy3 e3] at l3
         have l3 : Lv w5 v3 R en x3 G 77 #[.string (mkB x1.nameT), .string (mkB z3), .string (mkB []), .int .i64 (x1.nameP en).1, .int .i64 (x1.nameP en).2] := l3
         go_wp2_with fail
         refine (hC4 _ l3).mono ?_
         rintro e v4 ⟨rfl, l4⟩
         have l4 : Lv w5 v4 R en x4 G 77 #[.string (mkB x1.nameT), .string (mkB z3), .string (mkB []), .int .i64 (x1.nameP en).1, .int .i64 (x1.nameP en).2] := l4
         go_wp2_with fail
         go_meet
         have hV2 : VAL.2 = x4 := by rw [HVE.out]; show (((((((((q.take en tRpc).name en).take en [40]).path en).2.take en [41]).take en tReturns).take en [40]).path en).2.take en [41]).take en [59] = _; rw [hx1, hx2, hx3, hx4, Rd.take_stay en n4, Rd.path_stay en n4, Rd.take_stay en n4, Rd.take_stay en n4]
         exact ⟨⟨x1.nameT, z3, [], (x1.nameP en).1, (x1.nameP en).2⟩, by rw [hV2]; exact congrArg Value.bool (decide_eq_false n4).symm, fun h => absurd (hV2 ▸ h) n4, by rw [hV2]; exact l4⟩
       ·have hb3f : (decide (x3.e = 0)) = false := by simpa using hb3
        have n3 : x3.e ≠ 0 := of_decide_eq_false hb3f
        rw [hb3f] at hC3
        go_wp2_with fail
        refine (hC1 _ HG0.out).mono ?_
        rintro e v1 ⟨rfl, l1⟩
        have l1 : Lv w5 v1 R en x1 G 77 #[.string (mkB []), .string (mkB []), .string (mkB []), .int .i64 0, .int .i64 0] := l1
        go_wp2_with fail
        refine (hC2 _ l1).mono ?_
        rintro e v2 ⟨rfl, l2⟩
        have l2 : Lv w5 v2 R en x2 G 77 #[.string (mkB x1.nameT), .string (mkB []), .string (mkB []), .int .i64 (x1.nameP en).1, .int .i64 (x1.nameP en).2] := l2
        go_wp2_with fail
        refine (hC3 _ l2).mono ?_
        rintro e v3 ⟨y3, rfl, hy3, l3⟩
        have l3 : Lv w5 v3 R en x3 G 77 #[.string (mkB x1.nameT), .string (mkB y3), .string (mkB []), .int .i64 (x1.nameP en).1, .int .i64 (x1.nameP en).2] := l3
        go_wp2_with fail
        go_meet
        have hV2 : VAL.2 = x3 := by rw [HVE.out]; show (((((((((q.take en tRpc).name en).take en [40]).path en).2.take en [41]).take en tReturns).take en [40]).path en).2.take en [41]).take en [59] = _; rw [hx1, hx2, hx3, Rd.take_stay en n3, Rd.take_stay en n3, Rd.path_stay en n3, Rd.take_stay en n3, Rd.take_stay en n3]
        exact ⟨⟨x1.nameT, y3, [], (x1.nameP en).1, (x1.nameP en).2⟩, by rw [hV2]; exact congrArg Value.bool (decide_eq_false n3).symm, fun h => absurd (hV2 ▸ h) n3, by rw [hV2]; exact l3⟩
      ·have hb2f : (x1.isName) = false := by simpa using hb2
       rw [hb2f] at hE2
       have n2 : x2.e ≠ 0 := of_decide_eq_false hE2
       rw [if_neg hb2, hb2f] at hC2
       go_wp2_with fail
       refine (hC1 _ HG0.out).mono ?_
       rintro e v1 ⟨rfl, l1⟩
       have l1 : Lv w5 v1 R en x1 G 77 #[.string (mkB []), .string (mkB []), .string (mkB []), .int .i64 0, .int .i64 0] := l1
       go_wp2_with fail
       refine (hC2 _ l1).mono ?_
       rintro e v2 ⟨rfl, l2⟩
       have l2 : Lv w5 v2 R en x2 G 77 #[.string (mkB []), .string (mkB []), .string (mkB []), .int .i64 0, .int .i64 0] := l2
       go_wp2_with fail
       go_meet
       have hV2 : VAL.2 = x2 := by rw [HVE.out]; show (((((((((q.take en tRpc).name en).take en [40]).path en).2.take en [41]).take en tReturns).take en [40]).path en).2.take en [41]).take en [59] = _; rw [hx1, hx2, Rd.take_stay en n2, Rd.path_stay en n2, Rd.take_stay en n2, Rd.take_stay en n2, Rd.take_stay en n2, Rd.path_stay en n2, Rd.take_stay en n2, Rd.take_stay en n2]
       exact ⟨⟨[], [], [], 0, 0⟩, by rw [hV2]; exact congrArg Value.bool (decide_eq_false n2).symm, fun h => absurd (hV2 ▸ h) n2, by rw [hV2]; exact l2⟩
     ·have hb1f : (q.is [114, 112, 99]) = false := by simpa using hb1
      rw [hb1f] at hE1
      have n1 : x1.e ≠ 0 := of_decide_eq_false hE1
      rw [hb1f] at hC1
      go_wp2_with fail
      refine (hC1 _ HG0.out).mono ?_
      rintro e v1 ⟨rfl, l1⟩
      have l1 : Lv w5 v1 R en x1 G 77 #[.string (mkB []), .string (mkB []), .string (mkB []), .int .i64 0, .int .i64 0] := l1
      go_wp2_with fail
      go_meet
      have hV2 : VAL.2 = x1 := by rw [HVE.out]; show (((((((((q.take en tRpc).name en).take en [40]).path en).2.take en [41]).take en tReturns).take en [40]).path en).2.take en [41]).take en [59] = _; rw [hx1, Rd.name_stay en n1, Rd.take_stay en n1, Rd.path_stay en n1, Rd.take_stay en n1, Rd.take_stay en n1, Rd.take_stay en n1, Rd.path_stay en n1, Rd.take_stay en n1, Rd.take_stay en n1]
      exact ⟨⟨[], [], [], 0, 0⟩, by rw [hV2]; exact congrArg Value.bool (decide_eq_false n1).symm, fun h => absurd (hV2 ▸ h) n1, by rw [hV2]; exact l1⟩
    case rest =>
     obtain ⟨el, rfl, hel, hLz⟩ := hcut
     generalize wc = W8 at *
     have HEL := Lib.hid hel
     have HLA := Lib.hid (HL5.out.step hLz.rd hLz.gr)
     have gA := hLz.loc
     have p0 := cell_at gA 0 rfl
     have p1 := cell_at gA 1 rfl
     have p2 := cell_at gA 2 rfl
     have p3 := cell_at gA 3 rfl
     have p4 := cell_at gA 4 rfl
     have d5 := HLA.out.lo.cells8.1.2.2.2.2.2.2.1
     clear hel hLz gA HG0 HVE
     go_wp2_with (at_builtin; refine HLA.out.push rfl _ _ 67 rfl Tryz.underlying67 _ 64 infoMtD rfl (by decide) (mrow el) rfl (by intro u hu; simp only [mrow, List.mem_cons, List.not_mem_nil, or_false] at hu; rcases hu with rfl | rfl | rfl | rfl | rfl <;> rfl) _ rfl rfl rfl (by omega) (by decide) ?_)
     intro g cap W hLW
     have HLW := Lib.hid hLW
     have hkk := hLW.lo.cells8
     have k5 := hkk.1.2.2.2.2.2.2.1
     have kf := hkk.2.2.2 6
     clear d5 p0 p1 p2 p3 p4 hLW hkk
     go_wp2_with fail
     have HLZ : Dl w (W.setCell ⟨w.heap.size + 1, 6, none⟩ (.slice (some ⟨g, 0, none⟩) (acc.length + 1) cap)) R en VAL.2 69 z8 #[.int .i64 3, .string (mkB nm), .int .i64 pl, .int .i64 pc, .slice none 0 0, .slice none 0 0, (.slice (some ⟨g, 0, none⟩) (acc.length + 1) cap), .slice none 0 0] 77 5 (.slice (some ⟨g, 0, none⟩) (acc.length + 1) cap) (acc ++ [el]).length ((acc ++ [el]).flatMap mrow) := by
      have := HLW.out.set 6 (.slice (some ⟨g, 0, none⟩) (acc.length + 1) cap)
      rw [List.length_append, List.flatMap_append]
      simpa using this
     go_roundw
     case rel =>
      refine ⟨f, VAL.2, acc ++ [el], _, rfl, HLZ, by omega, by simp; omega, fun hz => ⟨HQE.out, ?_⟩, fun hz => ?_⟩
      ·rw [HEL.out hz]; exact HNX.out
      ·rw [HNX.out, methodsL_stop en f VAL.2 _ (fun hh => hz hh.1)]
     case measure =>
      have e1 := HLZ.lo.rd.m
      have e2 := HM0.out
      exact Nat.lt_of_le_of_lt (Nat.le_of_eq e1) (by rw [e2]; omega)
  ·have hd0 : decide (q.e = 0) = false := decide_eq_false he0
   rw [hd0]
   have hV2 := hno he0
   have HE2 : Hid (EN.2 = q) := by refine (?_ : _ = _); rw [HEN.out, hV2]; exact Rd.take_stay en he0 _
   have HDD : Hid (decide (EN.2.e = 0) = false) := by refine (?_ : _ = _); rw [HE2.out]; exact hd0
   obtain ⟨⟨c0, c1, c2, c3, c4, c5', c6, c7⟩, ⟨a0, a1, a2, a3, a4, a5, a6, a7⟩, hf, _⟩ := HLs.out.lo.cells8
   obtain ⟨Y, hY, hRY, hGY, hBY, y0, y1, y2, y3, y4, y5, y6, y7⟩ := HLs.out.lo.final8
   have HOY : Hid (Y.ownsRow (w.heap.size + 2) 77 5 (.slice va acc.length vc) acc.length (acc.flatMap mrow)) := own_keep HLs.out.own fun b hb => hBY b (by have := (own_block HLs.out.own b hb).1; omega)
   have HY := Lib.hid hY
   have b0 := hf 0
   have b1 := hf 1
   have b2 := hf 2
   have b3 := hf 3
   have b4 := hf 4
   have b5 := hf 5
   have b6 := hf 6
   have b7 := hf 7
   clear hY hf hBY hno hok hV2 hd0
   go_wp2_with fail
   rw [HY.out]
   exact bodyPost_ret (v := .tuple #[dval 3 nm pl pc (.slice none 0 0) (.slice none 0 0) (.slice va acc.length vc) (.slice none 0 0), .bool false]) (by unfold dval; simp [results, Tryz.results118, go_sem, y0, y1, y2, y3, y4, y5, y6, y7]) rfl ⟨nm, pl, pc, acc, _, by rw [HDD.out], fun hx => absurd hx (of_decide_eq_false HDD.out), by rw [HE2.out]; exact hRY, hGY, HOY.out⟩
end Go.Proofs.YtpojeinddnjpfaaGreatDoor
