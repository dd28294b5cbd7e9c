/-
  The walk over the program's own message of a reader.
-/
import Derived.Test.YtpojeinddnjpfaaGreatDoorM11
import Derived.Deep.RegionWith
namespace Go.Proofs.YtpojeinddnjpfaaGreatDoor
set_option linter.unusedVariables false
open Go.ChangeShapes Go.WideShapes Go.ChangeAt Go.RowKit

theorem stepB_m (en : Int × Int) (msg : Rd → Dc × Rd) (q : Rd) (fl : List Fd) (ds : List Dc) (hm : (msg q).2.m ≤ q.m - 1) : (stepB en msg q fl ds).2.m ≤ q.m - 1 := by
 unfold stepB
 split
 ·exact hm
 ·split
  ·exact Rd.m_enum en q
  ·exact Rd.m_field en q
set_option maxHeartbeats 16000000 in
set_option maxRecDepth 20000 in
theorem messageD_zero (en : Int × Int) (R : Nat) (r : Rd) (w : World) (he : r.e = 0) (h : DrAt w R en r) :
  Calls Tryz.prog 116 #[.pointer (some ⟨R, 0, none⟩), .int .i64 9] w fun x w' => PAns en 1 R w (messageL en 1 9 r) x w' := by
 have hlt := h.lt
 have hL0 := Do.start w h 69 z8 #[.int .i64 1, .string ⟨#[]⟩, .int .i64 0, .int .i64 0, .slice none 0 0, .slice none 0 0, .slice none 0 0, .slice none 0 0]
 have HL0 := Lib.hid hL0
 have hre := Rd.fail_e r 8 (r.here en) (by decide)
 have hM2 : (messageL en 1 9 r).2 = r.fail 8 (r.here en) := by
  rw [messageL, if_pos (by omega)]
  simp only
  rw [Rd.take_stay en hre, Rd.name_stay en hre, Rd.take_stay en hre, bodyL_stop en _ _ _ _ _ (fun hh => hre hh.1), Rd.take_stay en hre]
 have HM2 := Lib.hid hM2
 have HDD : Hid (decide ((messageL en 1 9 r).2.e = 0) = false) := by refine (?_ : _ = _); rw [hM2]; exact decide_eq_false hre
 obtain ⟨EN, hEN⟩ : ∃ EN, messageL en 1 9 r = EN := ⟨_, rfl⟩
 rw [hEN] at HM2 HDD ⊢
 have hPl := fun W hW => placeD_any R en r W hW
 have hFa := fun W hW => failD_any R en r 8 (r.here en).1 (r.here en).2 W he hW
 rw [show ((r.here en).1, (r.here en).2) = r.here en from rfl] at hFa
 clear hM2 hL0 h hEN he hre
 go_enter Tryz.func116, Tryz.ntmps116
 go_wp2_with fail
 generalize (w.alloc (.cells z8 69)).alloc (.cells #[.int .i64 1, .string ⟨#[]⟩, .int .i64 0, .int .i64 0, .slice none 0 0, .slice none 0 0, .slice none 0 0, .slice none 0 0] 69) = V at *
 obtain ⟨⟨c0, c1, c2, c3, c4, c5, c6, c7⟩, _, _, _⟩ := HL0.out.cells8
 go_region_with (first
  | (go_at_call 157; refine (hPl _ ?_).mono ?_; exact HL0.out.drew.rd; rintro e W1 ⟨rfl, hb1⟩; have hL1 := HL0.out.drew.below hb1; obtain ⟨⟨e0, e1, e2, e3, e4, e5, e6, e7⟩, _, _, _⟩ := hL1.cells8)
  | (go_at_call 156; refine (hFa _ ?_).mono ?_; exact hL1.rd; rintro e W2 ⟨rfl, hr2, hg2⟩; have hL2 := hL1.step hr2 hg2; obtain ⟨⟨f0, f1, f2, f3, f4, f5, f6, f7⟩, ⟨a0, a1, a2, a3, a4, a5, a6, a7⟩, hf, _⟩ := hL2.cells8; have b0 := hf 0; have b1 := hf 1; have b2 := hf 2; have b3 := hf 3; have b4 := hf 4; have b5 := hf 5; have b6 := hf 6; have b7 := hf 7))
 all_goals
  obtain ⟨Y, hY, hRY, hGY, hBY, y0, y1, y2, y3, y4, y5, y6, y7⟩ := hL2.final8
  have HY := Lib.hid hY
  clear hY
  go_wp2_with fail
  rw [HY.out]
  exact bodyPost_ret (v := .tuple #[.agg #[.int .i64 1, .string (mkB []), .int .i64 0, .int .i64 0, .slice none 0 0, .slice none 0 0, .slice none 0 0, .slice none 0 0], .bool false]) (by simp [results, Tryz.results116, go_sem, y0, y1, y2, y3, y4, y5, y6, y7, mkB]) rfl ⟨⟨1, [], 0, 0, [], [], [], []⟩, none, 0, 0, none, 0, 0, none, 0, 0, none, 0, 0, by rw [HDD.out], fun hx => absurd hx (of_decide_eq_false HDD.out), by rw [HM2.out]; exact hRY, hGY, RowsIn.nil _ _ _ _ _ _, RowsIn.nil _ _ _ _ _ _, RowsIn.nil _ _ _ _ _ _, HeldD.nil _ _ _ _ _⟩
set_option maxHeartbeats 16000000 in
set_option maxRecDepth 20000 in
theorem messageD_any (en : Int × Int) : ∀ (k depth : Nat), depth + k = 9 → ∀ (R : Nat) (r : Rd) (w : World), r.e = 0 → DrAt w R en r →
  Calls Tryz.prog 116 #[.pointer (some ⟨R, 0, none⟩), .int .i64 (depth : Int)] w fun x w' => PAns en (k + 1) R w (messageL en (k + 1) depth r) x w' := by
 intro k
 induction k with
 | zero =>
  intro depth hdk R r w he h
  obtain rfl : depth = 9 := by omega
  exact messageD_zero en R r w he h
 | succ k ih =>
 intro depth hdk R r w he h
 have hlt := h.lt
 have hfew := h.few
 have hmle := Rd.m_le r
 have hd8 : ¬ (8 : Int) < (depth : Int) := by omega
 have hL0 : Lv (w.alloc (.cells z8 69)) ((w.alloc (.cells z8 69)).alloc (.cells #[.int .i64 1, .string ⟨#[]⟩, .int .i64 0, .int .i64 0, .slice none 0 0, .slice none 0 0, .slice none 0 0, .slice none 0 0] 69)) R en r (w.heap.size + 1) 69 #[.int .i64 1, .string ⟨#[]⟩, .int .i64 0, .int .i64 0, .slice none 0 0, .slice none 0 0, .slice none 0 0, .slice none 0 0] := by
  have := Lv.start (w.alloc (.cells z8 69)) (w.alloc (.cells z8 69)) (h.alloc _) (World.grownBy.refl _ _) (by simp; omega) 69 #[.int .i64 1, .string ⟨#[]⟩, .int .i64 0, .int .i64 0, .slice none 0 0, .slice none 0 0, .slice none 0 0, .slice none 0 0]
  rw [show (w.alloc (.cells z8 69)).heap.size = w.heap.size + 1 by simp] at this
  exact this
 have hHd := headLv hL0 he ⟨#[109, 101, 115, 115, 97, 103, 101]⟩ (by decide)
 have eT : (ByteArray.mk #[109, 101, 115, 115, 97, 103, 101]).data.toList = tMessage := rfl
 rw [eT] at hHd
 have HM1 := Lib.hid (Rd.m_take en r tMessage)
 have HEN : Hid (messageL en (k + 2) depth r = (⟨1, (r.take en tMessage).nameT, ((r.take en tMessage).nameP en).1, ((r.take en tMessage).nameP en).2, (bodyL en (messageL en (k + 1) (depth + 1)) ((((r.take en tMessage).name en).take en [123]).l.length + 1) (((r.take en tMessage).name en).take en [123]) [] []).1.1, [], [], (bodyL en (messageL en (k + 1) (depth + 1)) ((((r.take en tMessage).name en).take en [123]).l.length + 1) (((r.take en tMessage).name en).take en [123]) [] []).1.2⟩, (bodyL en (messageL en (k + 1) (depth + 1)) ((((r.take en tMessage).name en).take en [123]).l.length + 1) (((r.take en tMessage).name en).take en [123]) [] []).2.take en [125])) := by
  refine (?_ : _ = _)
  rw [messageL, if_neg (by omega)]
 obtain ⟨EN, hEN⟩ : ∃ EN, messageL en (k + 1 + 1) depth r = EN := ⟨_, rfl⟩
 have hEN' : messageL en (k + 2) depth r = EN := hEN
 rw [hEN'] at HEN
 rw [hEN]
 generalize r.take en tMessage = q1 at *
 have HM2 := Lib.hid (Rd.m_name en q1)
 have HM3 := Lib.hid (Rd.m_take en (q1.name en) [123])
 obtain ⟨NM, hNM⟩ : ∃ NM, q1.nameT = NM := ⟨_, rfl⟩
 obtain ⟨PL, hPL⟩ : ∃ PL, (q1.nameP en).1 = PL := ⟨_, rfl⟩
 obtain ⟨PC, hPC⟩ : ∃ PC, (q1.nameP en).2 = PC := ⟨_, rfl⟩
 rw [hNM, hPL, hPC] at HEN hHd
 generalize (q1.name en).take en [123] = q3 at *
 obtain ⟨BD, hBD⟩ : ∃ BD, bodyL en (messageL en (k + 1) (depth + 1)) (q3.l.length + 1) q3 [] [] = BD := ⟨_, rfl⟩
 have HBD := Lib.hid hBD
 rw [hBD] at HEN
 have hq3 : q3.m ≤ 4001 := by have := HM3.out; have := HM2.out; have := HM1.out; omega
 have HQ3 := Lib.hid (Rd.m_le q3)
 clear hEN hEN' hL0 eT h hNM hPL hPC hBD HM1 HM2 HM3
 go_enter Tryz.func116, Tryz.ntmps116
 go_wp2_with fail
 refine hHd.mono ?_
 rintro e w1 ⟨nm, pl, pc, rfl, hnm, hL1⟩
 have HNM : Hid (q3.e = 0 → nm = NM ∧ pl = PL ∧ pc = PC) := hnm
 have HL1 := Lib.hid (Do.of_lv hlt hL1)
 clear hHd hnm hL1
 go_wp2_with fail
 go_loopw [7] (fun s7 wr => ∃ (f : Nat) (q : Rd) (fl : List Fd) (ds : List Dc) (rs : List (List Value)) (fs ins : Value), s7 = .bool (decide (q.e = 0)) ∧ Dm (k + 1) w wr R en q nm pl pc fs ins fl ds rs ∧ q.m ≤ f ∧ fl.length + ds.length + q.m ≤ 4001 ∧ (q.e = 0 → q3.e = 0 ∧ BD = bodyL en (messageL en (k + 1) (depth + 1)) f q fl ds) ∧ (q.e ≠ 0 → BD.2 = q)) (fun _ wr => rdM wr R)
 case atStart =>
  refine ⟨q3.l.length + 1, q3, [], [], [], .slice none 0 0, .slice none 0 0, rfl, ⟨HL1.out, World.ownsRow_nil _ _ _ _, De.nil _ _ _ _, fun b hb => by simp [Value.ownBlock] at hb⟩, HQ3.out, by simpa using hq3, fun hz => ⟨hz, HBD.out.symm⟩, fun hz => ?_⟩
  rw [← HBD.out, bodyL_stop en _ _ q3 [] [] (fun hh => hz hh.1)]
 case round =>
  obtain ⟨f, q, fl, ds, rs, fs, ins, rfl, hLm, hmf, hacc, hok, hno⟩ := hrel
  obtain ⟨fa, fc, rfl⟩ := own_slice hLm.ownF
  obtain ⟨ia, ic, rfl⟩ := own_slice hLm.decls.own
  have HLm := Lib.hid hLm
  have hszr := hLm.lo.size
  have HM0 := Lib.hid hLm.lo.rd.m
  clear hLm
  by_cases he0 : q.e = 0
  ·have hd0 : decide (q.e = 0) = true := decide_eq_true he0
   rw [hd0]
   obtain ⟨hq3e, hbd⟩ := hok he0
   have HQE := Lib.hid hq3e
   have HBQ := Lib.hid hbd
   have hSk := skipD_any R en q ⟨#[125]⟩ wr he0 (by decide) HLm.out.lo.rd
   have e125 : (ByteArray.mk #[125]).data.toList = [125] := rfl
   rw [e125] at hSk
   clear hno hok e125 hbd hd0 hq3e
   by_cases hi : q.is [125] = true
   ·have hsk : q.skip [125] = q.tail := by unfold Rd.skip; rw [if_pos hi]
    have htk : q.take en [125] = q.tail := by unfold Rd.take; rw [if_pos hi]
    rw [hsk, hi] at hSk
    have hVE : BD = ((fl, ds), q) := by rw [HBQ.out, bodyL_stop en _ f q fl ds (fun hh => by rw [hi] at hh; exact absurd hh.2 (by decide))]
    have HE2 : Hid (EN.2 = q.tail) := by refine (?_ : _ = _); rw [HEN.out, hVE]; exact htk
    have HE1 : Hid (EN.1 = ⟨1, nm, pl, pc, fl, [], [], ds⟩) := by
     refine (?_ : _ = _)
     obtain ⟨a1, a2, a3⟩ := HNM.out HQE.out
     rw [HEN.out, hVE, a1, a2, a3]
    have HDD : Hid (decide (EN.2.e = 0) = true) := by refine (?_ : _ = _); rw [HE2.out]; exact decide_eq_true he0
    clear hi hsk htk hVE HBQ ih
    go_wp2_with fail
    refine hSk.mono ?_
    rintro e w5 ⟨rfl, hr5, hg5⟩
    have HL5 := Lib.hid (HLm.out.step hr5 hg5)
    obtain ⟨⟨c0, c1, c2, c3, c4, c5', c6, c7⟩, ⟨a0, a1, a2, a3, a4, a5, a6, a7⟩, hf, _⟩ := HL5.out.lo.cells8
    obtain ⟨Y, hY, hRY, hGY, ⟨y0, y1, y2, y3, y4, y5, y6, y7⟩, hKY⟩ := HL5.out.final
    have HY := Lib.hid hY
    have HKY := Lib.hid hKY
    have b0 := hf 0
    have b1 := hf 1
    have b2 := hf 2
    have b3 := hf 3
    have b4 := hf 4
    have b5 := hf 5
    have b6 := hf 6
    have b7 := hf 7
    clear hY hf hSk hr5 hg5 hKY
    go_wp2_with fail
    rw [HY.out]
    exact bodyPost_ret (v := .tuple #[.agg #[.int .i64 1, .string (mkB nm), .int .i64 pl, .int .i64 pc, .slice fa fl.length fc, .slice none 0 0, .slice none 0 0, .slice ia ds.length ic], .bool true]) (by simp [results, Tryz.results116, go_sem, y0, y1, y2, y3, y4, y5, y6, y7]) rfl ⟨⟨1, nm, pl, pc, fl, [], [], ds⟩, fa, fl.length, fc, none, 0, 0, none, 0, 0, ia, ds.length, ic, by rw [HDD.out], fun _ => HE1.out.symm, by rw [HE2.out]; exact hRY, hGY, HKY.out⟩
   ·have hi' : q.is [125] = false := by simpa using hi
    have hsk : q.skip [125] = q := by unfold Rd.skip; rw [if_neg hi]
    rw [hsk, hi'] at hSk
    have hm1 : 1 ≤ q.m := by unfold Rd.m; rw [if_pos he0]; omega
    obtain ⟨f, rfl⟩ : ∃ f', f = f' + 1 := ⟨f - 1, by omega⟩
    have hBG := bodyL_step en (messageL en (k + 1) (depth + 1)) f q fl ds ⟨he0, hi'⟩
    rw [← HBQ.out] at hBG
    have HBG := Lib.hid hBG
    have hmv := stepB_m en (messageL en (k + 1) (depth + 1)) q fl ds (messageL_m en k (depth + 1) q)
    have hMem := fun W (hW : Dm (k + 1) w W R en q nm pl pc (.slice fa fl.length fc) (.slice ia ds.length ic) fl ds rs) => memberD_any hW he0 (by omega) (by omega) (messageL en (k + 1) (depth + 1)) depth (by omega) (fun W2 hW2 => ih (depth + 1) (by omega) R q W2 he0 hW2)
    generalize stepB en (messageL en (k + 1) (depth + 1)) q fl ds = ST at *
    clear HBQ hi hi' hsk hBG ih
    go_wp2_with fail
    refine hSk.mono ?_
    rintro e w5 ⟨rfl, hr5, hg5⟩
    have HL5 := Lib.hid (HLm.out.step hr5 hg5)
    clear hSk hr5 hg5
    go_wp2_with fail
    refine (hMem w5 HL5.out).mono ?_
    rintro e w6 ⟨fl', ds', rs', fs', ins', rfl, hst, hlen, hD6⟩
    have HD6 := Lib.hid hD6
    have HSTT := Lib.hid hst
    clear hMem hD6 hst
    go_wp2_with fail
    go_roundw
    case rel =>
     refine ⟨f, ST.2, fl', ds', rs', fs', ins', rfl, HD6.out, by omega, by omega, fun hz => ⟨HQE.out, ?_⟩, fun hz => ?_⟩
     ·obtain ⟨s1, s2⟩ := HSTT.out hz
      rw [s1, s2]; exact HBG.out
     ·rw [HBG.out, bodyL_stop en _ f ST.2 _ _ (fun hh => hz hh.1)]
    case measure =>
     have e1 := HD6.out.lo.rd.m
     have e2 := HM0.out
     exact Nat.lt_of_le_of_lt (Nat.le_of_eq e1) (by rw [e2]; omega)
  ·have hd0 : decide (q.e = 0) = false := decide_eq_false he0
   rw [hd0]
   have hV2 := hno he0
   have HE2 : Hid (EN.2 = q) := by refine (?_ : _ = _); rw [HEN.out, hV2]; exact Rd.take_stay en he0 _
   have HDD : Hid (decide (EN.2.e = 0) = false) := by refine (?_ : _ = _); rw [HE2.out]; exact hd0
   obtain ⟨⟨c0, c1, c2, c3, c4, c5', c6, c7⟩, ⟨a0, a1, a2, a3, a4, a5, a6, a7⟩, hf, _⟩ := HLm.out.lo.cells8
   obtain ⟨Y, hY, hRY, hGY, ⟨y0, y1, y2, y3, y4, y5, y6, y7⟩, hKY⟩ := HLm.out.final
   have HY := Lib.hid hY
   have HKY := Lib.hid hKY
   have b0 := hf 0
   have b1 := hf 1
   have b2 := hf 2
   have b3 := hf 3
   have b4 := hf 4
   have b5 := hf 5
   have b6 := hf 6
   have b7 := hf 7
   clear hY hf hKY hno hok hV2 hd0 ih
   go_wp2_with fail
   rw [HY.out]
   exact bodyPost_ret (v := .tuple #[.agg #[.int .i64 1, .string (mkB nm), .int .i64 pl, .int .i64 pc, .slice fa fl.length fc, .slice none 0 0, .slice none 0 0, .slice ia ds.length ic], .bool false]) (by simp [results, Tryz.results116, go_sem, y0, y1, y2, y3, y4, y5, y6, y7]) rfl ⟨⟨1, nm, pl, pc, fl, [], [], ds⟩, fa, fl.length, fc, none, 0, 0, none, 0, 0, ia, ds.length, ic, by rw [HDD.out], fun hx => absurd hx (of_decide_eq_false HDD.out), by rw [HE2.out]; exact hRY, hGY, HKY.out⟩
end Go.Proofs.YtpojeinddnjpfaaGreatDoor
