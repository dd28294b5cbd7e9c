/-
  The walk over the document's own message of a reader.
  What the library functions that this program calls answer, as theorems over this translation: each is one application of a theorem of the given library. Nothing is proved of the program itself here.
  The two tables of the library that the row lists, as the word of this seat. Nothing is proved of the program here.
  The runes of a text, and the walks over the document's own Letter, digit and Runes: of a valid text its runes come, in new memory; else none.
  The walk over the document's own Name: whether a text is a name.
  A name's text is valid; the library's tables stand behind calls. Nothing is proved of the program here.
  The walks over the document's own next, run, number and right.
-/
import Derived.Test.YtbfkaanmbdekfaaGreatDoorGf14
import Derived.Deep.RegionLaw
import Derived.Shelf.Unicode.DecodeAny
import Derived.Shelf.Unicode.ValidAny
import Derived.Ground.NamesProg
import Derived.Shelf.LaysM
import Derived.Shelf.LaysC
import Derived.Test.YtbfkaanmbdekfaaGreatDoorProg
import Derived.Below
import Derived.Test.YtbfkaanmbdekfaaGreatDoorGf1
import Derived.WalkKit
import Derived.ProofKit
import Derived.Laws.IdiomStrings
import Derived.Lib.ValidLaws
import Derived.Lib.TrimUEq
namespace Go.Proofs.YtbfkaanmbdekfaaGreatDoor
set_option linter.unusedVariables false
open Go.ChangeShapes Go.WideShapes Go.ChangeAt Go.RowKit

/-- what message answers -/
def MAns (en : Int × Int) (k : Nat) (R : Nat) (w : World) (a : Dc × Rd) (x : Ending) (w' : World) : Prop :=
  ∃ fa fc ia ic, x = .returned (dval a.1.kind a.1.name a.1.line a.1.col (.slice fa a.1.fields.length fc) (.slice none 0 0) (.slice none 0 0) (.slice ia a.1.inner.length ic)) ∧ RdAt w' R en a.2 ∧ w.grownBy w' (some R) ∧
    a.1.kind = 1 ∧ Kids (k + 1) w' (fun b => w.heap.size + 2 ≤ b ∧ b < w'.heap.size) (.slice fa a.1.fields.length fc) (.slice none 0 0) (.slice none 0 0) (.slice ia a.1.inner.length ic) a.1
/-- what enum and service answer -/
def EAns (en : Int × Int) (k : Nat) (R : Nat) (w : World) (a : Dc × Rd) (x : Ending) (w' : World) : Prop :=
  ∃ va vc ma mc, x = .returned (dval a.1.kind a.1.name a.1.line a.1.col (.slice none 0 0) (.slice va a.1.values.length vc) (.slice ma a.1.methods.length mc) (.slice none 0 0)) ∧ RdAt w' R en a.2 ∧ w.grownBy w' (some R) ∧
    Kids k w' (fun b => w.heap.size + 2 ≤ b ∧ b < w'.heap.size) (.slice none 0 0) (.slice va a.1.values.length vc) (.slice ma a.1.methods.length mc) (.slice none 0 0) a.1
theorem enumRd_kids (R : Nat) (en : Int × Int) (r : Rd) (w : World) (h : RdAt w R en r) (k : Nat) :
    Calls Tryz.prog 22 #[.pointer (some ⟨R, 0, none⟩)] w fun x w' => EAns en k R w (r.enum en) x w' := by
  refine (enumRd_any R en r w h).mono ?_
  rintro e w' ⟨vs, rfl, hr, hg, hown⟩
  obtain ⟨va, vc, rfl⟩ := own_slice hown
  refine ⟨va, vc, none, 0, rfl, hr, hg, RowsIn.nil _ _ _ _ _ _, rowsIn_own (k := 4) (row := vrow) (fun _ => rfl) hown _ (fun b hb => own_block hown b hb), RowsIn.nil _ _ _ _ _ _, HeldD.nil _ _ _ _ _⟩
theorem serviceRd_kids (R : Nat) (en : Int × Int) (r : Rd) (w : World) (h : RdAt w R en r) (k : Nat) :
    Calls Tryz.prog 23 #[.pointer (some ⟨R, 0, none⟩)] w fun x w' => EAns en k R w (r.service en) x w' := by
  refine (serviceRd_any R en r w h).mono ?_
  rintro e w' ⟨vs, rfl, hr, hg, hown⟩
  obtain ⟨va, vc, rfl⟩ := own_slice hown
  refine ⟨none, 0, va, vc, rfl, hr, hg, RowsIn.nil _ _ _ _ _ _, RowsIn.nil _ _ _ _ _ _, rowsIn_own (k := 5) (row := mrow) (fun _ => rfl) hown _ (fun b hb => own_block hown b hb), HeldD.nil _ _ _ _ _⟩
set_option maxHeartbeats 16000000 in
set_option maxRecDepth 20000 in
theorem messageRd_zero (en : Int × Int) (R : Nat) (r : Rd) (w : World) (h : RdAt w R en r) :
    Calls Tryz.prog 21 #[.pointer (some ⟨R, 0, none⟩), .int .i64 9] w fun x w' => MAns en 0 R w (messageL en 1 9 r) x w' := by
  have hlt := h.lt
  have hfew := h.few
  have hL0 := Lo.start w h 65 z8 #[.int .i64 1, .string ⟨#[]⟩, .int .i64 0, .int .i64 0, .slice none 0 0, .slice none 0 0, .slice none 0 0, .slice none 0 0]
  have HL0 := Lib.hid hL0
  have hHe := hereR_any R en r _ hL0.rd
  have hFa := fun W hW => failR_any R en r 8 (r.here en).1 (r.here en).2 W hW
  obtain ⟨r0, hr0⟩ : ∃ r0, r.fail 8 (r.here en) = r0 := ⟨_, rfl⟩
  have hre : r0.e ≠ 0 := by rw [← hr0]; exact Rd.fail_e r 8 _ (by decide)
  have hm0 : r0.m = 0 := by rw [← hr0]; exact Rd.m_fail r 8 _ (by decide)
  have hTk := fun W hW => takeR_any R en r0 ⟨#[109, 101, 115, 115, 97, 103, 101]⟩ W hW
  have eT : (ByteArray.mk #[109, 101, 115, 115, 97, 103, 101]).data.toList = tMessage := rfl
  rw [eT] at hTk
  have HM1 := Lib.hid (Rd.m_take en r0 tMessage)
  rw [show ((r.here en).1, (r.here en).2) = r.here en from rfl, hr0] at hFa
  have HEN : Hid (messageL en 1 9 r = (⟨1, (r0.take en tMessage).nameT, ((r0.take en tMessage).nameP en).1, ((r0.take en tMessage).nameP en).2, (bodyL en (messageL en 0 10) ((((r0.take en tMessage).name en).take en [123]).l.length + 1) (((r0.take en tMessage).name en).take en [123]) [] []).1.1, [], [], (bodyL en (messageL en 0 10) ((((r0.take en tMessage).name en).take en [123]).l.length + 1) (((r0.take en tMessage).name en).take en [123]) [] []).1.2⟩, (bodyL en (messageL en 0 10) ((((r0.take en tMessage).name en).take en [123]).l.length + 1) (((r0.take en tMessage).name en).take en [123]) [] []).2.take en [125])) := by
    refine (?_ : _ = _)
    rw [messageL, if_pos (by omega), hr0]
  obtain ⟨EN, hEN⟩ : ∃ EN, messageL en 1 9 r = EN := ⟨_, rfl⟩
  rw [hEN] at HEN ⊢
  have HQE := Lib.hid (Rd.take_e (en := en) hre tMessage)
  generalize r0.take en tMessage = q1 at *
  clear hEN hL0 eT h
  go_enter Tryz.func21, Tryz.ntmps21
  go_wp2_with fail
  generalize (w.alloc (.cells z8 65)).alloc (.cells #[.int .i64 1, .string ⟨#[]⟩, .int .i64 0, .int .i64 0, .slice none 0 0, .slice none 0 0, .slice none 0 0, .slice none 0 0] 65) = V at *
  refine hHe.mono ?_
  rintro e v1 ⟨rfl, hb1⟩
  have HLx := Lib.hid (HL0.out.below hb1)
  go_wp2_with fail
  refine (hFa v1 HLx.out.rd).mono ?_
  rintro e v2 ⟨rfl, hr2x, hg2x⟩
  have HLy := Lib.hid (HLx.out.step hr2x hg2x)
  clear hHe hFa hb1 hr2x hg2x
  go_wp2_with fail
  refine (hTk v2 HLy.out.rd).mono ?_
  rintro e w1 ⟨rfl, hr1, hg1⟩
  have HL1 := Lib.hid (HLy.out.step hr1 hg1)
  have hNa := nameRd_any R en q1 w1 hr1
  have HM2 := Lib.hid (Rd.m_name en q1)
  clear hTk hr1 hg1 HL0
  go_wp2_with fail
  refine hNa.mono ?_
  rintro e w2 ⟨rfl, hr2, hg2⟩
  have HL2 := Lib.hid (HL1.out.step hr2 hg2)
  obtain ⟨⟨_, m1, m2, m3, _, _, _, _⟩, _, _, hfz⟩ := HL2.out.cells8
  have n1 := hfz 1
  have n2 := hfz 2
  have n3 := hfz 3
  have HLa : Lo w _ R en (q1.name en) 65 z8 #[.int .i64 1, .string (mkB q1.nameT), .int .i64 0, .int .i64 0, .slice none 0 0, .slice none 0 0, .slice none 0 0, .slice none 0 0] := HL2.out.set 1 (.string (mkB q1.nameT))
  have HLb : Lo w _ R en (q1.name en) 65 z8 #[.int .i64 1, .string (mkB q1.nameT), .int .i64 (q1.nameP en).1, .int .i64 0, .slice none 0 0, .slice none 0 0, .slice none 0 0, .slice none 0 0] := HLa.set 2 (.int .i64 (q1.nameP en).1)
  have HLc : Lo w _ R en (q1.name en) 65 z8 #[.int .i64 1, .string (mkB q1.nameT), .int .i64 (q1.nameP en).1, .int .i64 (q1.nameP en).2, .slice none 0 0, .slice none 0 0, .slice none 0 0, .slice none 0 0] := HLb.set 3 (.int .i64 (q1.nameP en).2)
  have HL3 := Lib.hid HLc
  have hTk := fun W hW => takeR_any R en (q1.name en) ⟨#[123]⟩ W hW
  have e123 : (ByteArray.mk #[123]).data.toList = [123] := rfl
  rw [e123] at hTk
  have HM3 := Lib.hid (Rd.m_take en (q1.name en) [123])
  clear hNa hr2 hg2 HLa HLb HLc HL1 e123 hfz
  go_wp2_with fail
  refine (hTk _ HL3.out.rd).mono ?_
  clear m1 m2 m3 n1 n2 n3
  rintro e w3 ⟨rfl, hr3, hg3⟩
  have HL4 := Lib.hid (HL3.out.step hr3 hg3)
  clear hTk hr3 hg3 HL2 HL3
  obtain ⟨NM, hNM⟩ : ∃ NM, q1.nameT = NM := ⟨_, rfl⟩
  obtain ⟨PL, hPL⟩ : ∃ PL, (q1.nameP en).1 = PL := ⟨_, rfl⟩
  obtain ⟨PC, hPC⟩ : ∃ PC, (q1.nameP en).2 = PC := ⟨_, rfl⟩
  rw [hNM, hPL, hPC] at HL4 HEN
  have HQ3e := Lib.hid (Rd.take_e (en := en) (Rd.name_e (en := en) HQE.out) [123])
  generalize (q1.name en).take en [123] = q3 at *
  obtain ⟨BD, hBD⟩ : ∃ BD, bodyL en (messageL en 0 10) (q3.l.length + 1) q3 [] [] = BD := ⟨_, rfl⟩
  have HBD := Lib.hid hBD
  rw [hBD] at HEN
  clear hBD hNM hPL hPC HM1 HM2 HM3
  go_wp2_with fail
  go_loopw [41] (fun _ wr => Lm 0 w wr R en q3 NM PL PC (.slice none 0 0) (.slice none 0 0) [] [] []) (fun _ wr => rdM wr R)
  case atStart => exact ⟨HL4.out, World.ownsRow_nil _ _ _ _, Ds.nil _ _ _ _, fun b hb => by simp [Value.ownBlock] at hb⟩
  case round =>
    have hLm := hrel
    have HLm := Lib.hid hLm
    obtain ⟨_, _, _, _, _, _, _, _, _, _, c5, _⟩ := hLm.lo.rd.get
    have hTkE := takeR_any R en q3 ⟨#[125]⟩ wr hLm.lo.rd
    have e125 : (ByteArray.mk #[125]).data.toList = [125] := rfl
    rw [e125] at hTkE
    obtain rfl : BD = (([], []), q3) := by rw [← HBD.out, bodyL_stop en _ _ q3 [] [] (fun hh => HQ3e.out hh.1)]
    have he' : (q3.e == 0) = false := by simpa using HQ3e.out
    clear hLm e125 HBD hrel
    go_wp2_with fail
    refine hTkE.mono ?_
    clear c5
    rintro e w5 ⟨rfl, hr5, hg5⟩
    have HL5 := Lib.hid (HLm.out.step hr5 hg5)
    obtain ⟨⟨c0, c1, c2, c3, c4, c5', c6, c7⟩, ⟨a0, a1, a2, a3, a4, a5, a6, a7⟩, hf, _⟩ := HL5.out.lo.cells8
    obtain ⟨Y, hY, hRY, hGY, ⟨y0, y1, y2, y3, y4, y5, y6, y7⟩, hKY⟩ := HL5.out.final
    have HY := Lib.hid hY
    have HKY := Lib.hid hKY
    have b0 := hf 0
    have b1 := hf 1
    have b2 := hf 2
    have b3 := hf 3
    have b4 := hf 4
    have b5 := hf 5
    have b6 := hf 6
    have b7 := hf 7
    clear hY hf hTkE hr5 hg5 hKY
    go_wp2_with fail
    rw [HY.out]
    rw [HEN.out]
    exact bodyPost_ret (v := dval 1 NM PL PC (.slice none 0 0) (.slice none 0 0) (.slice none 0 0) (.slice none 0 0)) (by unfold dval; simp [results, Tryz.results21, go_sem, y0, y1, y2, y3, y4, y5, y6, y7]) rfl ⟨none, 0, none, 0, rfl, hRY, hGY, rfl, HKY.out⟩
set_option maxHeartbeats 16000000 in
set_option maxRecDepth 20000 in
theorem messageRd_any (en : Int × Int) : ∀ (k depth : Nat), depth + k = 9 → ∀ (R : Nat) (r : Rd) (w : World), RdAt w R en r →
    Calls Tryz.prog 21 #[.pointer (some ⟨R, 0, none⟩), .int .i64 (depth : Int)] w fun x w' => MAns en k R w (messageL en (k + 1) depth r) x w' := by
  intro k
  induction k with
  | zero =>
    intro depth hdk R r w h
    obtain rfl : depth = 9 := by omega
    exact messageRd_zero en R r w h
  | succ k ih =>
  intro depth hdk R r w h
  have hlt := h.lt
  have hfew := h.few
  have hL0 := Lo.start w h 65 z8 #[.int .i64 1, .string ⟨#[]⟩, .int .i64 0, .int .i64 0, .slice none 0 0, .slice none 0 0, .slice none 0 0, .slice none 0 0]
  have HL0 := Lib.hid hL0
  have hTk := takeR_any R en r ⟨#[109, 101, 115, 115, 97, 103, 101]⟩ _ hL0.rd
  have eT : (ByteArray.mk #[109, 101, 115, 115, 97, 103, 101]).data.toList = tMessage := rfl
  rw [eT] at hTk
  have hmle := Rd.m_le r
  have HM1 := Lib.hid (Rd.m_take en r tMessage)
  have hd8 : ¬ (8 : Int) < (depth : Int) := by omega
  have HEN : Hid (messageL en (k + 2) depth r = (⟨1, (r.take en tMessage).nameT, ((r.take en tMessage).nameP en).1, ((r.take en tMessage).nameP en).2, (bodyL en (messageL en (k + 1) (depth + 1)) ((((r.take en tMessage).name en).take en [123]).l.length + 1) (((r.take en tMessage).name en).take en [123]) [] []).1.1, [], [], (bodyL en (messageL en (k + 1) (depth + 1)) ((((r.take en tMessage).name en).take en [123]).l.length + 1) (((r.take en tMessage).name en).take en [123]) [] []).1.2⟩, (bodyL en (messageL en (k + 1) (depth + 1)) ((((r.take en tMessage).name en).take en [123]).l.length + 1) (((r.take en tMessage).name en).take en [123]) [] []).2.take en [125])) := by
    refine (?_ : _ = _)
    rw [messageL, if_neg (by omega)]
  obtain ⟨EN, hEN⟩ : ∃ EN, messageL en (k + 1 + 1) depth r = EN := ⟨_, rfl⟩
  have hEN' : messageL en (k + 2) depth r = EN := hEN
  rw [hEN'] at HEN
  rw [hEN]
  generalize r.take en tMessage = q1 at *
  clear hEN hEN' hL0 eT h
  go_enter Tryz.func21, Tryz.ntmps21
  go_wp2_with fail
  generalize (w.alloc (.cells z8 65)).alloc (.cells #[.int .i64 1, .string ⟨#[]⟩, .int .i64 0, .int .i64 0, .slice none 0 0, .slice none 0 0, .slice none 0 0, .slice none 0 0] 65) = V at *
  refine hTk.mono ?_
  rintro e w1 ⟨rfl, hr1, hg1⟩
  have HL1 := Lib.hid (HL0.out.step hr1 hg1)
  have hNa := nameRd_any R en q1 w1 hr1
  have HM2 := Lib.hid (Rd.m_name en q1)
  clear hTk hr1 hg1 HL0
  go_wp2_with fail
  refine hNa.mono ?_
  rintro e w2 ⟨rfl, hr2, hg2⟩
  have HL2 := Lib.hid (HL1.out.step hr2 hg2)
  obtain ⟨⟨_, m1, m2, m3, _, _, _, _⟩, _, _, hfz⟩ := HL2.out.cells8
  have n1 := hfz 1
  have n2 := hfz 2
  have n3 := hfz 3
  have HLa : Lo w _ R en (q1.name en) 65 z8 #[.int .i64 1, .string (mkB q1.nameT), .int .i64 0, .int .i64 0, .slice none 0 0, .slice none 0 0, .slice none 0 0, .slice none 0 0] := HL2.out.set 1 (.string (mkB q1.nameT))
  have HLb : Lo w _ R en (q1.name en) 65 z8 #[.int .i64 1, .string (mkB q1.nameT), .int .i64 (q1.nameP en).1, .int .i64 0, .slice none 0 0, .slice none 0 0, .slice none 0 0, .slice none 0 0] := HLa.set 2 (.int .i64 (q1.nameP en).1)
  have HLc : Lo w _ R en (q1.name en) 65 z8 #[.int .i64 1, .string (mkB q1.nameT), .int .i64 (q1.nameP en).1, .int .i64 (q1.nameP en).2, .slice none 0 0, .slice none 0 0, .slice none 0 0, .slice none 0 0] := HLb.set 3 (.int .i64 (q1.nameP en).2)
  have HL3 := Lib.hid HLc
  have hTk := fun W hW => takeR_any R en (q1.name en) ⟨#[123]⟩ W hW
  have e123 : (ByteArray.mk #[123]).data.toList = [123] := rfl
  rw [e123] at hTk
  have HM3 := Lib.hid (Rd.m_take en (q1.name en) [123])
  clear hNa hr2 hg2 HLa HLb HLc HL1 e123 hfz
  go_wp2_with fail
  refine (hTk _ HL3.out.rd).mono ?_
  clear m1 m2 m3 n1 n2 n3
  rintro e w3 ⟨rfl, hr3, hg3⟩
  have HL4 := Lib.hid (HL3.out.step hr3 hg3)
  clear hTk hr3 hg3 HL2 HL3
  obtain ⟨NM, hNM⟩ : ∃ NM, q1.nameT = NM := ⟨_, rfl⟩
  obtain ⟨PL, hPL⟩ : ∃ PL, (q1.nameP en).1 = PL := ⟨_, rfl⟩
  obtain ⟨PC, hPC⟩ : ∃ PC, (q1.nameP en).2 = PC := ⟨_, rfl⟩
  rw [hNM, hPL, hPC] at HL4 HEN
  generalize (q1.name en).take en [123] = q3 at *
  obtain ⟨BD, hBD⟩ : ∃ BD, bodyL en (messageL en (k + 1) (depth + 1)) (q3.l.length + 1) q3 [] [] = BD := ⟨_, rfl⟩
  have HBD := Lib.hid hBD
  rw [hBD] at HEN
  have hq3 : q3.m ≤ 4001 := by have := HM3.out; have := HM2.out; have := HM1.out; omega
  have HQ3 := Lib.hid (Rd.m_le q3)
  clear hBD hNM hPL hPC HM1 HM2 HM3
  go_wp2_with fail
  go_loopw [41] (fun _ wr => ∃ (f : Nat) (q : Rd) (fl : List Fd) (ds : List Dc) (rs : List (List Value)) (fs ins : Value), Lm (k + 1) w wr R en q NM PL PC fs ins fl ds rs ∧ q.m ≤ f ∧ fl.length + ds.length + q.m ≤ 4001 ∧ BD = bodyL en (messageL en (k + 1) (depth + 1)) f q fl ds) (fun _ wr => rdM wr R)
  case atStart => exact ⟨q3.l.length + 1, q3, [], [], [], .slice none 0 0, .slice none 0 0, ⟨HL4.out, World.ownsRow_nil _ _ _ _, Ds.nil _ _ _ _, fun b hb => by simp [Value.ownBlock] at hb⟩, HQ3.out, by simpa using hq3, HBD.out.symm⟩
  case round =>
    obtain ⟨f, q, fl, ds, rs, fs, ins, hLm, hmf, hacc, hbd⟩ := hrel
    obtain ⟨fa, fc, rfl⟩ := own_slice hLm.ownF
    obtain ⟨ia, ic, rfl⟩ := own_slice hLm.decls.own
    have HBQ := Lib.hid hbd
    have HLm := Lib.hid hLm
    have hIs := isR_any R en q ⟨#[125]⟩ wr hLm.lo.rd
    have e125 : (ByteArray.mk #[125]).data.toList = [125] := rfl
    rw [e125] at hIs
    obtain ⟨_, _, _, _, _, _, _, _, _, _, c5, _⟩ := hLm.lo.rd.get
    have hszr := hLm.lo.size
    have HM0 := Lib.hid hLm.lo.rd.m
    have hTkE := takeR_any R en q ⟨#[125]⟩ wr hLm.lo.rd
    rw [e125] at hTkE
    clear hbd hLm e125
    by_cases hgo : q.e = 0 ∧ q.is [125] = false
    · obtain ⟨he, hi⟩ := hgo
      rw [hi] at hIs
      rw [he] at c5
      have hm1 : 1 ≤ q.m := by unfold Rd.m; rw [if_pos he]; omega
      obtain ⟨f, rfl⟩ : ∃ f', f = f' + 1 := ⟨f - 1, by omega⟩
      have hBG := bodyL_go en (messageL en (k + 1) (depth + 1)) f q fl ds ⟨he, hi⟩
      rw [← HBQ.out] at hBG
      have hIm := isR_any R en q ⟨#[109, 101, 115, 115, 97, 103, 101]⟩ wr HLm.out.lo.rd
      have eM : (ByteArray.mk #[109, 101, 115, 115, 97, 103, 101]).data.toList = tMessage := rfl
      rw [eM] at hIm
      have hIe := isR_any R en q ⟨#[101, 110, 117, 109]⟩ wr HLm.out.lo.rd
      have eE : (ByteArray.mk #[101, 110, 117, 109]).data.toList = tEnum := rfl
      rw [eE] at hIe
      obtain ⟨⟨c0, c1, c2, c3, c4, c5', c6, c7⟩, _, _, hfD⟩ := HLm.out.lo.cells8
      have HFO : Hid (∀ b, (Value.slice fa fl.length fc).ownBlock = some b → b < wr.heap.size) := fun b hb => (own_block HLm.out.ownF b hb).2
      have HIO : Hid (∀ b, (Value.slice ia ds.length ic).ownBlock = some b → b < wr.heap.size) := fun b hb => (own_block HLm.out.decls.own b hb).2
      clear HBQ he hi hTkE eM eE
      go_wp2_with fail
      refine hIs.mono ?_
      rintro e w4 ⟨rfl, h4⟩
      have h4 := h4.symm
      subst h4
      clear hIs c5
      by_cases hM : q.is tMessage = true
      · rw [if_pos hM] at hBG
        rw [hM] at hIm
        have hRec := fun W hW => ih (depth + 1) (by omega) R q W hW
        obtain ⟨CH, hCH⟩ : ∃ CH, messageL en (k + 1) (depth + 1) q = CH := ⟨_, rfl⟩
        rw [hCH] at hRec hBG
        have hmch : CH.2.m ≤ q.m - 1 := by rw [← hCH]; exact messageL_m en k (depth + 1) q
        have HBG := Lib.hid hBG
        have hdw : IntKind.i64.wrap ((depth : Int) + 1) = ((depth + 1 : Nat) : Int) := by rw [IntKind.wrap_i64]; omega
        clear hIe hBG hCH hM
        go_wp2_with fail
        refine hIm.mono ?_
        rintro e w4 ⟨rfl, h4⟩
        have h4 := h4.symm
        subst h4
        clear hIm
        go_wp2_with fail
        have HKA : Hid (∀ (W5 : World) (kf kv km ki : Value), Kids (k + 1) W5 (fun b => wr.drew.heap.size + 2 ≤ b ∧ b < W5.heap.size) kf kv km ki CH.1 → Kids (k + 1) W5 (Away w W5 (.slice fa fl.length fc) (.slice ia ds.length ic)) kf kv km ki CH.1) := fun W5 kf kv km ki hh =>
          hh.more fun b hb => by
            have e0 : wr.drew.heap.size = wr.heap.size := rfl
            have hb1 := hb.1
            exact ⟨by omega, hb.2, fun e => by have := HFO.out b e; omega, fun e => by have := HIO.out b e; omega⟩
        go_region_law (first
          | (go_simp; go_at_call 21; refine (hRec _ HLm.out.lo.rd.drew).mono ?_; rintro e W5 ⟨kfa, kfc, kia, kic, rfl, hr5, hg5, hk1, hkid⟩; have hL5 := HLm.out.drew.step hr5 hg5; have hc7 := hL5.lo.cells8.1.2.2.2.2.2.2.2; have hc7a := fun o => (hL5.alloc o).lo.cells8.1.2.2.2.2.2.2.2; have HKD := Lib.hid (HKA.out W5 _ _ _ _ hkid); clear hkid hr5 hg5 hk1; unfold dval; dsimp only)
          | (refine hL5.pushD CH.1 _ _ _ _ HKD.out (by intro u hu; simp only [drow, List.mem_cons, List.not_mem_nil, or_false] at hu; rcases hu with rfl | rfl | rfl | rfl | rfl | rfl | rfl | rfl <;> rfl) rfl _ _ rfl _ rfl rfl rfl (by omega) ?_; intro g cap W6 hLo6 hLm6; have hc8 := (hLo6 _ hL5.lo).cells8.1.2.2.2.2.2.2.2; have hf8 := (hLo6 _ hL5.lo).cells8.2.2.2 7; clear hLo6; dsimp only))
        all_goals
          have HL6 := Lib.hid hLm6
          clear hLm6
          go_wp2_with fail
          go_roundw
          case rel => exact ⟨f, CH.2, fl, ds ++ [CH.1], _, _, _, HL6.out, by omega, by simp; omega, HBG.out⟩
          case measure =>
            have e1 := HL6.out.lo.rd.m
            have e2 := HM0.out
            exact Nat.lt_of_le_of_lt (Nat.le_of_eq e1) (by rw [e2]; omega)
      · have hM' : q.is tMessage = false := by simpa using hM
        rw [if_neg hM] at hBG
        rw [hM'] at hIm
        by_cases hX : q.is tEnum = true
        · rw [if_pos hX] at hBG
          rw [hX] at hIe
          have hRec := fun W hW => enumRd_kids R en q W hW (k + 1)
          have hmch := Rd.m_enum en q
          obtain ⟨CH, hCH⟩ : ∃ CH, q.enum en = CH := ⟨_, rfl⟩
          rw [hCH] at hRec hBG hmch
          have HBG := Lib.hid hBG
          clear hBG hCH hM hM' hX ih
          go_wp2_with fail
          refine hIm.mono ?_
          rintro e w4 ⟨rfl, h4⟩
          have h4 := h4.symm
          subst h4
          clear hIm
          go_wp2_with fail
          refine hIe.mono ?_
          rintro e w4 ⟨rfl, h4⟩
          have h4 := h4.symm
          subst h4
          clear hIe
          go_wp2_with fail
          have HKA : Hid (∀ (W5 : World) (kf kv km ki : Value), Kids (k + 1) W5 (fun b => wr.drew.heap.size + 2 ≤ b ∧ b < W5.heap.size) kf kv km ki CH.1 → Kids (k + 1) W5 (Away w W5 (.slice fa fl.length fc) (.slice ia ds.length ic)) kf kv km ki CH.1) := fun W5 kf kv km ki hh =>
            hh.more fun b hb => by
              have e0 : wr.drew.heap.size = wr.heap.size := rfl
              have hb1 := hb.1
              exact ⟨by omega, hb.2, fun e => by have := HFO.out b e; omega, fun e => by have := HIO.out b e; omega⟩
          go_region_law (first
            | (go_simp; go_at_call 22; refine (hRec _ HLm.out.lo.rd.drew).mono ?_; rintro e W5 ⟨kva, kvc, kma, kmc, rfl, hr5, hg5, hkid⟩; have hL5 := HLm.out.drew.step hr5 hg5; have hc7 := hL5.lo.cells8.1.2.2.2.2.2.2.2; have hc7a := fun o => (hL5.alloc o).lo.cells8.1.2.2.2.2.2.2.2; have HKD := Lib.hid (HKA.out W5 _ _ _ _ hkid); clear hkid hr5 hg5; unfold dval; dsimp only)
            | (refine hL5.pushD CH.1 _ _ _ _ HKD.out (by intro u hu; simp only [drow, List.mem_cons, List.not_mem_nil, or_false] at hu; rcases hu with rfl | rfl | rfl | rfl | rfl | rfl | rfl | rfl <;> rfl) rfl _ _ rfl _ rfl rfl rfl (by omega) ?_; intro g cap W6 hLo6 hLm6; have hc8 := (hLo6 _ hL5.lo).cells8.1.2.2.2.2.2.2.2; have hf8 := (hLo6 _ hL5.lo).cells8.2.2.2 7; clear hLo6; dsimp only))
          all_goals
            have HL6 := Lib.hid hLm6
            clear hLm6
            go_wp2_with fail
            go_roundw
            case rel => exact ⟨f, CH.2, fl, ds ++ [CH.1], _, _, _, HL6.out, by omega, by simp; omega, HBG.out⟩
            case measure =>
              have e1 := HL6.out.lo.rd.m
              have e2 := HM0.out
              exact Nat.lt_of_le_of_lt (Nat.le_of_eq e1) (by rw [e2]; omega)
        · have hX' : q.is tEnum = false := by simpa using hX
          rw [if_neg hX] at hBG
          rw [hX'] at hIe
          have hRec := fun W hW => fieldRd_any R en q W hW
          have hmch := Rd.m_field en q
          obtain ⟨CH, hCH⟩ : ∃ CH, q.field en = CH := ⟨_, rfl⟩
          rw [hCH] at hRec hBG hmch
          have HBG := Lib.hid hBG
          clear hBG hCH hM hM' hX hX' ih
          go_wp2_with fail
          refine hIm.mono ?_
          rintro e w4 ⟨rfl, h4⟩
          have h4 := h4.symm
          subst h4
          clear hIm
          go_wp2_with fail
          refine hIe.mono ?_
          rintro e w4 ⟨rfl, h4⟩
          have h4 := h4.symm
          subst h4
          clear hIe
          go_wp2_with fail
          go_region_law (first
            | (go_simp; go_at_call 50; refine (hRec _ HLm.out.lo.rd.drew).mono ?_; rintro e W5 ⟨rfl, hr5, hg5⟩; have hL5 := HLm.out.drew.step hr5 hg5; have hc7 := hL5.lo.cells8.1.2.2.2.2.1; have hc7a := fun o => (hL5.alloc o).lo.cells8.1.2.2.2.2.1; clear hr5 hg5; unfold fval; dsimp only)
            | (refine hL5.pushF CH.1 rfl _ _ rfl _ rfl rfl rfl (by omega) ?_; intro g cap W6 hLo6 hLm6; have hc8 := (hLo6 _ hL5.lo).cells8.1.2.2.2.2.1; have hf8 := (hLo6 _ hL5.lo).cells8.2.2.2 4; clear hLo6; dsimp only))
          all_goals
            have HL6 := Lib.hid hLm6
            clear hLm6
            go_wp2_with fail
            go_roundw
            case rel => exact ⟨f, CH.2, fl ++ [CH.1], ds, _, _, _, HL6.out, by omega, by simp; omega, HBG.out⟩
            case measure =>
              have e1 := HL6.out.lo.rd.m
              have e2 := HM0.out
              exact Nat.lt_of_le_of_lt (Nat.le_of_eq e1) (by rw [e2]; omega)
    · obtain rfl : BD = ((fl, ds), q) := by rw [HBQ.out, bodyL_stop en _ f q fl ds hgo]
      by_cases he : q.e = 0
      · have hi : q.is [125] = true := by
          cases hx : q.is [125] with
          | true => rfl
          | false => exact absurd ⟨he, hx⟩ hgo
        rw [hi] at hIs
        rw [he] at c5
        clear hgo hi HBQ
        go_wp2_with fail
        refine hIs.mono ?_
        rintro e w4 ⟨rfl, h4⟩
        have h4 := h4.symm
        subst h4
        go_wp2_with fail
        refine hTkE.mono ?_
        clear hIs c5
        rintro e w5 ⟨rfl, hr5, hg5⟩
        have HL5 := Lib.hid (HLm.out.step hr5 hg5)
        obtain ⟨⟨c0, c1, c2, c3, c4, c5', c6, c7⟩, ⟨a0, a1, a2, a3, a4, a5, a6, a7⟩, hf, _⟩ := HL5.out.lo.cells8
        obtain ⟨Y, hY, hRY, hGY, ⟨y0, y1, y2, y3, y4, y5, y6, y7⟩, hKY⟩ := HL5.out.final
        have HY := Lib.hid hY
        have HKY := Lib.hid hKY
        have b0 := hf 0
        have b1 := hf 1
        have b2 := hf 2
        have b3 := hf 3
        have b4 := hf 4
        have b5 := hf 5
        have b6 := hf 6
        have b7 := hf 7
        clear hY hf hTkE hr5 hg5 hKY
        go_wp2_with fail
        rw [HY.out]
        rw [HEN.out]
        exact bodyPost_ret (v := dval 1 NM PL PC (.slice fa fl.length fc) (.slice none 0 0) (.slice none 0 0) (.slice ia ds.length ic)) (by unfold dval; simp [results, Tryz.results21, go_sem, y0, y1, y2, y3, y4, y5, y6, y7]) rfl ⟨fa, fc, ia, ic, rfl, hRY, hGY, rfl, HKY.out⟩
      · have he' : (q.e == 0) = false := by simpa using he
        clear hgo he HBQ hIs
        go_wp2_with fail
        refine hTkE.mono ?_
        clear c5
        rintro e w5 ⟨rfl, hr5, hg5⟩
        have HL5 := Lib.hid (HLm.out.step hr5 hg5)
        obtain ⟨⟨c0, c1, c2, c3, c4, c5', c6, c7⟩, ⟨a0, a1, a2, a3, a4, a5, a6, a7⟩, hf, _⟩ := HL5.out.lo.cells8
        obtain ⟨Y, hY, hRY, hGY, ⟨y0, y1, y2, y3, y4, y5, y6, y7⟩, hKY⟩ := HL5.out.final
        have HY := Lib.hid hY
        have HKY := Lib.hid hKY
        have b0 := hf 0
        have b1 := hf 1
        have b2 := hf 2
        have b3 := hf 3
        have b4 := hf 4
        have b5 := hf 5
        have b6 := hf 6
        have b7 := hf 7
        clear hY hf hTkE hr5 hg5 hKY
        go_wp2_with fail
        rw [HY.out]
        rw [HEN.out]
        exact bodyPost_ret (v := dval 1 NM PL PC (.slice fa fl.length fc) (.slice none 0 0) (.slice none 0 0) (.slice ia ds.length ic)) (by unfold dval; simp [results, Tryz.results21, go_sem, y0, y1, y2, y3, y4, y5, y6, y7]) rfl ⟨fa, fc, ia, ic, rfl, hRY, hGY, rfl, HKY.out⟩
end Go.Proofs.YtbfkaanmbdekfaaGreatDoor
namespace Go.Proofs.YtbfkaanmbdekfaaGreatDoor
open Go.Shelf
def lays197_ren : Go.Shelf.Ren := ⟨fun | 197 => 74 | 260 => 91 | n => n, fun | 9 => 9 | 21 => 21 | 3 => 3 | 4 => 4 | 5 => 5 | 105 => 95 | 119 => 136 | 0 => 0 | 46 => 135 | 139 => 139 | 138 => 138 | n => n, fun | 3 => 1 | 4 => 2 | n => n⟩
theorem lays197 : Go.Proofs.Lays.n197 Tryz.prog lays197_ren := {
  mixed := by kernel_rfl
  f197 := Tryz.func74.trans (congrArg some (by kernel_rfl))
  f260 := Tryz.func91.trans (congrArg some (by kernel_rfl))
  t0 := Tryz.underlying0
  a0 := Tryz.isAgg0
  z0 := Tryz.sizeOf0
  v0 := Tryz.zeroValue0
  t3 := Tryz.underlying3
  a3 := Tryz.isAgg3
  z3 := Tryz.sizeOf3
  v3 := Tryz.zeroValue3
  t4 := Tryz.underlying4
  a4 := Tryz.isAgg4
  z4 := Tryz.sizeOf4
  v4 := Tryz.zeroValue4
  t5 := Tryz.underlying5
  a5 := Tryz.isAgg5
  z5 := Tryz.sizeOf5
  v5 := Tryz.zeroValue5
  t9 := Tryz.underlying9
  a9 := Tryz.isAgg9
  z9 := Tryz.sizeOf9
  v9 := Tryz.zeroValue9
  t21 := Tryz.underlying21
  a21 := Tryz.isAgg21
  z21 := Tryz.sizeOf21
  v21 := Tryz.zeroValue21
  t46 := Tryz.underlying135
  a46 := Tryz.isAgg135
  z46 := Tryz.sizeOf135
  v46 := Tryz.zeroValue135
  t105 := Tryz.underlying95
  a105 := Tryz.isAgg95
  z105 := Tryz.sizeOf95
  v105 := Tryz.zeroValue95
  t119 := Tryz.underlying136
  a119 := Tryz.isAgg136
  z119 := Tryz.sizeOf136
  t138 := Tryz.underlying138
  a138 := Tryz.isAgg138
  z138 := Tryz.sizeOf138
  v138 := Tryz.zeroValue138
  t139 := Tryz.underlying139
  a139 := Tryz.isAgg139
  z139 := Tryz.sizeOf139
  v139 := Tryz.zeroValue139
  g3 := by kernel_rfl
  g4 := by kernel_rfl }
open Go.RowKit Go.Lib in
theorem utf8_DecodeRuneInString (s : ByteArray) (w : World) (hT : Lib.Utf8Tabs 1 2 w) :
    Calls Tryz.prog 74 #[.string s] w fun e w' => e = .returned (.tuple #[.int .i32 (Lib.decodeGo s).1, .int .i64 (Lib.decodeGo s).2]) ∧ Below w.heap.size w w' := Any.utf8_DecodeRuneInString lays197 s w hT
def lays196_ren : Go.Shelf.Ren := ⟨fun | 196 => 103 | 259 => 111 | n => n, fun | 9 => 9 | 4 => 4 | 3 => 3 | 5 => 5 | 12 => 12 | 119 => 136 | 0 => 0 | 46 => 135 | 139 => 139 | 138 => 138 | 53 => 141 | n => n, fun | 3 => 1 | 4 => 2 | n => n⟩
theorem lays196 : Go.Proofs.Lays.n196 Tryz.prog lays196_ren := {
  mixed := by kernel_rfl
  f196 := Tryz.func103.trans (congrArg some (by kernel_rfl))
  f259 := Tryz.func111.trans (congrArg some (by kernel_rfl))
  t0 := Tryz.underlying0
  a0 := Tryz.isAgg0
  z0 := Tryz.sizeOf0
  v0 := Tryz.zeroValue0
  t3 := Tryz.underlying3
  a3 := Tryz.isAgg3
  z3 := Tryz.sizeOf3
  v3 := Tryz.zeroValue3
  t4 := Tryz.underlying4
  a4 := Tryz.isAgg4
  z4 := Tryz.sizeOf4
  v4 := Tryz.zeroValue4
  t5 := Tryz.underlying5
  a5 := Tryz.isAgg5
  z5 := Tryz.sizeOf5
  v5 := Tryz.zeroValue5
  t9 := Tryz.underlying9
  a9 := Tryz.isAgg9
  z9 := Tryz.sizeOf9
  v9 := Tryz.zeroValue9
  t12 := Tryz.underlying12
  a12 := Tryz.isAgg12
  z12 := Tryz.sizeOf12
  v12 := Tryz.zeroValue12
  t46 := Tryz.underlying135
  a46 := Tryz.isAgg135
  z46 := Tryz.sizeOf135
  v46 := Tryz.zeroValue135
  t53 := Tryz.underlying141
  a53 := Tryz.isAgg141
  z53 := Tryz.sizeOf141
  v53 := Tryz.zeroValue141
  t119 := Tryz.underlying136
  a119 := Tryz.isAgg136
  z119 := Tryz.sizeOf136
  t138 := Tryz.underlying138
  a138 := Tryz.isAgg138
  z138 := Tryz.sizeOf138
  v138 := Tryz.zeroValue138
  t139 := Tryz.underlying139
  a139 := Tryz.isAgg139
  z139 := Tryz.sizeOf139
  v139 := Tryz.zeroValue139
  g3 := by kernel_rfl
  g4 := by kernel_rfl }
open Go.RowKit Go.Lib in
theorem utf8_ValidString (s : ByteArray) (w : World) (hs : s.size ≤ 9223372036854775807) (hT : Lib.Utf8Tabs (lays196_ren.g 3) (lays196_ren.g 4) w) :
    Calls Tryz.prog 103 #[.string s] w fun e w' => e = .returned (.bool (Lib.validD s.data.toList)) ∧ Below w.heap.size w w' := Any.utf8_ValidString lays196 s w hs hT
end Go.Proofs.YtbfkaanmbdekfaaGreatDoor
namespace Go.Proofs.YtbfkaanmbdekfaaGreatDoor
/-- the library's two tables lie in the world -/
def Tabs (w : World) : Prop := Lib.Utf8Tabs (lays196_ren.g 3) (lays196_ren.g 4) w
theorem tabs_below {w w' : World} (h : Tabs w) (hb : RowKit.Below w.heap.size w w') : Tabs w' := Utf8Tabs_below h hb
end Go.Proofs.YtbfkaanmbdekfaaGreatDoor
namespace Go.Proofs.YtbfkaanmbdekfaaGreatDoor
set_option linter.unusedVariables false
open Go.ChangeShapes Go.WideShapes Go.ChangeAt Go.RowKit

/-- runes lie in memory, from a block's first place on -/
def HeldR (w : World) (g : Nat) (rs : List Int) : Prop := ∀ j z, rs[j]? = some z → w.cell? ⟨g, j, none⟩ = some (.int .i32 z)
theorem heldR_old {w w' : World} {g : Nat} {rs : List Int} (h : HeldR w g rs) (hb : Below w.heap.size w w') : HeldR w' g rs := by
  intro j z hj
  have hc := h j z hj
  have hlt : g < w.heap.size := by
    by_cases hg : g < w.heap.size
    · exact hg
    · simp [World.cell?, Array.getElem?_eq_none (Nat.le_of_not_lt hg)] at hc
  rw [hb.cell hlt]; exact hc

set_option maxHeartbeats 1000000 in
theorem letterR_any (r : Int) (w : World) :
    Calls Tryz.prog 44 #[.int .i32 r] w fun e w' => e = .returned (.bool (isLetter r)) ∧ w' = w := by
  go_enter Tryz.func44, Tryz.ntmps44
  go_wp2
  all_goals
    go_ret
    refine ⟨retB ?_, rfl⟩
    unfold isLetter
    rw [Bool.eq_iff_iff]
    simp
    omega
set_option maxHeartbeats 1000000 in
theorem digitR_any (r : Int) (w : World) :
    Calls Tryz.prog 46 #[.int .i32 r] w fun e w' => e = .returned (.bool (isDigit r)) ∧ w' = w := by
  go_enter Tryz.func46, Tryz.ntmps46
  go_wp2
  all_goals
    go_ret
    refine ⟨retB ?_, rfl⟩
    unfold isDigit
    rw [Bool.eq_iff_iff]
    simp
    omega
/-- []rune(s) -/
theorem run_runes (s : ByteArray) (w : World) (h : s.size ≤ 70368744177664) :
    ∃ c w', (convert 9 129 (.string s)).run Tryz.prog w = .ok (.slice (some ⟨w.heap.size, 0, none⟩) (runes s).length c) w' ∧ HeldR w' w.heap.size (runes s) ∧ (runes s).length ≤ c ∧ Below w.heap.size w w' := by
  have hl := runes_len s
  have hr := run_runes_of_string (P := Tryz.prog) w 9 129 21 s Tryz.underlying9 Tryz.underlying129 Tryz.underlying21 (by rw [runes_eq]; simp; omega)
  rw [runes_eq] at hr
  simp only [List.size_toArray, List.length_map] at hr
  refine ⟨_, _, hr, ?_, grownCap_ge _ _ _ _, ((Below.refl _ _).drew).alloc (by simp) _⟩
  intro j z hj
  have hlt := (List.getElem?_eq_some_iff.1 hj).1
  have e : (w.drew.alloc (.cells (((runes s).map (Value.int .i32)).toArray ++ Array.replicate (grownCap w (runes s).length 0 21 - (runes s).length) (.int .i32 0)) 21)).cell? ⟨w.drew.heap.size, j, none⟩ = (((runes s).map (Value.int .i32)).toArray ++ Array.replicate (grownCap w (runes s).length 0 21 - (runes s).length) (.int .i32 0))[j]? := World.cell?_alloc_new _ _ _ _
  have e2 : w.drew.heap.size = w.heap.size := rfl
  rw [e2] at e
  rw [e, Array.getElem?_append_left (by simpa using hlt)]
  simp [hj]
set_option maxHeartbeats 2000000 in
set_option maxRecDepth 20000 in
theorem runesR_any (s : ByteArray) (w : World) (hT : Tabs w) (h : s.size ≤ 70368744177664) :
    Calls Tryz.prog 92 #[.string s] w fun e w' =>
      (if Lib.validD s.data.toList = true then ∃ g c, e = .returned (.tuple #[.slice (some ⟨g, 0, none⟩) (runes s).length c, .bool true]) ∧ HeldR w' g (runes s) ∧ (runes s).length ≤ c
        else e = .returned (.tuple #[.slice none 0 0, .bool false])) ∧ Below w.heap.size w w' := by
  have hv := utf8_ValidString s w (by omega) hT
  obtain ⟨V, hV⟩ : ∃ V, Lib.validD s.data.toList = V := ⟨_, rfl⟩
  rw [hV] at hv ⊢
  cases V with
  | false =>
    go_enter Tryz.func92, Tryz.ntmps92
    go_wp2_with fail
    refine hv.mono ?_
    rintro e w1 ⟨rfl, hb⟩
    go_wp2_with fail
    go_ret2
    exact ⟨rfl, hb⟩
  | true =>
    go_enter Tryz.func92, Tryz.ntmps92
    go_wp2_with fail
    refine hv.mono ?_
    rintro e w1 ⟨rfl, hb⟩
    obtain ⟨c, w2, hr, hH, hc, hb2⟩ := run_runes s w1 h
    go_wp2_with fail
    go_ret2
    exact ⟨⟨_, c, rfl, hH, hc⟩, hb.trans (hb2.mono hb.size)⟩
end Go.Proofs.YtbfkaanmbdekfaaGreatDoor
namespace Go.Proofs.YtbfkaanmbdekfaaGreatDoor
set_option linter.unusedVariables false
open Go.ChangeShapes Go.WideShapes Go.ChangeAt Go.RowKit

/-- whether a text is a name -/
def isName (s : ByteArray) : Bool := Lib.validD s.data.toList && nameOf (runes s)
set_option maxHeartbeats 2000000 in
theorem nameR_any (s : ByteArray) (w : World) (hT : Tabs w) (h : s.size ≤ 70368744177664) :
    Calls Tryz.prog 75 #[.string s] w fun e w' => e = .returned (.bool (isName s)) ∧ Below w.heap.size w w' := by
  have hR := runesR_any s w hT h
  have hrl := runes_len s
  unfold isName
  obtain ⟨V, hV⟩ : ∃ V, Lib.validD s.data.toList = V := ⟨_, rfl⟩
  rw [hV] at hR ⊢
  cases V with
  | false =>
    simp only [Bool.false_eq_true, if_false] at hR
    rw [Bool.false_and]
    go_enter Tryz.func75, Tryz.ntmps75
    go_wp2_with fail
    refine hR.mono ?_
    rintro e w1 ⟨rfl, hb⟩
    go_wp2_with fail
    go_ret
    exact ⟨rfl, hb⟩
  | true =>
    simp only [if_true] at hR
    rw [Bool.true_and]
    generalize runes s = l at *
    have HR : Hid (Calls Tryz.prog 92 #[.string s] w fun e w' => (∃ g c, e = .returned (.tuple #[.slice (some ⟨g, 0, none⟩) l.length c, .bool true]) ∧ HeldR w' g l ∧ l.length ≤ c) ∧ Below w.heap.size w w') := hR
    clear hR hV
    obtain ⟨n, hn⟩ : ∃ n, l.length = n := ⟨_, rfl⟩
    have HN : Hid (l.length = n) := hn
    rw [hn] at hrl
    clear hn
    have HNO : Hid (nameOf l = (decide (1 ≤ n ∧ n ≤ 40) && isLetter (l.headD 0) && l.all nameRune)) := by
      refine (?_ : nameOf l = _)
      unfold nameOf; rw [HN.out]
    by_cases h0 : n = 0
    · have HV : Hid (nameOf l = false) := by
        refine (?_ : nameOf l = false)
        rw [HNO.out, decide_eq_false (by omega)]; simp
      clear HNO
      go_enter Tryz.func75, Tryz.ntmps75
      go_wp2_with fail
      refine HR.out.mono ?_
      rintro e w1 ⟨⟨g, c, rfl, hH, hc⟩, hb⟩
      rw [HN.out, h0]
      clear hH
      go_wp2_with fail
      go_ret
      exact ⟨retB HV.out.symm, hb⟩
    · by_cases h40 : 40 < n
      · have HV : Hid (nameOf l = false) := by
          refine (?_ : nameOf l = false)
          rw [HNO.out, decide_eq_false (by omega)]; simp
        clear HNO
        go_enter Tryz.func75, Tryz.ntmps75
        go_wp2_with fail
        refine HR.out.mono ?_
        rintro e w1 ⟨⟨g, c, rfl, hH, hc⟩, hb⟩
        rw [HN.out]
        clear hH hc
        go_wp2_with fail
        go_ret
        exact ⟨retB HV.out.symm, hb⟩
      · obtain ⟨z0, hz0⟩ : ∃ z, l[0]? = some z := ⟨_, List.getElem?_eq_getElem (by have := HN.out; omega)⟩
        have hhd : l.headD 0 = z0 := by
          cases l with
          | nil => simp at hz0
          | cons a t => simpa using hz0
        obtain ⟨L0, hL0⟩ : ∃ L0, isLetter z0 = L0 := ⟨_, rfl⟩
        have HNV : Hid (nameOf l = (L0 && l.all nameRune)) := by
          refine (?_ : nameOf l = _)
          rw [HNO.out, decide_eq_true (by omega), hhd, hL0]; simp
        have HLe := fun W => letterR_any z0 W
        rw [hL0] at HLe
        clear HNO hhd hL0
        cases L0 with
        | false =>
          have HV : Hid (nameOf l = false) := by
            refine (?_ : nameOf l = false)
            rw [HNV.out]; simp
          go_enter Tryz.func75, Tryz.ntmps75
          go_wp2_with fail
          refine HR.out.mono ?_
          rintro e w1 ⟨⟨g, c, rfl, hH, hc⟩, hb⟩
          have hc0 := hH 0 z0 hz0
          rw [HN.out]
          rw [HN.out] at hc
          clear hH
          go_wp2_with fail
          refine (HLe _).mono ?_
          rintro e w2 ⟨rfl, rfl⟩
          go_wp2_with fail
          go_ret
          exact ⟨retB HV.out.symm, hb⟩
        | true =>
          have HV : Hid (nameOf l = l.all nameRune) := by
            refine (?_ : nameOf l = l.all nameRune)
            rw [HNV.out]; simp
          clear HNV
          go_enter Tryz.func75, Tryz.ntmps75
          go_wp2_with fail
          refine HR.out.mono ?_
          rintro e w1 ⟨⟨g, c, rfl, hH, hc⟩, hb⟩
          have hc0 := hH 0 z0 hz0
          rw [HN.out]
          rw [HN.out] at hc
          have HH : Hid (HeldR w1 g l) := hH
          have HB : Hid (Below w.heap.size w w1) := hb
          clear hH hb hz0
          go_wp2_with fail
          refine (HLe _).mono ?_
          rintro e w2 ⟨rfl, rfl⟩
          clear hc0 HLe
          go_wp2_with fail
          go_loop [32] (fun i => ∃ k : Nat, k ≤ n ∧ i = .int .i64 k ∧ l.all nameRune = (l.drop k).all nameRune) (fun i => n - (intOf i).toNat)
          case atStart => exact ⟨0, by omega, rfl, rfl⟩
          case round =>
            obtain ⟨k, hk, rfl, hall⟩ := hrel
            have HA : Hid (l.all nameRune = (l.drop k).all nameRune) := hall
            clear hall
            by_cases hlt : k < n
            · obtain ⟨z, hz⟩ : ∃ z, l[k]? = some z := ⟨_, List.getElem?_eq_getElem (by have := HN.out; omega)⟩
              have hcell := HH.out k z hz
              have HS : Hid (l.all nameRune = (nameRune z && (l.drop (k + 1)).all nameRune)) := by
                refine (?_ : l.all nameRune = _)
                rw [HA.out, all_drop hz]
              clear hz HA
              obtain ⟨Lz, hLz⟩ : ∃ Lz, isLetter z = Lz := ⟨_, rfl⟩
              obtain ⟨Dz, hDz⟩ : ∃ Dz, isDigit z = Dz := ⟨_, rfl⟩
              have hle := fun W => letterR_any z W
              have hdi := fun W => digitR_any z W
              rw [hLz] at hle
              rw [hDz] at hdi
              have HNR : Hid (nameRune z = (Lz || Dz || decide (z = 95))) := by
                refine (?_ : nameRune z = _)
                unfold nameRune; rw [hLz, hDz]
              clear hLz hDz
              cases Lz with
              | true =>
                have HX : Hid (l.all nameRune = (l.drop (k + 1)).all nameRune) := by
                  refine (?_ : l.all nameRune = _)
                  rw [HS.out, HNR.out]; simp
                clear HS HNR
                go_wp2_with fail
                refine (hle _).mono ?_
                rintro e w2 ⟨rfl, rfl⟩
                go_wp2_with fail
                go_round
                case rel => exact ⟨k + 1, by omega, by go_num, HX.out⟩
                case measure => simp [intOf]; omega
              | false =>
                cases Dz with
                | true =>
                  have HX : Hid (l.all nameRune = (l.drop (k + 1)).all nameRune) := by
                    refine (?_ : l.all nameRune = _)
                    rw [HS.out, HNR.out]; simp
                  clear HS HNR
                  go_wp2_with fail
                  refine (hle _).mono ?_
                  rintro e w2 ⟨rfl, rfl⟩
                  go_wp2_with fail
                  refine (hdi _).mono ?_
                  rintro e w2 ⟨rfl, rfl⟩
                  go_wp2_with fail
                  go_round
                  case rel => exact ⟨k + 1, by omega, by go_num, HX.out⟩
                  case measure => simp [intOf]; omega
                | false =>
                  by_cases hz95 : z = 95
                  · subst hz95
                    have HX : Hid (l.all nameRune = (l.drop (k + 1)).all nameRune) := by
                      refine (?_ : l.all nameRune = _)
                      rw [HS.out, HNR.out]; simp
                    clear HS HNR
                    go_wp2_with fail
                    refine (hle _).mono ?_
                    rintro e w2 ⟨rfl, rfl⟩
                    go_wp2_with fail
                    refine (hdi _).mono ?_
                    rintro e w2 ⟨rfl, rfl⟩
                    go_wp2_with fail
                    go_round
                    case rel => exact ⟨k + 1, by omega, by go_num, HX.out⟩
                    case measure => simp [intOf]; omega
                  · have HX : Hid (nameOf l = false) := by
                      refine (?_ : nameOf l = false)
                      rw [HV.out, HS.out, HNR.out]; simp [hz95]
                    have h95 : (z == 95) = false := by simpa using hz95
                    clear HS HNR
                    go_wp2_with fail
                    refine (hle _).mono ?_
                    rintro e w2 ⟨rfl, rfl⟩
                    go_wp2_with fail
                    refine (hdi _).mono ?_
                    rintro e w2 ⟨rfl, rfl⟩
                    go_wp2_with fail
                    go_ret
                    exact ⟨retB HX.out.symm, HB.out⟩
            · have HX : Hid (nameOf l = true) := by
                refine (?_ : nameOf l = true)
                rw [HV.out, HA.out, List.drop_eq_nil_of_le (by have := HN.out; omega)]; rfl
              clear HA
              go_wp2_with fail
              go_ret
              exact ⟨retB HX.out.symm, HB.out⟩
end Go.Proofs.YtbfkaanmbdekfaaGreatDoor
namespace Go.Proofs.YtbfkaanmbdekfaaGreatDoor
set_option linter.unusedVariables false
open Go.ChangeShapes Go.WideShapes Go.ChangeAt Go.RowKit

theorem valid_of_runes (s : ByteArray) : ∀ (b pos : Nat), s.size ≤ pos + b → (∀ r ∈ rns s b pos, r ≠ 65533) → Lib.validD (s.data.toList.drop pos) = true
  | b, pos, hb, h => by
    by_cases hp : pos < s.size
    · cases b with
      | zero => omega
      | succ b =>
        have hne : s.data.toList.drop pos ≠ [] := by
          intro e
          have := congrArg List.length e
          rw [List.length_drop, List.length_nil] at this
          have := len_data s
          omega
        rw [rns_step s b pos hp] at h
        have hw := width_pos s pos hp
        rw [Lib.validD_step _ hne, Lib.decodeL_drop, if_neg, List.drop_drop]
        · exact valid_of_runes s b (pos + (Utf8.decode s pos).2) (by omega) (fun r hr => h r (List.mem_cons_of_mem _ hr))
        · rintro ⟨h1, _⟩
          have := h _ List.mem_cons_self
          omega
    · have e : s.data.toList.drop pos = [] := List.drop_eq_nil_of_le (by rw [len_data]; omega)
      rw [e]; rfl
theorem valid_of_name (s : ByteArray) (h : nameOf (runes s) = true) : Lib.validD s.data.toList = true := by
  have := valid_of_runes s s.size 0 (by omega) (fun r hr => by
    have := two_of_name (name_all h r hr)
    unfold two at this; omega)
  simpa using this
theorem isName_eq (s : ByteArray) : isName s = nameOf (runes s) := by
  unfold isName
  by_cases h : nameOf (runes s) = true
  · rw [h, valid_of_name s h]; rfl
  · rw [Bool.not_eq_true] at h
    rw [h, Bool.and_false]
end Go.Proofs.YtbfkaanmbdekfaaGreatDoor
namespace Go.Proofs.YtbfkaanmbdekfaaGreatDoor
set_option linter.unusedVariables false
open Go.ChangeShapes Go.WideShapes Go.ChangeAt Go.RowKit

theorem decodeL_data (s : ByteArray) : Lib.decodeL s.data.toList = Utf8.decode s 0 := by
  have := Lib.decodeL_drop s 0
  simpa using this
set_option maxHeartbeats 1000000 in
theorem nextR_any (s : ByteArray) (w : World) (hT : Tabs w) :
    Calls Tryz.prog 43 #[.string s] w fun e w' => e = .returned (.tuple #[.int .i32 (nx s.data.toList).1, .int .i64 ((nx s.data.toList).2 : Int)]) ∧ Below w.heap.size w w' := by
  have hD := utf8_DecodeRuneInString s w hT
  have hnx : nx s.data.toList = if (Lib.decodeGo s).1 = 65533 ∧ (Lib.decodeGo s).2 ≤ 1 then (-1, (Lib.decodeGo s).2) else (((Lib.decodeGo s).1 : Int), (Lib.decodeGo s).2) := by
    unfold nx Lib.decodeGo
    rw [decodeL_data]
    by_cases h0 : s.size = 0
    · have e : s.data.toList = [] := List.eq_nil_of_length_eq_zero (by rw [len_data]; exact h0)
      simp [e, h0]
    · have e : s.data.toList ≠ [] := by intro e; have := len_data s; rw [e] at this; simp at this; omega
      rw [if_neg e, if_neg h0]
  rw [hnx]
  clear hnx
  generalize (Lib.decodeGo s).1 = r at *
  generalize (Lib.decodeGo s).2 = n at *
  by_cases h : r = 65533 ∧ n ≤ 1
  · rw [if_pos h]
    obtain ⟨rfl, h1⟩ := h
    have h1' : (n : Int) ≤ 1 := by omega
    go_enter Tryz.func43, Tryz.ntmps43
    go_wp2_with fail
    refine hD.mono ?_
    rintro e w1 ⟨rfl, hb⟩
    go_wp2_with fail
    go_ret2
    exact ⟨rfl, hb⟩
  · rw [if_neg h]
    by_cases hr : r = 65533
    · subst hr
      have h1' : ¬ (n : Int) ≤ 1 := by omega
      clear h
      go_enter Tryz.func43, Tryz.ntmps43
      go_wp2_with fail
      refine hD.mono ?_
      rintro e w1 ⟨rfl, hb⟩
      go_wp2_with fail
      go_ret2
      exact ⟨rfl, hb⟩
    · have hr' : ((r : Int) == 65533) = false := beq_eq_false_iff_ne.2 (by omega)
      clear h
      go_enter Tryz.func43, Tryz.ntmps43
      go_wp2_with fail
      refine hD.mono ?_
      rintro e w1 ⟨rfl, hb⟩
      go_wp2_with fail
      go_ret2
      exact ⟨rfl, hb⟩

theorem runL_step (f : Nat) (l : List UInt8) (h : l ≠ []) (hr : nameRune (nx l).1 = true) : runL (f + 1) l = ((nx l).2 + (runL f (l.drop (nx l).2)).1, (runL f (l.drop (nx l).2)).2 + 1) := by rw [runL, if_pos ⟨h, hr⟩]
theorem runL_stop (f : Nat) (l : List UInt8) (h : l = [] ∨ nameRune (nx l).1 = false) : runL f l = (0, 0) := by
  cases f with
  | zero => rfl
  | succ f =>
    rw [runL, if_neg]
    rintro ⟨h1, h2⟩
    rcases h with h | h
    · exact h1 h
    · rw [h] at h2; simp at h2
theorem drop_ne {l : List UInt8} {k : Nat} (h : k < l.length) : l.drop k ≠ [] := by
  intro e; have := congrArg List.length e; rw [List.length_drop, List.length_nil] at this; omega
theorem retII {a b c d : Int} (h1 : a = c) (h2 : b = d) : Ending.returned (.tuple #[.int .i64 a, .int .i64 b]) = .returned (.tuple #[.int .i64 c, .int .i64 d]) := by rw [h1, h2]
set_option maxHeartbeats 2000000 in
theorem runR_any (s : ByteArray) (w : World) (hT : Tabs w) (hs : s.size ≤ 1048576) :
    Calls Tryz.prog 45 #[.string s] w fun e w' => e = .returned (.tuple #[.int .i64 ((runL s.size s.data.toList).1 : Int), .int .i64 ((runL s.size s.data.toList).2 : Int)]) ∧ Below w.heap.size w w' := by
  have HL : Hid (s.data.toList.length = s.size) := len_data s
  have hN := fun (k : Nat) W hTW => nextR_any (s.extract k s.size) W hTW
  have HX : Hid (∀ k, (s.extract k s.size).data.toList = s.data.toList.drop k) := fun k => Lib.extract_to_end s k
  obtain ⟨R1, hR1⟩ : ∃ R1, (runL s.size s.data.toList).1 = R1 := ⟨_, rfl⟩
  obtain ⟨R2, hR2⟩ : ∃ R2, (runL s.size s.data.toList).2 = R2 := ⟨_, rfl⟩
  rw [hR1, hR2]
  have HR1 : Hid ((runL s.size s.data.toList).1 = R1) := hR1
  have HR2 : Hid ((runL s.size s.data.toList).2 = R2) := hR2
  clear hR1 hR2
  go_enter Tryz.func45, Tryz.ntmps45
  go_wp2_with fail
  go_loopw [4, 5] (fun n m wr => ∃ (k q f : Nat), n = .int .i64 k ∧ m = .int .i64 q ∧ k ≤ s.size ∧ q ≤ k ∧ s.size ≤ k + f ∧ Below w.heap.size w wr ∧ (runL s.size s.data.toList).1 = k + (runL f (s.data.toList.drop k)).1 ∧ (runL s.size s.data.toList).2 = q + (runL f (s.data.toList.drop k)).2) (fun n _ _ => s.size - (intOf n).toNat)
  case atStart => exact ⟨0, 0, s.size, rfl, rfl, by omega, by omega, by omega, Below.refl _ _, by simp, by simp⟩
  case round =>
    obtain ⟨k, q, f, rfl, rfl, hk, hq, hf, hbw, e1, e2⟩ := hrel
    have E1 : Hid ((runL s.size s.data.toList).1 = k + (runL f (s.data.toList.drop k)).1) := e1
    have E2 : Hid ((runL s.size s.data.toList).2 = q + (runL f (s.data.toList.drop k)).2) := e2
    clear e1 e2
    have hTr := tabs_below hT hbw
    by_cases hlt : k < s.size
    · have hne : s.data.toList.drop k ≠ [] := drop_ne (by rw [HL.out]; exact hlt)
      have hwd := nx_width _ hne
      have hrb := nx_le (s.data.toList.drop k)
      have hNk := hN k wr hTr
      rw [HX.out] at hNk
      have hwl : (s.data.toList.drop k).length = s.size - k := by rw [List.length_drop, HL.out]
      have HST : Hid (∀ g, nameRune (nx (s.data.toList.drop k)).1 = true → runL (g + 1) (s.data.toList.drop k) = ((nx (s.data.toList.drop k)).2 + (runL g (s.data.toList.drop (k + (nx (s.data.toList.drop k)).2))).1, (runL g (s.data.toList.drop (k + (nx (s.data.toList.drop k)).2))).2 + 1)) := fun g h => by
        rw [runL_step g _ hne h, List.drop_drop]
      have HSO : Hid (∀ g, nameRune (nx (s.data.toList.drop k)).1 = false → runL g (s.data.toList.drop k) = (0, 0)) := fun g h => runL_stop g _ (.inr h)
      clear hN hne
      obtain ⟨f, rfl⟩ : ∃ f', f = f' + 1 := ⟨f - 1, by omega⟩
      rw [hwl] at hwd
      clear hwl
      generalize (nx (s.data.toList.drop k)).2 = kw at *
      generalize (nx (s.data.toList.drop k)).1 = r at *
      have hLe := fun W => letterR_any r W
      have hDi := fun W => digitR_any r W
      have hnr : nameRune r = (isLetter r || isDigit r || decide (r = 95)) := rfl
      obtain ⟨L, hL⟩ : ∃ L, isLetter r = L := ⟨_, rfl⟩
      obtain ⟨D, hD⟩ : ∃ D, isDigit r = D := ⟨_, rfl⟩
      rw [hL] at hLe hnr
      rw [hD] at hDi hnr
      have HNR : Hid (nameRune r = (L || D || decide (r = 95))) := hnr
      clear hL hD hnr
      have hw1 : IntKind.i64.wrap ((k : Int) + (kw : Int)) = ((k + kw : Nat) : Int) := by rw [IntKind.wrap_i64]; omega
      have hgo : nameRune r = true → ((runL s.size s.data.toList).1 = (k + kw) + (runL f (s.data.toList.drop (k + kw))).1 ∧ (runL s.size s.data.toList).2 = (q + 1) + (runL f (s.data.toList.drop (k + kw))).2) := fun h => by
        rw [E1.out, E2.out, HST.out f h]; simp only; omega
      have HGO : Hid (nameRune r = true → ((runL s.size s.data.toList).1 = (k + kw) + (runL f (s.data.toList.drop (k + kw))).1 ∧ (runL s.size s.data.toList).2 = (q + 1) + (runL f (s.data.toList.drop (k + kw))).2)) := hgo
      have hend : nameRune r = false → (R1 = k ∧ R2 = q) := fun h => by
        rw [← HR1.out, ← HR2.out, E1.out, E2.out, HSO.out _ h]; simp
      have HEN : Hid (nameRune r = false → (R1 = k ∧ R2 = q)) := hend
      clear hgo hend
      cases L with
      | true =>
        have hok := HGO.out (by rw [HNR.out]; rfl)
        have HOK : Hid ((runL s.size s.data.toList).1 = (k + kw) + (runL f (s.data.toList.drop (k + kw))).1 ∧ (runL s.size s.data.toList).2 = (q + 1) + (runL f (s.data.toList.drop (k + kw))).2) := hok
        clear hok
        go_wp2_with fail
        refine hNk.mono ?_
        rintro e w1 ⟨rfl, hb1⟩
        have hb1 := hbw.trans (hb1.mono hbw.size)
        clear hNk
        go_wp2_with fail
        refine (hLe _).mono ?_
        rintro e w2 ⟨rfl, rfl⟩
        go_wp2_with fail
        go_roundw
        case rel => exact ⟨k + kw, q + 1, f, by go_num, by go_num, by omega, by omega, by omega, hb1, HOK.out.1, HOK.out.2⟩
        case measure => simp [intOf]; omega
      | false =>
        have hcase : (D = true) ∨ (D = false ∧ r = 95) ∨ (D = false ∧ r ≠ 95) := by
          cases D
          · by_cases h : r = 95
            · exact .inr (.inl ⟨rfl, h⟩)
            · exact .inr (.inr ⟨rfl, h⟩)
          · exact .inl rfl
        rcases hcase with rfl | ⟨rfl, rfl⟩ | ⟨rfl, h95⟩
        · have HOK : Hid ((runL s.size s.data.toList).1 = (k + kw) + (runL f (s.data.toList.drop (k + kw))).1 ∧ (runL s.size s.data.toList).2 = (q + 1) + (runL f (s.data.toList.drop (k + kw))).2) := HGO.out (by rw [HNR.out]; rfl)
          clear HGO HEN HNR
          go_wp2_with fail
          refine hNk.mono ?_
          rintro e w1 ⟨rfl, hb1⟩
          have hb1 := hbw.trans (hb1.mono hbw.size)
          clear hNk
          go_wp2_with fail
          refine (hLe _).mono ?_
          rintro e w2 ⟨rfl, rfl⟩
          go_wp2_with fail
          refine (hDi _).mono ?_
          rintro e w3 ⟨rfl, rfl⟩
          go_wp2_with fail
          go_roundw
          case rel => exact ⟨k + kw, q + 1, f, by go_num, by go_num, by omega, by omega, by omega, hb1, HOK.out.1, HOK.out.2⟩
          case measure => simp [intOf]; omega
        · have HOK : Hid ((runL s.size s.data.toList).1 = (k + kw) + (runL f (s.data.toList.drop (k + kw))).1 ∧ (runL s.size s.data.toList).2 = (q + 1) + (runL f (s.data.toList.drop (k + kw))).2) := HGO.out (by rw [HNR.out]; rfl)
          clear HGO HEN HNR
          go_wp2_with fail
          refine hNk.mono ?_
          rintro e w1 ⟨rfl, hb1⟩
          have hb1 := hbw.trans (hb1.mono hbw.size)
          clear hNk
          go_wp2_with fail
          refine (hLe _).mono ?_
          rintro e w2 ⟨rfl, rfl⟩
          go_wp2_with fail
          refine (hDi _).mono ?_
          rintro e w3 ⟨rfl, rfl⟩
          go_wp2_with fail
          go_roundw
          case rel => exact ⟨k + kw, q + 1, f, by go_num, by go_num, by omega, by omega, by omega, hb1, HOK.out.1, HOK.out.2⟩
          case measure => simp [intOf]; omega
        · have HE : Hid (R1 = k ∧ R2 = q) := HEN.out (by rw [HNR.out]; simp [h95])
          have h95' : (r != 95) = true := by simpa using h95
          clear HGO HEN HNR
          go_wp2_with fail
          refine hNk.mono ?_
          rintro e w1 ⟨rfl, hb1⟩
          have hb1 := hbw.trans (hb1.mono hbw.size)
          clear hNk
          go_wp2_with fail
          refine (hLe _).mono ?_
          rintro e w2 ⟨rfl, rfl⟩
          go_wp2_with fail
          refine (hDi _).mono ?_
          rintro e w3 ⟨rfl, rfl⟩
          go_wp2_with fail
          go_ret2
          exact ⟨retII (by rw [HE.out.1]) (by rw [HE.out.2]), hb1⟩
    · have HE : Hid (R1 = k ∧ R2 = q) := by
        refine (?_ : _ ∧ _)
        rw [← HR1.out, ← HR2.out, E1.out, E2.out, runL_stop _ _ (.inl (List.drop_eq_nil_of_le (by rw [HL.out]; omega)))]
        simp
      go_wp2_with fail
      go_ret2
      exact ⟨retII (by rw [HE.out.1]) (by rw [HE.out.2]), hbw⟩
end Go.Proofs.YtbfkaanmbdekfaaGreatDoor
