/-
  The walk over the document's own service of a reader.
  What a message that is being read keeps in memory: its fields and what lies in it, each in a slice that grows. Nothing is proved of the program here.
-/
import Derived.Test.YtbfkaanmbdekfaaGreatDoorGf13
namespace Go.Proofs.YtbfkaanmbdekfaaGreatDoor
set_option linter.unusedVariables false
open Go.ChangeShapes Go.WideShapes Go.ChangeAt Go.RowKit

theorem infoMt : (Tryz.prog.info? 74).map (fun i => (i.zero, i.size, i.bytes)) = some (some (.agg #[.string ⟨#[]⟩, .string ⟨#[]⟩, .string ⟨#[]⟩, .int .i64 0, .int .i64 0]), 5, 64) := by kernel_rfl
set_option maxHeartbeats 8000000 in
set_option maxRecDepth 20000 in
theorem serviceRd_any (R : Nat) (en : Int × Int) (r : Rd) (w : World) (h : RdAt w R en r) :
    Calls Tryz.prog 23 #[.pointer (some ⟨R, 0, none⟩)] w fun x w' => ∃ vs, x = .returned (dval 3 (r.service en).1.name (r.service en).1.line (r.service en).1.col (.slice none 0 0) (.slice none 0 0) vs (.slice none 0 0)) ∧
      RdAt w' R en (r.service en).2 ∧ w.grownBy w' (some R) ∧ w'.ownsRow (w.heap.size + 2) 74 5 vs (r.service en).1.methods.length ((r.service en).1.methods.flatMap mrow) := by
  have hlt := h.lt
  have hfew := h.few
  have hL0 := Lo.start w h 65 z8 #[.int .i64 3, .string ⟨#[]⟩, .int .i64 0, .int .i64 0, .slice none 0 0, .slice none 0 0, .slice none 0 0, .slice none 0 0]
  have HL0 := Lib.hid hL0
  have hTk := takeR_any R en r ⟨#[115, 101, 114, 118, 105, 99, 101]⟩ _ hL0.rd
  have eT : (ByteArray.mk #[115, 101, 114, 118, 105, 99, 101]).data.toList = tService := rfl
  rw [eT] at hTk
  have hmle := Rd.m_le r
  have HM1 := Lib.hid (Rd.m_take en r tService)
  have HEN : Hid (r.service en = (⟨3, (r.take en tService).nameT, ((r.take en tService).nameP en).1, ((r.take en tService).nameP en).2, [], [], (methodsL en ((((r.take en tService).name en).take en [123]).l.length + 1) (((r.take en tService).name en).take en [123]) []).1, []⟩, (methodsL en ((((r.take en tService).name en).take en [123]).l.length + 1) (((r.take en tService).name en).take en [123]) []).2.take en [125])) := rfl
  obtain ⟨EN, hEN⟩ : ∃ EN, r.service en = EN := ⟨_, rfl⟩
  rw [hEN] at HEN ⊢
  generalize r.take en tService = q1 at *
  clear hEN hL0 eT h
  go_enter Tryz.func23, Tryz.ntmps23
  go_wp2_with fail
  generalize (w.alloc (.cells z8 65)).alloc (.cells #[.int .i64 3, .string ⟨#[]⟩, .int .i64 0, .int .i64 0, .slice none 0 0, .slice none 0 0, .slice none 0 0, .slice none 0 0] 65) = V at *
  refine hTk.mono ?_
  rintro e w1 ⟨rfl, hr1, hg1⟩
  have HL1 := Lib.hid (HL0.out.step hr1 hg1)
  have hNa := nameRd_any R en q1 w1 hr1
  have HM2 := Lib.hid (Rd.m_name en q1)
  clear hTk hr1 hg1 HL0
  go_wp2_with fail
  refine hNa.mono ?_
  rintro e w2 ⟨rfl, hr2, hg2⟩
  have HL2 := Lib.hid (HL1.out.step hr2 hg2)
  obtain ⟨m1, n1, _, _⟩ := HL2.out.cell 1
  obtain ⟨m2, n2, _, _⟩ := HL2.out.cell 2
  obtain ⟨m3, n3, _, _⟩ := HL2.out.cell 3
  have m1 : w2.cell? ⟨w.heap.size + 1, 1, none⟩ = some (.string ⟨#[]⟩) := m1
  have m2 : w2.cell? ⟨w.heap.size + 1, 2, none⟩ = some (.int .i64 0) := m2
  have m3 : w2.cell? ⟨w.heap.size + 1, 3, none⟩ = some (.int .i64 0) := m3
  have HLa : Lo w _ R en (q1.name en) 65 z8 #[.int .i64 3, .string (mkB q1.nameT), .int .i64 0, .int .i64 0, .slice none 0 0, .slice none 0 0, .slice none 0 0, .slice none 0 0] := HL2.out.set 1 (.string (mkB q1.nameT))
  have HLb : Lo w _ R en (q1.name en) 65 z8 #[.int .i64 3, .string (mkB q1.nameT), .int .i64 (q1.nameP en).1, .int .i64 0, .slice none 0 0, .slice none 0 0, .slice none 0 0, .slice none 0 0] := HLa.set 2 (.int .i64 (q1.nameP en).1)
  have HLc : Lo w _ R en (q1.name en) 65 z8 #[.int .i64 3, .string (mkB q1.nameT), .int .i64 (q1.nameP en).1, .int .i64 (q1.nameP en).2, .slice none 0 0, .slice none 0 0, .slice none 0 0, .slice none 0 0] := HLb.set 3 (.int .i64 (q1.nameP en).2)
  have HL3 := Lib.hid HLc
  have hTk := fun W hW => takeR_any R en (q1.name en) ⟨#[123]⟩ W hW
  have e123 : (ByteArray.mk #[123]).data.toList = [123] := rfl
  rw [e123] at hTk
  have HM3 := Lib.hid (Rd.m_take en (q1.name en) [123])
  clear hNa hr2 hg2 HLa HLb HLc HL1 e123
  go_wp2_with fail
  refine (hTk _ HL3.out.rd).mono ?_
  clear m1 m2 m3 n1 n2 n3
  rintro e w3 ⟨rfl, hr3, hg3⟩
  have HL4 := Lib.hid (HL3.out.step hr3 hg3)
  clear hTk hr3 hg3 HL2 HL3
  obtain ⟨NM, hNM⟩ : ∃ NM, q1.nameT = NM := ⟨_, rfl⟩
  obtain ⟨PL, hPL⟩ : ∃ PL, (q1.nameP en).1 = PL := ⟨_, rfl⟩
  obtain ⟨PC, hPC⟩ : ∃ PC, (q1.nameP en).2 = PC := ⟨_, rfl⟩
  rw [hNM, hPL, hPC] at HL4 HEN
  generalize (q1.name en).take en [123] = q3 at *
  obtain ⟨VS, hVS⟩ : ∃ VS, methodsL en (q3.l.length + 1) q3 [] = VS := ⟨_, rfl⟩
  have HVS := Lib.hid hVS
  rw [hVS] at HEN
  have hq3 : q3.m ≤ 4001 := by have := HM3.out; have := HM2.out; have := HM1.out; omega
  have HQ3 := Lib.hid (Rd.m_le q3)
  clear hVS hNM hPL hPC HM1 HM2 HM3
  go_wp2_with fail
  go_loopw [4] (fun _ wr => ∃ (f : Nat) (q : Rd) (acc : List Mt) (vs : Value), Ls w wr R en q 65 z8 #[.int .i64 3, .string (mkB NM), .int .i64 PL, .int .i64 PC, .slice none 0 0, .slice none 0 0, vs, .slice none 0 0] 74 5 vs acc.length (acc.flatMap mrow) ∧ q.m ≤ f ∧ acc.length + q.m ≤ 4001 ∧ VS = methodsL en f q acc) (fun _ wr => rdM wr R)
  case atStart => exact ⟨q3.l.length + 1, q3, [], .slice none 0 0, ⟨HL4.out, World.ownsRow_nil _ _ _ _⟩, HQ3.out, by simpa using hq3, HVS.out.symm⟩
  case round =>
    obtain ⟨f, q, acc, vs, hLs, hmf, hacc, hvs⟩ := hrel
    obtain ⟨va, vc, rfl⟩ := own_slice hLs.own
    have HVQ := Lib.hid hvs
    have HLs := Lib.hid hLs
    have hIs := isR_any R en q ⟨#[125]⟩ wr hLs.lo.rd
    have e125 : (ByteArray.mk #[125]).data.toList = [125] := rfl
    rw [e125] at hIs
    obtain ⟨_, _, _, _, _, _, _, _, _, _, c5, _⟩ := hLs.lo.rd.get
    have hszr := hLs.lo.size
    have HM0 := Lib.hid hLs.lo.rd.m
    have hTkE := takeR_any R en q ⟨#[125]⟩ wr hLs.lo.rd
    rw [e125] at hTkE
    clear hvs hLs e125
    by_cases hgo : q.e = 0 ∧ q.is [125] = false
    · obtain ⟨he, hi⟩ := hgo
      rw [hi] at hIs
      rw [he] at c5
      have hm1 : 1 ≤ q.m := by unfold Rd.m; rw [if_pos he]; omega
      obtain ⟨f, rfl⟩ : ∃ f', f = f' + 1 := ⟨f - 1, by omega⟩
      have hmv := Rd.m_method en q
      have HNX : Hid (VS = methodsL en f (q.method en).2 (acc ++ [(q.method en).1])) := by
        refine (?_ : _ = _)
        rw [HVQ.out, methodsL_go en f q acc ⟨he, hi⟩]
      have HVE : Hid (q.method en = (⟨(q.take en tRpc).nameT, ((((q.take en tRpc).name en).take en [40]).path en).1, ((((((((q.take en tRpc).name en).take en [40]).path en).2.take en [41]).take en tReturns).take en [40]).path en).1, ((q.take en tRpc).nameP en).1, ((q.take en tRpc).nameP en).2⟩, (((((((((q.take en tRpc).name en).take en [40]).path en).2.take en [41]).take en tReturns).take en [40]).path en).2.take en [41]).take en [59])) := rfl
      have HLg := Lib.hid (HLs.out.alloc (.cells #[.string ⟨#[]⟩, .string ⟨#[]⟩, .string ⟨#[]⟩, .int .i64 0, .int .i64 0] 74))
      have HGg := Lib.hid (alloc_heap_new wr (.cells #[.string ⟨#[]⟩, .string ⟨#[]⟩, .string ⟨#[]⟩, .int .i64 0, .int .i64 0] 74))
      have hvn : (Value.slice va acc.length vc).ownBlock ≠ some wr.heap.size := by
        intro e
        have := (own_block HLs.out.own _ e).2
        omega
      have HVN := Lib.hid hvn
      obtain ⟨VAL, hVAL⟩ : ∃ VAL, q.method en = VAL := ⟨_, rfl⟩
      rw [hVAL] at HNX HVE hmv
      have hT0 := fun W hW => takeR_any R en q ⟨#[114, 112, 99]⟩ W hW
      have eR : (ByteArray.mk #[114, 112, 99]).data.toList = tRpc := rfl
      rw [eR] at hT0
      generalize q.take en tRpc = k1 at *
      clear HVQ he hi hTkE hvn hVAL eR
      go_wp2_with fail
      refine hIs.mono ?_
      rintro e w4 ⟨rfl, h4⟩
      have h4 := h4.symm
      subst h4
      clear hIs c5
      go_wp2_with fail
      generalize wr.alloc (.cells #[.string ⟨#[]⟩, .string ⟨#[]⟩, .string ⟨#[]⟩, .int .i64 0, .int .i64 0] 74) = W1 at *
      generalize wr.heap.size = G at *
      have hRG : R ≠ G := by omega
      refine (hT0 W1 HLg.out.lo.rd).mono ?_
      rintro e w5a ⟨rfl, hr5a, hg5a⟩
      have HL5a := Lib.hid (HLg.out.step hr5a hg5a)
      have HG5a := Lib.hid (keepG HGg.out hg5a hRG)
      have hNa := nameRd_any R en k1 w5a hr5a
      clear hT0 hr5a hg5a HLg HGg
      go_wp2_with fail
      refine hNa.mono ?_
      rintro e w5 ⟨rfl, hr5, hg5⟩
      have HL5 := Lib.hid (HL5a.out.step hr5 hg5)
      have g5 := keepG HG5a.out hg5 hRG
      have p0 : w5.cell? ⟨G, 0, none⟩ = some (.string ⟨#[]⟩) := by simp [World.cell?, g5]
      have p3 : w5.cell? ⟨G, 3, none⟩ = some (.int .i64 0) := by simp [World.cell?, g5]
      have p4 : w5.cell? ⟨G, 4, none⟩ = some (.int .i64 0) := by simp [World.cell?, g5]
      have f0 : w5.frozen? ⟨G, 0, none⟩ = false := by simp [World.frozen?, g5]
      have f3 : w5.frozen? ⟨G, 3, none⟩ = false := by simp [World.frozen?, g5]
      have f4 : w5.frozen? ⟨G, 4, none⟩ = false := by simp [World.frozen?, g5]
      have ga : (w5.setCell ⟨G, 0, none⟩ (.string (mkB k1.nameT))).heap[G]? = some (.cells #[.string (mkB k1.nameT), .string ⟨#[]⟩, .string ⟨#[]⟩, .int .i64 0, .int .i64 0] 74 (0, 0)) := setCell_heap g5 _
      have gb : ((w5.setCell ⟨G, 0, none⟩ (.string (mkB k1.nameT))).setCell ⟨G, 3, none⟩ (.int .i64 (k1.nameP en).1)).heap[G]? = some (.cells #[.string (mkB k1.nameT), .string ⟨#[]⟩, .string ⟨#[]⟩, .int .i64 (k1.nameP en).1, .int .i64 0] 74 (0, 0)) := setCell_heap ga _
      have gc : (((w5.setCell ⟨G, 0, none⟩ (.string (mkB k1.nameT))).setCell ⟨G, 3, none⟩ (.int .i64 (k1.nameP en).1)).setCell ⟨G, 4, none⟩ (.int .i64 (k1.nameP en).2)).heap[G]? = some (.cells #[.string (mkB k1.nameT), .string ⟨#[]⟩, .string ⟨#[]⟩, .int .i64 (k1.nameP en).1, .int .i64 (k1.nameP en).2] 74 (0, 0)) := setCell_heap gb _
      have HGc := Lib.hid gc
      have HL6 := Lib.hid (((HL5.out.far G 0 (by omega) HVN.out (.string (mkB k1.nameT))).far G 3 (by omega) HVN.out (.int .i64 (k1.nameP en).1)).far G 4 (by omega) HVN.out (.int .i64 (k1.nameP en).2))
      obtain ⟨MN, hMN⟩ : ∃ x, k1.nameT = x := ⟨_, rfl⟩
      obtain ⟨ML, hML⟩ : ∃ x, (k1.nameP en).1 = x := ⟨_, rfl⟩
      obtain ⟨MC, hMC⟩ : ∃ x, (k1.nameP en).2 = x := ⟨_, rfl⟩
      have hTk := fun W hW => takeR_any R en (k1.name en) ⟨#[40]⟩ W hW
      have e40 : (ByteArray.mk #[40]).data.toList = [40] := rfl
      rw [e40] at hTk
      rw [hMN, hML, hMC] at HGc HL6 HVE
      clear hr5 hg5 g5 ga gb gc e40 HL5a HG5a HL5 hNa
      go_wp2_with fail
      clear hMN hML hMC
      refine (hTk _ HL6.out.lo.rd).mono ?_
      clear p0 p3 p4 f0 f3 f4
      rintro e w6 ⟨rfl, hr6, hg6⟩
      have HL7 := Lib.hid (HL6.out.step hr6 hg6)
      have HG7 := Lib.hid (keepG HGc.out hg6 hRG)
      generalize (k1.name en).take en [40] = k2 at *
      have hPa := pathRd_any R en k2 w6 hr6
      clear hTk hr6 hg6 HL6 HGc
      go_wp2_with fail
      refine hPa.mono ?_
      rintro e w7 ⟨rfl, hr7, hg7, _⟩
      obtain ⟨PA, hPA⟩ : ∃ PA, k2.path en = PA := ⟨_, rfl⟩
      rw [hPA] at hr7 HVE
      have HL8 := Lib.hid (HL7.out.step hr7 hg7)
      have g8 := keepG HG7.out hg7 hRG
      have p1 : w7.cell? ⟨G, 1, none⟩ = some (.string ⟨#[]⟩) := by simp [World.cell?, g8]
      have f1 : w7.frozen? ⟨G, 1, none⟩ = false := by simp [World.frozen?, g8]
      have g9 : (w7.setCell ⟨G, 1, none⟩ (.string (mkB PA.1))).heap[G]? = some (.cells #[.string (mkB MN), .string (mkB PA.1), .string ⟨#[]⟩, .int .i64 ML, .int .i64 MC] 74 (0, 0)) := setCell_heap g8 _
      have HG9 := Lib.hid g9
      have HL9 := Lib.hid (HL8.out.far G 1 (by omega) HVN.out (.string (mkB PA.1)))
      have hTk := fun W hW => takeR_any R en PA.2 ⟨#[41]⟩ W hW
      have e41 : (ByteArray.mk #[41]).data.toList = [41] := rfl
      rw [e41] at hTk
      rw [hPA]
      clear hPa hr7 hg7 g8 g9 e41 HL7 HG7 hPA
      go_wp2_with fail
      refine (hTk _ HL9.out.lo.rd).mono ?_
      clear p1 f1
      rintro e w8 ⟨rfl, hr8, hg8⟩
      have HLB := Lib.hid (HL9.out.step hr8 hg8)
      have HGB := Lib.hid (keepG HG9.out hg8 hRG)
      generalize PA.2.take en [41] = k3 at *
      have hTr := takeR_any R en k3 ⟨#[114, 101, 116, 117, 114, 110, 115]⟩ w8 hr8
      have eTr : (ByteArray.mk #[114, 101, 116, 117, 114, 110, 115]).data.toList = tReturns := rfl
      rw [eTr] at hTr
      clear hTk hr8 hg8 HL8 HL9 HG9 eTr
      go_wp2_with fail
      refine hTr.mono ?_
      rintro e w9 ⟨rfl, hr9, hg9⟩
      have HLC := Lib.hid (HLB.out.step hr9 hg9)
      have HGC := Lib.hid (keepG HGB.out hg9 hRG)
      generalize k3.take en tReturns = k4 at *
      have hTo := takeR_any R en k4 ⟨#[40]⟩ w9 hr9
      have e40 : (ByteArray.mk #[40]).data.toList = [40] := rfl
      rw [e40] at hTo
      clear hTr hr9 hg9 HLB HGB e40
      go_wp2_with fail
      refine hTo.mono ?_
      rintro e wa ⟨rfl, hra, hga⟩
      have HLD := Lib.hid (HLC.out.step hra hga)
      have HGD := Lib.hid (keepG HGC.out hga hRG)
      generalize k4.take en [40] = k5 at *
      have hPb := pathRd_any R en k5 wa hra
      clear hTo hra hga HLC HGC
      go_wp2_with fail
      refine hPb.mono ?_
      rintro e wb ⟨rfl, hrb, hgb, _⟩
      obtain ⟨PB, hPB⟩ : ∃ PB, k5.path en = PB := ⟨_, rfl⟩
      rw [hPB] at hrb HVE
      have HLE := Lib.hid (HLD.out.step hrb hgb)
      have ge := keepG HGD.out hgb hRG
      have p2 : wb.cell? ⟨G, 2, none⟩ = some (.string ⟨#[]⟩) := by simp [World.cell?, ge]
      have f2 : wb.frozen? ⟨G, 2, none⟩ = false := by simp [World.frozen?, ge]
      have gf : (wb.setCell ⟨G, 2, none⟩ (.string (mkB PB.1))).heap[G]? = some (.cells #[.string (mkB MN), .string (mkB PA.1), .string (mkB PB.1), .int .i64 ML, .int .i64 MC] 74 (0, 0)) := setCell_heap ge _
      have HGF := Lib.hid gf
      have HLF := Lib.hid (HLE.out.far G 2 (by omega) HVN.out (.string (mkB PB.1)))
      have hTk := fun W hW => takeR_any R en PB.2 ⟨#[41]⟩ W hW
      have e41 : (ByteArray.mk #[41]).data.toList = [41] := rfl
      rw [e41] at hTk
      rw [hPB]
      clear hPb hrb hgb ge gf e41 HLD HGD hPB
      go_wp2_with fail
      refine (hTk _ HLF.out.lo.rd).mono ?_
      clear p2 f2
      rintro e wc ⟨rfl, hrc, hgc⟩
      have HLH := Lib.hid (HLF.out.step hrc hgc)
      have HGH := Lib.hid (keepG HGF.out hgc hRG)
      generalize PB.2.take en [41] = k6 at *
      have hTs := takeR_any R en k6 ⟨#[59]⟩ wc hrc
      have e59 : (ByteArray.mk #[59]).data.toList = [59] := rfl
      rw [e59] at hTs
      clear hTk hrc hgc HLE HLF HGF e59
      go_wp2_with fail
      refine hTs.mono ?_
      rintro e w8 ⟨rfl, hr8, hg8⟩
      have HLA := Lib.hid (HLH.out.step hr8 hg8)
      have gA := keepG HGH.out hg8 hRG
      have p0 : w8.cell? ⟨G, 0, none⟩ = some (.string (mkB MN)) := by simp [World.cell?, gA]
      have p1 : w8.cell? ⟨G, 1, none⟩ = some (.string (mkB PA.1)) := by simp [World.cell?, gA]
      have p2 : w8.cell? ⟨G, 2, none⟩ = some (.string (mkB PB.1)) := by simp [World.cell?, gA]
      have p3 : w8.cell? ⟨G, 3, none⟩ = some (.int .i64 ML) := by simp [World.cell?, gA]
      have p4 : w8.cell? ⟨G, 4, none⟩ = some (.int .i64 MC) := by simp [World.cell?, gA]
      have d5 := HLA.out.lo.cells8.1.2.2.2.2.2.2.1
      have hVL : VAL.1 = ⟨MN, PA.1, PB.1, ML, MC⟩ := by rw [HVE.out]
      have hV2 : VAL.2 = k6.take en [59] := by rw [HVE.out]
      rw [← hV2] at HLA
      have HV1 := Lib.hid hVL
      clear hTs hr8 hg8 gA HLH HGH hVL hV2
      go_wp2_with (at_builtin; refine HLA.out.push rfl _ _ 63 rfl Tryz.underlying63 _ 64 infoMt rfl (by decide) (mrow ⟨MN, PA.1, PB.1, ML, MC⟩) rfl (by intro u hu; simp only [mrow, List.mem_cons, List.not_mem_nil, or_false] at hu; rcases hu with rfl | rfl | rfl | rfl | rfl <;> rfl) _ rfl rfl rfl (by omega) (by decide) ?_)
      intro g cap W hLW
      have HLW := Lib.hid hLW
      obtain ⟨⟨_, _, _, _, _, _, k5, _⟩, _, _, hfz⟩ := hLW.lo.cells8
      have kf := hfz 6
      clear d5 p0 p1 p2 p3 p4 hLW hfz
      go_wp2_with fail
      have HLZ : Ls w (W.setCell ⟨w.heap.size + 1, 6, none⟩ (.slice (some ⟨g, 0, none⟩) (acc.length + 1) cap)) R en VAL.2 65 z8 #[.int .i64 3, .string (mkB NM), .int .i64 PL, .int .i64 PC, .slice none 0 0, .slice none 0 0, .slice (some ⟨g, 0, none⟩) (acc.length + 1) cap, .slice none 0 0] 74 5 (.slice (some ⟨g, 0, none⟩) (acc.length + 1) cap) (acc ++ [VAL.1]).length ((acc ++ [VAL.1]).flatMap mrow) := by
        have := HLW.out.set 6 (.slice (some ⟨g, 0, none⟩) (acc.length + 1) cap)
        rw [HV1.out, List.length_append, List.flatMap_append]
        simpa using this
      go_roundw
      case rel => exact ⟨f, VAL.2, acc ++ [VAL.1], _, HLZ, by omega, by simp; omega, HNX.out⟩
      case measure =>
        have e1 := HLZ.lo.rd.m
        have e2 := HM0.out
        exact Nat.lt_of_le_of_lt (Nat.le_of_eq e1) (by rw [e2]; omega)
    · obtain rfl : VS = (acc, q) := by rw [HVQ.out, methodsL_stop en f q acc hgo]
      by_cases he : q.e = 0
      · have hi : q.is [125] = true := by
          cases hx : q.is [125] with
          | true => rfl
          | false => exact absurd ⟨he, hx⟩ hgo
        rw [hi] at hIs
        rw [he] at c5
        clear hgo hi HVQ
        go_wp2_with fail
        refine hIs.mono ?_
        rintro e w4 ⟨rfl, h4⟩
        have h4 := h4.symm
        subst h4
        go_wp2_with fail
        refine hTkE.mono ?_
        clear hIs c5
        rintro e w5 ⟨rfl, hr5, hg5⟩
        have HL5 := Lib.hid (HLs.out.step hr5 hg5)
        obtain ⟨⟨c0, c1, c2, c3, c4, c5', c6, c7⟩, ⟨a0, a1, a2, a3, a4, a5, a6, a7⟩, hf, _⟩ := HL5.out.lo.cells8
        obtain ⟨Y, hY, hRY, hGY, hBY, y0, y1, y2, y3, y4, y5, y6, y7⟩ := HL5.out.lo.final8
        have HOY : Hid (Y.ownsRow (w.heap.size + 2) 74 5 (.slice va acc.length vc) acc.length (acc.flatMap mrow)) := own_keep HL5.out.own fun b hb => hBY b (by have := (own_block HL5.out.own b hb).1; omega)
        have HY := Lib.hid hY
        have b0 := hf 0
        have b1 := hf 1
        have b2 := hf 2
        have b3 := hf 3
        have b4 := hf 4
        have b5 := hf 5
        have b6 := hf 6
        have b7 := hf 7
        clear hY hf hTkE hr5 hg5 hBY
        go_wp2_with fail
        rw [HY.out]
        rw [HEN.out]
        exact bodyPost_ret (v := dval 3 NM PL PC (.slice none 0 0) (.slice none 0 0) (.slice va acc.length vc) (.slice none 0 0)) (by unfold dval; simp [results, Tryz.results23, go_sem, y0, y1, y2, y3, y4, y5, y6, y7]) rfl ⟨_, rfl, hRY, hGY, HOY.out⟩
      · have he' : (q.e == 0) = false := by simpa using he
        clear hgo he HVQ hIs
        go_wp2_with fail
        refine hTkE.mono ?_
        clear c5
        rintro e w5 ⟨rfl, hr5, hg5⟩
        have HL5 := Lib.hid (HLs.out.step hr5 hg5)
        obtain ⟨⟨c0, c1, c2, c3, c4, c5', c6, c7⟩, ⟨a0, a1, a2, a3, a4, a5, a6, a7⟩, hf, _⟩ := HL5.out.lo.cells8
        obtain ⟨Y, hY, hRY, hGY, hBY, y0, y1, y2, y3, y4, y5, y6, y7⟩ := HL5.out.lo.final8
        have HOY : Hid (Y.ownsRow (w.heap.size + 2) 74 5 (.slice va acc.length vc) acc.length (acc.flatMap mrow)) := own_keep HL5.out.own fun b hb => hBY b (by have := (own_block HL5.out.own b hb).1; omega)
        have HY := Lib.hid hY
        have b0 := hf 0
        have b1 := hf 1
        have b2 := hf 2
        have b3 := hf 3
        have b4 := hf 4
        have b5 := hf 5
        have b6 := hf 6
        have b7 := hf 7
        clear hY hf hTkE hr5 hg5 hBY
        go_wp2_with fail
        rw [HY.out]
        rw [HEN.out]
        exact bodyPost_ret (v := dval 3 NM PL PC (.slice none 0 0) (.slice none 0 0) (.slice va acc.length vc) (.slice none 0 0)) (by unfold dval; simp [results, Tryz.results23, go_sem, y0, y1, y2, y3, y4, y5, y6, y7]) rfl ⟨_, rfl, hRY, hGY, HOY.out⟩
end Go.Proofs.YtbfkaanmbdekfaaGreatDoor
namespace Go.Proofs.YtbfkaanmbdekfaaGreatDoor
set_option linter.unusedVariables false
open Go.ChangeShapes Go.WideShapes Go.ChangeAt Go.RowKit

theorem infoFd : (Tryz.prog.info? 70).map (fun i => (i.zero, i.size, i.bytes)) = some (some (.agg #[.bool false, .string ⟨#[]⟩, .string ⟨#[]⟩, .int .i64 0, .int .i64 0, .int .i64 0]), 6, 64) := by kernel_rfl
theorem infoDc : (Tryz.prog.info? 65).map (fun i => (i.zero, i.size, i.bytes)) = some (some (.agg #[.int .i64 0, .string ⟨#[]⟩, .int .i64 0, .int .i64 0, .slice none 0 0, .slice none 0 0, .slice none 0 0, .slice none 0 0]), 8, 136) := by kernel_rfl
/-- declarations in a slice that the call itself has made: their cells, row by row, and what they lead to -/
structure Ds (f : Nat) (w : World) (base : Nat) (S : Nat → Prop) (v : Value) (ds : List Dc) (rs : List (List Value)) : Prop where
  own : w.ownsRow base 65 8 v ds.length (rs.flatMap id)
  len : rs.length = ds.length
  kids : ∀ (j : Nat) (d : Dc), ds[j]? = some d → ∃ fs vs ms ins, rs[j]? = some (drow d fs vs ms ins) ∧ Kids f w S fs vs ms ins d
theorem Ds.nil (f : Nat) (w : World) (base : Nat) (S : Nat → Prop) : Ds f w base S (.slice none 0 0) [] [] := ⟨World.ownsRow_nil _ _ _ _, rfl, fun j d h => by simp at h⟩
theorem Ds.row8 {f : Nat} {w : World} {base : Nat} {S : Nat → Prop} {v : Value} {ds : List Dc} {rs : List (List Value)} (h : Ds f w base S v ds rs) : ∀ r ∈ rs, r.length = 8 := by
  intro r hr
  obtain ⟨j, hj⟩ := List.getElem?_of_mem hr
  have hlt := (List.getElem?_eq_some_iff.1 hj).1
  have hlt2 : j < ds.length := by rw [← h.len]; exact hlt
  obtain ⟨fs, vs, ms, ins, h1, _⟩ := h.kids j (ds[j]'hlt2) (by rw [List.getElem?_eq_getElem hlt2])
  rw [hj] at h1
  rw [Option.some.inj h1]; rfl
/-- so they are declarations in memory -/
theorem Ds.held {f : Nat} {w : World} {base : Nat} {S S' : Nat → Prop} {v : Value} {ds : List Dc} {rs : List (List Value)} (h : Ds f w base S v ds rs) (hS : ∀ b, S b → S' b) (hv : ∀ b, v.ownBlock = some b → S' b) : HeldD (f + 1) w S' v ds := by
  have h8 := h.row8
  have hk := h.kids
  have hlen := h.len
  obtain ⟨hl, ⟨rfl, h0⟩ | ⟨g, cap, cur, rfl, hg, hh, h3, h4, h5, h6⟩⟩ := h.own
  · exact ⟨none, 0, by rw [h0], by omega, .inl (List.eq_nil_of_length_eq_zero h0)⟩
  · refine ⟨_, cap, rfl, h3, .inr ⟨g, 0, rfl, hv g rfl, fun j d hj => ?_⟩⟩
    obtain ⟨fs, vs, ms, ins, hr, hkd⟩ := hk j d hj
    refine ⟨fs, vs, ms, ins, fun i u hu => ?_, hkd.more hS⟩
    have hi : i < 8 := (List.getElem?_eq_some_iff.1 hu).1
    have e := flat8 rs j _ i h8 hi hr
    have hjl := (List.getElem?_eq_some_iff.1 hj).1
    rw [← h6, List.getElem?_take, if_pos (by omega), hu] at e
    simp only [World.cell?, hh]
    rw [Nat.zero_add]
    simpa using e
theorem Ds.keep {f : Nat} {w w' : World} {base : Nat} {S S' : Nat → Prop} {v : Value} {ds : List Dc} {rs : List (List Value)} (h : Ds f w base S v ds rs) (ho : ∀ b, v.ownBlock = some b → w'.heap[b]? = w.heap[b]?) (hb : ∀ b, S b → w'.heap[b]? = w.heap[b]?) (hS : ∀ b, S b → S' b) : Ds f w' base S' v ds rs :=
  ⟨own_keep h.own ho, h.len, fun j d hj => by
    obtain ⟨fs, vs, ms, ins, h1, h2⟩ := h.kids j d hj
    exact ⟨fs, vs, ms, ins, h1, (h2.old hb).more hS⟩⟩
/-- the blocks of what lies in a message: the call's own, and none of its two slices' -/
def Away (w0 wx : World) (fs ins : Value) (b : Nat) : Prop := w0.heap.size + 2 ≤ b ∧ b < wx.heap.size ∧ fs.ownBlock ≠ some b ∧ ins.ownBlock ≠ some b
/-- a message that is being read -/
structure Lm (f : Nat) (w0 wx : World) (R : Nat) (en : Int × Int) (q : Rd) (nm : List UInt8) (pl pc : Int) (fs ins : Value) (fl : List Fd) (ds : List Dc) (rs : List (List Value)) : Prop where
  lo : Lo w0 wx R en q 65 z8 #[.int .i64 1, .string (mkB nm), .int .i64 pl, .int .i64 pc, fs, .slice none 0 0, .slice none 0 0, ins]
  ownF : wx.ownsRow (w0.heap.size + 2) 70 6 fs fl.length (fl.flatMap frow)
  decls : Ds f wx (w0.heap.size + 2) (Away w0 wx fs ins) ins ds rs
  apart : ∀ b, fs.ownBlock = some b → ins.ownBlock ≠ some b
section
variable {f : Nat} {w0 wx w' : World} {R : Nat} {en : Int × Int} {q q' : Rd} {nm : List UInt8} {pl pc : Int} {fs ins : Value} {fl : List Fd} {ds : List Dc} {rs : List (List Value)}
theorem Lm.step (h : Lm f w0 wx R en q nm pl pc fs ins fl ds rs) (hr : RdAt w' R en q') (hg : wx.grownBy w' (some R)) : Lm f w0 w' R en q' nm pl pc fs ins fl ds rs := by
  have hl := h.lo.lt
  have hs := hg.size
  have hb : ∀ b, w0.heap.size + 2 ≤ b → b < wx.heap.size → w'.heap[b]? = wx.heap[b]? := fun b h1 h2 => hg.block b h2 (by intro e; cases e; omega)
  refine ⟨h.lo.step hr hg, own_keep h.ownF fun b hb' => hb b (own_block h.ownF b hb').1 (own_block h.ownF b hb').2, h.decls.keep (fun b hb' => hb b (own_block h.decls.own b hb').1 (own_block h.decls.own b hb').2) (fun b hb' => hb b hb'.1 hb'.2.1) (fun b hb' => ⟨hb'.1, by have := hb'.2.1; omega, hb'.2.2⟩), h.apart⟩
theorem Lm.alloc (h : Lm f w0 wx R en q nm pl pc fs ins fl ds rs) (o : Obj) : Lm f w0 (wx.alloc o) R en q nm pl pc fs ins fl ds rs := h.step (h.lo.rd.alloc o) (World.grownBy_alloc _ _ _)
theorem Lm.drew (h : Lm f w0 wx R en q nm pl pc fs ins fl ds rs) : Lm f w0 wx.drew R en q nm pl pc fs ins fl ds rs := h.step h.lo.rd.drew (grownBy_drew _ _)
/-- one field more, at a step of a region that draws its order -/
theorem Lm.pushF (h : Lm f w0 wx R en q nm pl pc fs ins fl ds rs) (x : Fd) {ops : Array Oper} {o : Oper} {a : Act} {K : Act → World → Prop} {Q : Exit → Act → World → Prop} {E : Prop} (hgd : o.guard = none) (s' x' : Operand)
    (ho : o.op = .call { callee := .builtin .append, args := #[s', x'], argTypes := #[61, 61] })
    (crow : Array Value) (hcs : crow = (frow x).toArray) (hs : a.eval s' = fs) (hx : a.eval x' = .slice (some ⟨wx.heap.size, 0, none⟩) 1 1) (hbd : fl.length ≤ 100000)
    (hk : ∀ g cap W, (∀ cs, Lo w0 wx R en q 65 z8 cs → Lo w0 W R en q 65 z8 cs) →
      Lm f w0 (W.setCell ⟨w0.heap.size + 1, 4, none⟩ (.slice (some ⟨g, 0, none⟩) (fl.length + 1) cap)) R en q nm pl pc (.slice (some ⟨g, 0, none⟩) (fl.length + 1) cap) ins (fl ++ [x]) ds rs → K (a.put o.dst (.slice (some ⟨g, 0, none⟩) (fl.length + 1) cap)) W) :
    if Region.wanted o (yielded ops a.tmps) = true then Oper.wp Tryz.prog o a (wx.alloc (.cells crow 70)) K Q else E := by
  subst hcs
  have hsz := h.lo.size
  have hl := h.lo.lt
  have ha := h.alloc (.cells (frow x).toArray 70)
  obtain ⟨i0, hi0, hz0, hz1, hz2⟩ := info_parts infoFd
  refine step_append_lies _ hgd s' x' 61 ho (w0.heap.size + 2) 70 i0 _ 6 64 Tryz.underlying61 hi0 hz0 hz1 hz2 rfl (by decide) fs fl.length (fl.flatMap frow) hs ha.ownF ⟨wx.heap.size, 0, none⟩ 1 1 (frow x) hx rfl ?_ ?_ (by decide) (by unfold maxLen; omega) (by omega) (by simp; omega) _ rfl ?_
  · exact World.news_of_block (cs := (frow x).toArray) (t := 70) (fr := (0, 0)) (by show (wx.heap.push _)[wx.heap.size]? = _; simp)
  · intro u hu
    simp only [frow, List.mem_cons, List.not_mem_nil, or_false] at hu
    rcases hu with rfl | rfl | rfl | rfl | rfl | rfl <;> rfl
  · intro g cap W hown hg hat hlt
    have hsa : (wx.alloc (.cells (frow x).toArray 70)).heap.size = wx.heap.size + 1 := by simp
    have hsW := hg.size
    have hb : ∀ b, b < wx.heap.size + 1 → fs.ownBlock ≠ some b → W.heap[b]? = (wx.alloc (.cells (frow x).toArray 70)).heap[b]? := fun b hb hne => hg.block b (by rw [hsa]; exact hb) (fun e => hne e.symm)
    have hlow : ∀ b, b < w0.heap.size + 2 → W.heap[b]? = wx.heap[b]? := fun b hb' => by
      rw [hb b (by omega) (fun e => by have := (own_block h.ownF b e).1; omega), alloc_heap_old _ _ _ (by omega)]
    have hLo : ∀ cs, Lo w0 wx R en q 65 z8 cs → Lo w0 W R en q 65 z8 cs := fun cs hc =>
      ⟨hc.rd.old fun b hb' => hlow b (by omega), grow_then (hc.gr.trans (World.grownBy_alloc _ _ _)) hg (fun b hb' => by left; have := (own_block h.ownF b hb').1; omega), by rw [hlow _ (by omega)]; exact hc.ans, by rw [hlow _ (by omega)]; exact hc.loc, hl⟩
    have hgb : w0.heap.size + 2 ≤ g := by
      rcases hat with e | e
      · exact (own_block h.ownF g e).1
      · rw [hsa] at e; omega
    have hgi : ins.ownBlock ≠ some g := by
      rcases hat with e | e
      · exact h.apart g e
      · intro e2; have := (own_block h.decls.own g e2).2; rw [hsa] at e; omega
    refine hk g cap W hLo ⟨(hLo _ h.lo).set 4 _, ?_, ?_, ?_⟩
    · rw [List.length_append, List.flatMap_append]
      refine own_keep (w := W) (by simpa using hown) fun b hb' => Below.heap_setCell _ _ _ _ ?_
      have e : g = b := by simpa [Value.ownBlock] using hb'
      show b ≠ w0.heap.size + 1
      omega
    · have hns : ∀ b, Away w0 wx fs ins b → b ≠ g := fun b hbA e => by
        subst e
        rcases hat with e | e
        · exact hbA.2.2.1 e
        · have := hbA.2.1; rw [hsa] at e; omega
      have hkW : ∀ b, w0.heap.size + 2 ≤ b → b < wx.heap.size → fs.ownBlock ≠ some b → (W.setCell ⟨w0.heap.size + 1, 4, none⟩ (.slice (some ⟨g, 0, none⟩) (fl.length + 1) cap)).heap[b]? = wx.heap[b]? := fun b h1 h2 h3 => by
        rw [Below.heap_setCell _ _ _ _ (by show b ≠ w0.heap.size + 1; omega), hb b (by omega) h3, alloc_heap_old _ _ _ h2]
      refine h.decls.keep (fun b hb' => hkW b (own_block h.decls.own b hb').1 (own_block h.decls.own b hb').2 (fun e => h.apart b e hb')) (fun b hb' => hkW b hb'.1 hb'.2.1 hb'.2.2.1) (fun b hb' => ⟨hb'.1, ?_, ?_, hb'.2.2.2⟩)
      · have e1 : (W.setCell ⟨w0.heap.size + 1, 4, none⟩ (.slice (some ⟨g, 0, none⟩) (fl.length + 1) cap)).heap.size = W.heap.size := by simp
        have := hb'.2.1
        rw [hsa] at hsW
        omega
      · intro e
        have e' : g = b := by simpa [Value.ownBlock] using e
        exact hns b hb' e'.symm
    · intro b hb'
      have e' : g = b := by simpa [Value.ownBlock] using hb'
      rw [← e']; exact hgi
/-- one declaration more, at a step of a region that draws its order -/
theorem Lm.pushD (h : Lm f w0 wx R en q nm pl pc fs ins fl ds rs) (x : Dc) (kf kv km ki : Value) (hkid : Kids f wx (Away w0 wx fs ins) kf kv km ki x) (hone : ∀ u ∈ drow x kf kv km ki, u.oneCell' = true) {ops : Array Oper} {o : Oper} {a : Act} {K : Act → World → Prop} {Q : Exit → Act → World → Prop} {E : Prop} (hgd : o.guard = none) (s' x' : Operand)
    (ho : o.op = .call { callee := .builtin .append, args := #[s', x'], argTypes := #[29, 29] })
    (crow : Array Value) (hcs : crow = (drow x kf kv km ki).toArray) (hs : a.eval s' = ins) (hx : a.eval x' = .slice (some ⟨wx.heap.size, 0, none⟩) 1 1) (hbd : ds.length ≤ 100000)
    (hk : ∀ g cap W, (∀ cs, Lo w0 wx R en q 65 z8 cs → Lo w0 W R en q 65 z8 cs) →
      Lm f w0 (W.setCell ⟨w0.heap.size + 1, 7, none⟩ (.slice (some ⟨g, 0, none⟩) (ds.length + 1) cap)) R en q nm pl pc fs (.slice (some ⟨g, 0, none⟩) (ds.length + 1) cap) fl (ds ++ [x]) (rs ++ [drow x kf kv km ki]) → K (a.put o.dst (.slice (some ⟨g, 0, none⟩) (ds.length + 1) cap)) W) :
    if Region.wanted o (yielded ops a.tmps) = true then Oper.wp Tryz.prog o a (wx.alloc (.cells crow 65)) K Q else E := by
  subst hcs
  have hsz := h.lo.size
  have hl := h.lo.lt
  have ha := h.alloc (.cells (drow x kf kv km ki).toArray 65)
  obtain ⟨i0, hi0, hz0, hz1, hz2⟩ := info_parts infoDc
  refine step_append_lies _ hgd s' x' 29 ho (w0.heap.size + 2) 65 i0 _ 8 136 Tryz.underlying29 hi0 hz0 hz1 hz2 rfl (by decide) ins ds.length (rs.flatMap id) hs ha.decls.own ⟨wx.heap.size, 0, none⟩ 1 1 (drow x kf kv km ki) hx rfl ?_ hone (by decide) (by unfold maxLen; omega) (by omega) (by simp; omega) _ rfl ?_
  · exact World.news_of_block (cs := (drow x kf kv km ki).toArray) (t := 65) (fr := (0, 0)) (by show (wx.heap.push _)[wx.heap.size]? = _; simp)
  · intro g cap W hown hg hat hlt
    have hsa : (wx.alloc (.cells (drow x kf kv km ki).toArray 65)).heap.size = wx.heap.size + 1 := by simp
    have hsW := hg.size
    have hb : ∀ b, b < wx.heap.size + 1 → ins.ownBlock ≠ some b → W.heap[b]? = (wx.alloc (.cells (drow x kf kv km ki).toArray 65)).heap[b]? := fun b hb hne => hg.block b (by rw [hsa]; exact hb) (fun e => hne e.symm)
    have hlow : ∀ b, b < w0.heap.size + 2 → W.heap[b]? = wx.heap[b]? := fun b hb' => by
      rw [hb b (by omega) (fun e => by have := (own_block h.decls.own b e).1; omega), alloc_heap_old _ _ _ (by omega)]
    have hLo : ∀ cs, Lo w0 wx R en q 65 z8 cs → Lo w0 W R en q 65 z8 cs := fun cs hc =>
      ⟨hc.rd.old fun b hb' => hlow b (by omega), grow_then (hc.gr.trans (World.grownBy_alloc _ _ _)) hg (fun b hb' => by left; have := (own_block h.decls.own b hb').1; omega), by rw [hlow _ (by omega)]; exact hc.ans, by rw [hlow _ (by omega)]; exact hc.loc, hl⟩
    have hgb : w0.heap.size + 2 ≤ g := by
      rcases hat with e | e
      · exact (own_block h.decls.own g e).1
      · rw [hsa] at e; omega
    have hgi : fs.ownBlock ≠ some g := by
      rcases hat with e | e
      · exact fun e2 => h.apart g e2 e
      · intro e2; have := (own_block h.ownF g e2).2; rw [hsa] at e; omega
    have hkW : ∀ b, w0.heap.size + 2 ≤ b → b < wx.heap.size → ins.ownBlock ≠ some b → (W.setCell ⟨w0.heap.size + 1, 7, none⟩ (.slice (some ⟨g, 0, none⟩) (ds.length + 1) cap)).heap[b]? = wx.heap[b]? := fun b h1 h2 h3 => by
      rw [Below.heap_setCell _ _ _ _ (by show b ≠ w0.heap.size + 1; omega), hb b (by omega) h3, alloc_heap_old _ _ _ h2]
    have hAw : ∀ b, Away w0 wx fs ins b → Away w0 (W.setCell ⟨w0.heap.size + 1, 7, none⟩ (.slice (some ⟨g, 0, none⟩) (ds.length + 1) cap)) fs (.slice (some ⟨g, 0, none⟩) (ds.length + 1) cap) b := fun b hb' => by
      refine ⟨hb'.1, ?_, hb'.2.2.1, ?_⟩
      · have e1 : (W.setCell ⟨w0.heap.size + 1, 7, none⟩ (.slice (some ⟨g, 0, none⟩) (ds.length + 1) cap)).heap.size = W.heap.size := by simp
        have := hb'.2.1
        rw [hsa] at hsW
        omega
      · intro e
        have e' : g = b := by simpa [Value.ownBlock] using e
        subst e'
        rcases hat with e | e
        · exact hb'.2.2.2 e
        · have := hb'.2.1; rw [hsa] at e; omega
    refine hk g cap W hLo ⟨(hLo _ h.lo).set 7 _, ?_, ⟨?_, ?_, ?_⟩, ?_⟩
    · exact own_keep h.ownF fun b hb' => hkW b (own_block h.ownF b hb').1 (own_block h.ownF b hb').2 (fun e => h.apart b hb' e)
    · rw [List.length_append, List.flatMap_append]
      refine own_keep (w := W) (by simpa using hown) fun b hb' => Below.heap_setCell _ _ _ _ ?_
      have e : g = b := by simpa [Value.ownBlock] using hb'
      show b ≠ w0.heap.size + 1
      omega
    · rw [List.length_append, List.length_append, h.decls.len]; rfl
    · intro j d hj
      by_cases hjl : j < ds.length
      · rw [List.getElem?_append_left hjl] at hj
        obtain ⟨f1, v1, m1, i1, hr1, hk1⟩ := h.decls.kids j d hj
        exact ⟨f1, v1, m1, i1, by rw [List.getElem?_append_left (by rw [h.decls.len]; exact hjl)]; exact hr1, (hk1.old fun b hb' => hkW b hb'.1 hb'.2.1 hb'.2.2.2).more hAw⟩
      · have hjn := (List.getElem?_eq_some_iff.1 hj).1
        rw [List.length_append] at hjn
        have hje : j = ds.length := by simp at hjn; omega
        subst hje
        rw [List.getElem?_append_right (Nat.le_refl _), Nat.sub_self] at hj
        have e : x = d := by simpa using hj
        subst e
        exact ⟨kf, kv, km, ki, by rw [← h.decls.len, List.getElem?_append_right (Nat.le_refl _), Nat.sub_self]; rfl, (hkid.old fun b hb' => hkW b hb'.1 hb'.2.1 hb'.2.2.2).more hAw⟩
    · intro b hb' e
      have e' : g = b := by simpa [Value.ownBlock] using e
      rw [← e'] at hb'
      exact hgi hb'
/-- the message is told as the answer -/
theorem Lm.final (h : Lm f w0 wx R en q nm pl pc fs ins fl ds rs) : ∃ Y, ((((((((wx.setCell ⟨w0.heap.size, 0, none⟩ (.int .i64 1)).setCell ⟨w0.heap.size, 1, none⟩ (.string (mkB nm))).setCell ⟨w0.heap.size, 2, none⟩ (.int .i64 pl)).setCell ⟨w0.heap.size, 3, none⟩ (.int .i64 pc)).setCell ⟨w0.heap.size, 4, none⟩ fs).setCell ⟨w0.heap.size, 5, none⟩ (.slice none 0 0)).setCell ⟨w0.heap.size, 6, none⟩ (.slice none 0 0)).setCell ⟨w0.heap.size, 7, none⟩ ins) = Y ∧ RdAt Y R en q ∧ w0.grownBy Y (some R) ∧
    (Y.cell? ⟨w0.heap.size, 0, none⟩ = some (.int .i64 1) ∧ Y.cell? ⟨w0.heap.size, 1, none⟩ = some (.string (mkB nm)) ∧ Y.cell? ⟨w0.heap.size, 2, none⟩ = some (.int .i64 pl) ∧ Y.cell? ⟨w0.heap.size, 3, none⟩ = some (.int .i64 pc) ∧ Y.cell? ⟨w0.heap.size, 4, none⟩ = some fs ∧ Y.cell? ⟨w0.heap.size, 5, none⟩ = some (.slice none 0 0) ∧ Y.cell? ⟨w0.heap.size, 6, none⟩ = some (.slice none 0 0) ∧ Y.cell? ⟨w0.heap.size, 7, none⟩ = some ins) ∧
    Kids (f + 1) Y (fun b => w0.heap.size + 2 ≤ b ∧ b < Y.heap.size) fs (.slice none 0 0) (.slice none 0 0) ins ⟨1, nm, pl, pc, fl, [], [], ds⟩ := by
  have hsz := h.lo.size
  obtain ⟨Y, hY, hRY, hGY, hBY, hc⟩ := h.lo.final8
  have hsY : wx.heap.size ≤ Y.heap.size := by rw [← hY]; simp
  refine ⟨Y, hY, hRY, hGY, hc, ?_, RowsIn.nil _ _ _ _ _ _, RowsIn.nil _ _ _ _ _ _, ?_⟩
  · refine rowsIn_own (k := 6) (row := frow) (xs := fl) (fun _ => rfl) (own_keep h.ownF fun b hb => hBY b (by have := (own_block h.ownF b hb).1; omega)) _ fun b hb => ?_
    have := own_block h.ownF b hb
    exact ⟨this.1, by omega⟩
  · have hd := h.decls.keep (w' := Y) (S' := Away w0 wx fs ins) (fun b hb => hBY b (by have := (own_block h.decls.own b hb).1; omega)) (fun b hb => hBY b (by have := hb.1; omega)) (fun b hb => hb)
    refine hd.held (fun b hb => ⟨hb.1, by have := hb.2.1; omega⟩) fun b hb => ?_
    have := own_block h.decls.own b hb
    exact ⟨this.1, by omega⟩
end
end Go.Proofs.YtbfkaanmbdekfaaGreatDoor
