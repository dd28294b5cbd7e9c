/-
  The walks over the program's own Formed of schemas: names, types of fields, fields, messages.
-/
import Derived.Test.YteajlfgbmefncaaGreatDoorM1
import Derived.Test.YteajlfgbmefncaaGreatDoorM11
import Derived.Test.YteajlfgbmefncaaGreatDoorM0
import Derived.Test.YteajlfgbmefncaaGreatDoorM5
import Derived.Test.YteajlfgbmefncaaGreatDoorM21
import Derived.Test.YteajlfgbmefncaaGreatDoorM7
import Derived.Lib.ItoaMem
import Derived.Lib.ItoaLen
import Derived.Deep.RegionWith
import Derived.Deep.RegionHeldLaw
import Derived.Deep.RegionLaw
namespace Go.Proofs.YteajlfgbmefncaaGreatDoor
set_option linter.unusedVariables false
open Go.ChangeShapes Go.WideShapes Go.ChangeAt Go.RowKit Go.Maps

set_option maxHeartbeats 2000000 in
theorem nameS_any (l : List UInt8) (w : World) (hl : l.length ≤ 200000000) :
    Calls Tryz.prog 48 #[.string (mkB l)] w fun e w' => e = .returned (.bool (plainL l)) ∧ Below w.heap.size w w' := by
  have hN := fun W => name_any (mkB l) W (by rw [mkB_size]; omega)
  have hR := fun W => reservedD_any (mkB l) W
  rw [mkB_list] at hR
  have HP : Hid (plainL l = (nameOf (runes (mkB l)) && !resOf l)) := rfl
  generalize plainL l = P at *
  generalize nameOf (runes (mkB l)) = a at *
  generalize resOf l = c at *
  go_enter Tryz.func48, Tryz.ntmps48
  cases a with
  | false =>
    go_wp2_with fail
    refine (hN _).mono ?_
    rintro e w1 ⟨rfl, hb⟩
    clear hN hR
    go_wp2_with fail
    go_ret
    exact ⟨retB (by rw [HP.out]; rfl), hb⟩
  | true =>
    go_wp2_with fail
    refine (hN _).mono ?_
    rintro e w1 ⟨rfl, hb⟩
    go_wp2_with fail
    refine (hR _).mono ?_
    rintro e w2 ⟨rfl, rfl⟩
    clear hN hR
    go_wp2_with fail
    go_ret
    exact ⟨retB (by rw [HP.out]; cases c <;> rfl), hb⟩
set_option maxHeartbeats 1000000 in
/-- the program's own path -/
theorem pathS0_any (s : ByteArray) (w : World) (hs : s.size ≤ 200000000) :
    Calls Tryz.prog 44 #[.string s] w fun e w' => e = .returned (.bool (pathOK s.data.toList)) ∧ Below w.heap.size w w' := by
  have hP := path_any s w hs
  have hq := pathOK_pieces s
  obtain ⟨R, hR⟩ : ∃ R, pathOK s.data.toList = R := ⟨_, rfl⟩
  rw [hR] at hq ⊢
  have HQ : Hid (∀ e w', PathAns s e w' → ∃ ad n c, e = .returned (.tuple #[.slice ad n c, .bool R])) := by
    intro e w' h
    unfold PathAns at h
    split at h
    · rename_i hc
      obtain ⟨g, c, he, _⟩ := h
      have : R = true := by rw [hq, hc.2, decide_eq_true hc.1]; rfl
      rw [this]
      exact ⟨_, _, _, he⟩
    · rename_i hc
      have : R = false := by
        rw [hq]
        by_cases h8 : (pieces s).length ≤ 8
        · have : allPlain s = false := by
            cases hz : allPlain s with
            | false => rfl
            | true => exact absurd ⟨h8, hz⟩ hc
          rw [this]; simp
        · rw [decide_eq_false h8]; rfl
      rw [this]
      exact ⟨_, _, _, h⟩
  clear hq hR
  go_enter Tryz.func44, Tryz.ntmps44
  go_wp2_with fail
  refine hP.mono ?_
  rintro e w1 ⟨hA, hb⟩
  obtain ⟨ad, n, c, rfl⟩ := HQ.out e w1 hA
  clear hP hA HQ
  go_wp2_with fail
  go_ret
  exact ⟨rfl, hb⟩
theorem pathS_any (l : List UInt8) (w : World) (hl : l.length ≤ 200000000) :
    Calls Tryz.prog 44 #[.string (mkB l)] w fun e w' => e = .returned (.bool (pathOK l)) ∧ Below w.heap.size w w' := by
  have := pathS0_any (mkB l) w (by rw [mkB_size]; exact hl)
  rw [show (mkB l).data.toList = l from rfl] at this
  exact this
set_option maxHeartbeats 4000000 in
theorem msgNumP_any (ma ea ta : Option Addr) (nm ne nt mc ec tc : Nat) (n : Int) (w : World) :
    Calls Tryz.prog 50 #[.agg #[.slice ma nm mc, .slice ea ne ec, .slice ta nt tc], .int .i64 n] w fun e w' => e = .returned (.bool (inB nm n)) ∧ Below w.heap.size w w' := by
  obtain ⟨R, hR⟩ : ∃ r, inB nm n = r := ⟨_, rfl⟩
  have HR := Lib.hid hR
  rw [hR]
  obtain ⟨Y, hY, hC, hb, -⟩ := box_new w #[.slice ma nm mc, .slice ea ne ec, .slice ta nt tc] 26
  have HY := Lib.hid hY
  have HB := Lib.hid hb
  have l0 : Y.cell? ⟨w.heap.size, 0, none⟩ = some (.slice ma nm mc) := cell_at hC 0 rfl
  clear hY hb hC hR
  go_enter Tryz.func50, Tryz.ntmps50
  go_upto_region 1 with fail
  rw [HY.out]
  by_cases h0 : 0 ≤ n
  · by_cases h1 : n < (nm : Int)
    · go_wp2_with fail
      go_ret
      exact ⟨retB (by rw [← HR.out]; unfold inB; exact (decide_eq_true (by omega)).symm), HB.out⟩
    · go_wp2_with fail
      go_ret
      exact ⟨retB (by rw [← HR.out]; unfold inB; exact (decide_eq_false (by omega)).symm), HB.out⟩
  · go_wp2_with fail
    go_ret
    exact ⟨retB (by rw [← HR.out]; unfold inB; exact (decide_eq_false (by omega)).symm), HB.out⟩
set_option maxHeartbeats 8000000 in
theorem typeP_any (ma ea ta : Option Addr) (nm ne nt mc ec tc : Nat) (y : FD) (w : World) :
    Calls Tryz.prog 74 #[.agg #[.slice ma nm mc, .slice ea ne ec, .slice ta nt tc], .agg #[.int .i64 y.num, .string (mkB y.name), .int .i64 y.kind, .bool y.rep, .int .i64 y.type]] w fun e w' => e = .returned (.bool (typB ne nm y)) ∧ Below w.heap.size w w' := by
  obtain ⟨R, hR⟩ : ∃ r, typB ne nm y = r := ⟨_, rfl⟩
  unfold typB at hR
  have HR := Lib.hid hR
  obtain ⟨Y, hY, hC, hb, hYs⟩ := box_new w #[.slice ma nm mc, .slice ea ne ec, .slice ta nt tc] 26
  obtain ⟨V, hV, hD, hVb, hVs⟩ := box_new Y #[.int .i64 y.num, .string (mkB y.name), .int .i64 y.kind, .bool y.rep, .int .i64 y.type] 51
  rw [show typB ne nm y = R from hR]
  have HY := Lib.hid hY
  have HV := Lib.hid hV
  have HB := Lib.hid (hb.trans (hVb.mono hb.size))
  rw [hYs] at hD hVb hVs
  have hC2 := (hVb.block _ (by omega)).trans hC
  have s0 : V.cell? ⟨w.heap.size, 0, none⟩ = some (.slice ma nm mc) := cell_at hC2 0 rfl
  have s1 : V.cell? ⟨w.heap.size, 1, none⟩ = some (.slice ea ne ec) := cell_at hC2 1 rfl
  have s2 : V.cell? ⟨w.heap.size, 2, none⟩ = some (.slice ta nt tc) := cell_at hC2 2 rfl
  have l2 : V.cell? ⟨w.heap.size + 1, 2, none⟩ = some (.int .i64 y.kind) := cell_at hD 2 rfl
  have l4 : V.cell? ⟨w.heap.size + 1, 4, none⟩ = some (.int .i64 y.type) := cell_at hD 4 rfl
  have hM := msgNumP_any ma ea ta nm ne nt mc ec tc y.type V
  clear hY hV hC hC2 hD hb hVb hYs hR hVs
  go_enter Tryz.func74, Tryz.ntmps74
  go_upto_region 1 with fail
  rw [HY.out, HV.out]
  generalize y.kind = kd at *
  generalize y.type = ty at *
  by_cases h9 : kd = 9
  · subst h9
    rw [if_pos rfl] at HR
    by_cases h0 : 0 ≤ ty
    · by_cases h1 : ty < (ne : Int)
      · go_wp2_with fail
        go_ret
        exact ⟨retB (by rw [← HR.out]; exact (decide_eq_true (by omega)).symm), HB.out⟩
      · go_wp2_with fail
        go_ret
        exact ⟨retB (by rw [← HR.out]; exact (decide_eq_false (by omega)).symm), HB.out⟩
    · go_wp2_with fail
      go_ret
      exact ⟨retB (by rw [← HR.out]; exact (decide_eq_false (by omega)).symm), HB.out⟩
  · rw [if_neg h9] at HR
    by_cases h10 : kd = 10
    · subst h10
      rw [if_pos rfl] at HR
      clear h9
      go_wp2_with fail
      refine hM.mono ?_
      rintro e W ⟨rfl, hbw⟩
      go_wp2_with fail
      go_ret
      exact ⟨retB (by rw [← HR.out]; rfl), HB.out.trans (hbw.mono HB.out.size)⟩
    · rw [if_neg h10] at HR
      by_cases h1 : 1 ≤ kd
      · by_cases h8 : kd ≤ 8
        · by_cases ht : ty = 0
          · subst ht
            go_wp2_with fail
            go_ret
            exact ⟨retB (by rw [← HR.out]; exact (decide_eq_true ⟨by omega, by omega, trivial⟩).symm), HB.out⟩
          · go_wp2_with fail
            go_ret
            exact ⟨retB (by rw [← HR.out, decide_eq_false (show ¬ (1 ≤ kd ∧ kd ≤ 8 ∧ ty = 0) by omega)]; exact beq_eq_false_iff_ne.2 ht), HB.out⟩
        · go_wp2_with fail
          go_ret
          exact ⟨retB (by rw [← HR.out]; exact (decide_eq_false (by omega)).symm), HB.out⟩
      · go_wp2_with fail
        go_ret
        exact ⟨retB (by rw [← HR.out]; exact (decide_eq_false (by omega)).symm), HB.out⟩
def FitF (fs : List FD) : Prop := fs.length ≤ 100000 ∧ ∀ f ∈ fs, f.name.length ≤ 100000
set_option maxHeartbeats 16000000 in
set_option maxRecDepth 20000 in
theorem fieldsP_any (ma ea ta : Option Addr) (nm ne nt mc ec tc : Nat) (fs : List FD) (v : Value) (w : World) (hf : FitF fs) (hH : RowsIn w (fun b => b < w.heap.size) 5 fdrow v fs) :
    Calls Tryz.prog 46 #[.agg #[.slice ma nm mc, .slice ea ne ec, .slice ta nt tc], v] w fun e w' => e = .returned (.bool (formF ne nm fs)) ∧ Below w.heap.size w w' := by
  have HH := Lib.hid hH
  obtain ⟨ad, cc, rfl⟩ := hH.isSl
  have HF := Lib.hid hf
  have hn0 := hf.1
  obtain ⟨R, hR⟩ : ∃ r, formF ne nm fs = r := ⟨_, rfl⟩
  have hRT : allB (atB fs (goodF ne nm fs)) fs.length = R := hR
  obtain ⟨n, hn⟩ : ∃ n, fs.length = n := ⟨_, rfl⟩
  have HN := Lib.hid hn
  rw [hR]
  rw [hn] at hn0 hRT ⊢
  have HRT := Lib.hid hRT
  obtain ⟨Y, hY, hC, hb, hYs⟩ := box_new w #[.slice ma nm mc, .slice ea ne ec, .slice ta nt tc] 26
  obtain ⟨V, hV, hM, hVb, hVs⟩ := map_new Y
  have HY := Lib.hid hY
  have HV := Lib.hid hV
  have HVB := Lib.hid (hb.trans (hVb.mono hb.size))
  rw [hYs] at hM hVb hVs
  have HSC := Lib.hid ((hVb.block _ (by omega)).trans hC)
  have HSET : Hid (IsSet 9 litS V (w.heap.size + 1) ([] : List (List UInt8))) := isSet_made _ _ hM
  have hmm := @run_makeMap Tryz.prog
  clear hH hf hn hR hRT hY hV hC hb hM hVb hYs hVs
  go_enter Tryz.func46, Tryz.ntmps46
  go_upto_region 2 with fail
  rw [HY.out, HV.out]
  clear hmm
  go_wp2_with fail
  go_loopw [6, 12] (fun u i wr => ∃ k : Nat, i = .int .i64 (k : Int) ∧ u = .int .i64 (prevN fs k) ∧ k ≤ n ∧ allB (atB fs (goodF ne nm fs)) k = true ∧ Below w.heap.size w wr ∧ wr.heap[w.heap.size]? = some (.cells #[.slice ma nm mc, .slice ea ne ec, .slice ta nt tc] 26 (0, 0)) ∧ IsSet 9 litS wr (w.heap.size + 1) (namesF fs k)) (fun _ i _ => n - (intOf i).toNat)
  case atStart => exact ⟨0, rfl, rfl, Nat.zero_le _, rfl, HVB.out, HSC.out, HSET.out⟩
  case round =>
    generalize wr = w1 at *
    obtain ⟨k, rfl, rfl, hk, hall, hbel, hsc, hset⟩ := hrel
    have HALL := Lib.hid hall
    have HB := Lib.hid hbel
    have HS := Lib.hid hsc
    have HT := Lib.hid hset
    have hsw := hbel.size
    have hl2 := hset.lt
    clear hall hbel hsc hset HVB HSC HSET
    obtain ⟨p, hp⟩ : ∃ p, prevN fs k = p := ⟨_, rfl⟩
    rw [hp]
    by_cases hkn : k < n
    · obtain ⟨y, hy⟩ : ∃ y, fs[k]? = some y := ⟨_, List.getElem?_eq_getElem (by have := HN.out; omega)⟩
      obtain ⟨g, o, c0, hsl, hg, e0, e1, e2, e3, e4⟩ := fd_at HH.out (W := w1) (fun b hb => HB.out.block b hb) hy
      rw [HN.out] at hsl
      obtain ⟨rfl, rfl⟩ := slice_two hsl
      have hnl := HF.out.2 y (List.mem_of_getElem? hy)
      have HNX := Lib.hid (namesF_step hy)
      have HPX := Lib.hid (prevN_step hy)
      have hkl := namesF_len fs k
      have HG : Hid (atB fs (goodF ne nm fs) k = (decide (p < y.num) && (fnOK y.num && (plainL y.name && (!decide (y.name ∈ namesF fs k) && typB ne nm y))))) := by
        refine (?_ : _ = _)
        rw [atB_some hy, ← hp]; rfl
      have HNO : Hid (atB fs (goodF ne nm fs) k = false → R = false) := fun h => by rw [← HRT.out]; exact allB_no h (by omega)
      have hk0 : (0 : Int) ≤ (k : Int) := by omega
      have hk1 : (k : Int) < (n : Int) := by omega
      have hwk : IntKind.i64.wrap ((k : Int) + 1) = (k : Int) + 1 := by rw [IntKind.wrap_i64]; omega
      obtain ⟨KS, hKS⟩ : ∃ K, namesF fs k = K := ⟨_, rfl⟩
      rw [hKS] at HT HNX hkl HG
      clear hsl hy hKS hp
      obtain ⟨U, hU, hC, hCb, hUs⟩ := box_new w1 #[.int .i64 y.num, .string (mkB y.name), .int .i64 y.kind, .bool y.rep, .int .i64 y.type] 51
      have HU := Lib.hid hU
      clear hU
      go_upto_region 6 with fail
      rw [HU.out]
      have l0 : U.cell? ⟨w1.heap.size, 0, none⟩ = some (.int .i64 y.num) := cell_at hC 0 rfl
      have l1 : U.cell? ⟨w1.heap.size, 1, none⟩ = some (.string (mkB y.name)) := cell_at hC 1 rfl
      have HBU := Lib.hid (HB.out.trans (hCb.mono hsw))
      have HUS := Lib.hid ((hCb.block _ (by omega)).trans HS.out)
      have HUC := Lib.hid hC
      have hus := HT.out.old (hCb.block _ hl2)
      have hfc := fnP_any y.num U
      have hpl := nameS_any y.name U (by omega)
      clear hC hCb e0 e1 e2 e3 e4
      by_cases h1 : p < y.num
      case neg =>
        go_wp2_with fail
        go_ret
        exact ⟨retB (HNO.out (by rw [HG.out, decide_eq_false (by omega)]; rfl)).symm, HBU.out⟩
      generalize fnOK y.num = B1 at *
      cases B1
      case false =>
        go_wp2_with fail
        refine hfc.mono ?_
        rintro e u1 ⟨rfl, hu1⟩
        have hu1 := hu1.symm
        subst hu1
        go_wp2_with fail
        go_ret
        exact ⟨retB (HNO.out (by rw [HG.out]; simp)).symm, HBU.out⟩
      go_wp2_with fail
      refine hfc.mono ?_
      rintro e u1 ⟨rfl, hu1⟩
      have hu1 := hu1.symm
      subst hu1
      clear hfc
      generalize plainL y.name = B2 at *
      go_wp2_with fail
      refine hpl.mono ?_
      rintro e U1 ⟨rfl, hb1⟩
      clear hpl
      have HB1 := Lib.hid (HBU.out.trans (hb1.mono HBU.out.size))
      cases B2
      case false =>
        go_wp2_with fail
        go_ret
        exact ⟨retB (HNO.out (by rw [HG.out]; simp)).symm, HB1.out⟩
      have q1 : U1.cell? ⟨w1.heap.size, 1, none⟩ = some (.string (mkB y.name)) := (hb1.cell (by simp; omega)).trans l1
      have HUC1 := Lib.hid ((hb1.block _ (by omega)).trans HUC.out)
      have HUS1 := Lib.hid ((hb1.block _ (by omega)).trans HUS.out)
      have hadd := addS_any (w.heap.size + 1) KS y.name U1 (hus.old (hb1.block _ (by omega))) (by omega) (by omega)
      have hs1 := hb1.size
      obtain ⟨B3, hB3⟩ : ∃ b, (!decide (y.name ∈ KS)) = b := ⟨_, rfl⟩
      rw [hB3] at hadd HG
      clear hB3 hb1 hus l0 l1
      go_wp2_with fail
      refine hadd.mono ?_
      rintro e U2 ⟨rfl, hset, hgr⟩
      have HB2 := Lib.hid (HB1.out.grown hgr HB1.out.size (fun b hb => by cases hb; omega))
      have h2s := (hgr.block _ (by omega) (by simp)).trans HUS1.out
      have h2c := (hgr.block _ (by omega) (by simp; omega)).trans HUC1.out
      have HSET := Lib.hid hset
      have hs2 := hgr.size
      have hl3 := hset.lt
      clear hadd hset hgr q1
      cases B3
      case false =>
        go_wp2_with fail
        go_ret
        exact ⟨retB (HNO.out (by rw [HG.out]; simp)).symm, HB2.out⟩
      have s0 : U2.cell? ⟨w.heap.size, 0, none⟩ = some (.slice ma nm mc) := cell_at h2s 0 rfl
      have s1 : U2.cell? ⟨w.heap.size, 1, none⟩ = some (.slice ea ne ec) := cell_at h2s 1 rfl
      have s2 : U2.cell? ⟨w.heap.size, 2, none⟩ = some (.slice ta nt tc) := cell_at h2s 2 rfl
      have l0 : U2.cell? ⟨w1.heap.size, 0, none⟩ = some (.int .i64 y.num) := cell_at h2c 0 rfl
      have l1 : U2.cell? ⟨w1.heap.size, 1, none⟩ = some (.string (mkB y.name)) := cell_at h2c 1 rfl
      have l2 : U2.cell? ⟨w1.heap.size, 2, none⟩ = some (.int .i64 y.kind) := cell_at h2c 2 rfl
      have l3 : U2.cell? ⟨w1.heap.size, 3, none⟩ = some (.bool y.rep) := cell_at h2c 3 rfl
      have l4 : U2.cell? ⟨w1.heap.size, 4, none⟩ = some (.int .i64 y.type) := cell_at h2c 4 rfl
      have H2S := Lib.hid h2s
      have hty := typeP_any ma ea ta nm ne nt mc ec tc y U2
      generalize typB ne nm y = B4 at *
      clear h2s h2c
      go_wp2_with fail
      refine hty.mono ?_
      rintro e U3 ⟨rfl, hb3⟩
      have HB3 := Lib.hid (HB2.out.trans (hb3.mono HB2.out.size))
      clear hty
      cases B4
      case false =>
        go_wp2_with fail
        go_ret
        exact ⟨retB (HNO.out (by rw [HG.out]; simp)).symm, HB3.out⟩
      have m0 : U3.cell? ⟨w1.heap.size, 0, none⟩ = some (.int .i64 y.num) := (hb3.cell (by simp; omega)).trans l0
      have HS3 := Lib.hid ((hb3.block _ (by omega)).trans H2S.out)
      have HT3 := Lib.hid (HSET.out.old (hb3.block _ hl3))
      clear l0 l1 l2 l3 l4 s0 s1 s2 hb3
      go_wp2_with fail
      go_roundw
      case rel => exact ⟨k + 1, by go_num, by rw [HPX.out], by omega, allB_step HALL.out (by rw [HG.out, decide_eq_true (by omega)]; rfl), HB3.out, HS3.out, by rw [HNX.out]; exact HT3.out⟩
      case measure => simp [intOf]; omega
    · have hkn' : ¬ (k : Int) < (n : Int) := by omega
      have hke : k = n := by omega
      have HRR : Hid (R = true) := by
        refine (?_ : _ = _)
        rw [← HRT.out, ← hke]; exact HALL.out
      clear hke
      go_wp2_with fail
      go_ret
      exact ⟨retB HRR.out.symm, HB.out⟩
end Go.Proofs.YteajlfgbmefncaaGreatDoor
