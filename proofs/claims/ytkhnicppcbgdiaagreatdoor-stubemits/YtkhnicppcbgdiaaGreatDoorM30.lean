/-
  The walk over the document's own clash.
-/
import Derived.Test.YtkhnicppcbgdiaaGreatDoorM29
namespace Go.Proofs.YtkhnicppcbgdiaaGreatDoor
set_option linter.unusedVariables false
open Go.ChangeShapes Go.WideShapes Go.ChangeAt Go.RowKit

theorem nodup_next {α : Type} {l : List α} {k : Nat} {x : α} (hx : l[k]? = some x) (h1 : (l.take k).Nodup) (h2 : ∀ j, j < k → l[j]? ≠ some x) : (l.take (k + 1)).Nodup := by
  have e : l.take (k + 1) = l.take k ++ [x] := by rw [List.take_add_one, hx]; rfl
  rw [e, nodup_snoc]
  refine ⟨h1, fun hm => ?_⟩
  obtain ⟨j, hj⟩ := List.getElem?_of_mem hm
  have hlt : j < k := by have := (List.getElem?_eq_some_iff.1 hj).1; rw [List.length_take] at this; omega
  rw [List.getElem?_take, if_pos hlt] at hj
  exact h2 j hlt hj
theorem nodup_two {α : Type} {l : List α} {j k : Nat} {x : α} (hj : l[j]? = some x) (hk : l[k]? = some x) (h : j < k) : ¬ l.Nodup := by
  intro hn
  have hjl := (List.getElem?_eq_some_iff.1 hj).1
  have hkl := (List.getElem?_eq_some_iff.1 hk).1
  have e1 := (List.getElem?_eq_some_iff.1 hj).2
  have e2 := (List.getElem?_eq_some_iff.1 hk).2
  exact (List.pairwise_iff_getElem.1 hn) j k hjl hkl h (by rw [e1, e2])
set_option maxHeartbeats 32000000 in
set_option maxRecDepth 20000 in
theorem clash_any (ma ea ta ra : Option Addr) (nm ne nt mc ec tc rc : Nat) (s : SC) (w : World) (hnm : s.ms.length = nm) (hnt : s.ts.length = nt) (hf : FitS s) (hH : HeldSc w (fun b => b < w.heap.size) (.slice ma nm mc) (.slice ea ne ec) (.slice ta nt tc) s) (hR : RowsIn w (fun b => b < w.heap.size) 5 rrow (.slice ra nt rc) (rowsL s)) :
    Calls Tryz.prog 21 #[.agg #[.slice ma nm mc, .slice ea ne ec, .slice ta nt tc], .slice ra nt rc] w fun e w' => ClAns s w e w' := by
  have HNM := Lib.hid hnm
  have HNT := Lib.hid hnt
  have HF := Lib.hid hf
  have hntl : nt ≤ 100000 := by rw [← hnt]; exact hf.2.2.2.1
  have hnml : nm ≤ 100000 := by rw [← hnm]; exact hf.1.1
  have HHM : Hid (HeldM w (fun b => b < w.heap.size) (.slice ma nm mc) s.ms) := hH.1
  have HHT : Hid (RowsIn w (fun b => b < w.heap.size) 5 tdrow (.slice ta nt tc) s.ts) := hH.2.2
  have HR := Lib.hid hR
  obtain ⟨Y, hY, hC, hb, hYs⟩ := box_new w #[.slice ma nm mc, .slice ea ne ec, .slice ta nt tc] 26
  have HY := Lib.hid hY
  have HBY := Lib.hid hb
  have HCY := Lib.hid hC
  have HTW : Hid (∀ W, (fun W => Below Y.heap.size Y W) W → Below w.heap.size w W) := fun W h => HBY.out.trans (h.mono HBY.out.size)
  have HCW : Hid (∀ W, (fun W => Below Y.heap.size Y W) W → W.heap[w.heap.size]? = some (.cells #[.slice ma nm mc, .slice ea ne ec, .slice ta nt tc] 26 (0, 0))) := fun W h => (h.block _ (by omega)).trans HCY.out
  clear hY hC hb hnm hnt hf hH hR
  go_enter Tryz.func21, Tryz.ntmps21
  go_upto_region 1 with fail
  rw [HY.out]
  go_wp2_with fail
  go_loopw [11] (fun i wr => ∃ k : Nat, i = .int .i64 (k : Int) ∧ k ≤ nt ∧ (∀ j, j < k → adjB s.ts j = false) ∧ ((s.ts.map keyT).take k).Nodup ∧ Below Y.heap.size Y wr) (fun i _ => nt - (intOf i).toNat)
  case atStart => exact ⟨0, rfl, Nat.zero_le _, fun j hj => absurd hj (Nat.not_lt_zero _), by simp, Below.refl _ _⟩
  case round =>
    generalize wr = w3 at *
    obtain ⟨k, rfl, hk, hadj, hnd, hbel⟩ := hrel
    have HA := Lib.hid hadj
    have HND := Lib.hid hnd
    have HB := Lib.hid hbel
    clear hadj hnd hbel
    by_cases hkn : k < nt
    · obtain ⟨t, ht⟩ : ∃ t, s.ts[k]? = some t := ⟨_, List.getElem?_eq_getElem (by rw [HNT.out]; exact hkn)⟩
      have hxr := rowsL_at ht
      obtain ⟨g, o, c, hsl, hg, hc1⟩ := rw_cells HR.out hxr
      have hra : ra = some ⟨g, o, none⟩ := (Value.slice.inj hsl).1
      subst hra
      have hk0 : (0 : Int) ≤ (k : Int) := by omega
      have hk1 : (k : Int) < (nt : Int) := by omega
      have hwk : IntKind.i64.wrap ((k : Int) + 1) = (k : Int) + 1 := by rw [IntKind.wrap_i64]; omega
      have HTT := Lib.hid ht
      have HCK : Hid (∀ W, (fun W => Below Y.heap.size Y W) W → W.cell? ⟨g, o + k * 5 + 1, none⟩ = some (.string (mkB (camC t.service))) ∧ W.cell? ⟨g, o + k * 5 + 2, none⟩ = some (.string (mkB (camC t.name)))) := fun W h => by
        obtain ⟨_, c1, c2, _, _⟩ := hc1 W ((HTW.out W h).block g hg)
        exact ⟨c1, c2⟩
      have HKK : Hid ((s.ts.map keyT)[k]? = some (camC t.service, camC t.name)) := by
        refine (?_ : _ = _)
        rw [List.getElem?_map, ht]; rfl
      clear hsl hxr ht hc1
      rcases Nat.eq_zero_or_pos k with hk00 | hkp
      · have hkc : ¬ (0 : Int) < (k : Int) := by omega
        have hkn0 : ¬ 0 < k := by omega
        have HNA : Hid (∀ j, j < k + 1 → adjB s.ts j = false) := fun j hj => by
          obtain rfl : j = 0 := by omega
          rfl
        clear hk00
        go_wp2_with fail
        go_quiet (fail)
        have hbn : Below w3.heap.size w3 (w3.drewN nq) := ⟨rfl, rfl, rfl, Nat.le_refl _, fun _ _ => rfl⟩
        have HBN := Lib.hid (HB.out.trans (hbn.mono HB.out.size))
        clear hbn
        generalize w3.drewN nq = U2 at *
        go_wp2_with fail
        go_loopw [47] (fun i wz => ∃ p : Nat, i = .int .i64 (p : Int) ∧ p ≤ k ∧ (∀ j, j < p → (s.ts.map keyT)[j]? ≠ some (camC t.service, camC t.name)) ∧ Below Y.heap.size Y wz) (fun i _ => k - (intOf i).toNat)
        case atStart => exact ⟨0, rfl, Nat.zero_le _, fun j hj => absurd hj (Nat.not_lt_zero _), HBN.out⟩
        case round =>
          generalize wr = w5 at *
          obtain ⟨p, rfl, hp, hall, hbel⟩ := hrel
          have HALL := Lib.hid hall
          have HB5 := Lib.hid hbel
          clear hall hbel
          by_cases hpn : p < k
          · obtain ⟨tp, htp⟩ : ∃ t, s.ts[p]? = some t := ⟨_, List.getElem?_eq_getElem (by rw [HNT.out]; omega)⟩
            have hxp := rowsL_at htp
            obtain ⟨g2, o2, c2, hsl2, hg2, hc2⟩ := rw_cells HR.out hxp
            obtain ⟨rfl, rfl⟩ : g = g2 ∧ o = o2 := by
              have := (Value.slice.inj hsl2).1
              simp only [Option.some.injEq, Addr.mk.injEq, and_true] at this
              exact this
            obtain ⟨_, d1, d2, _, _⟩ := hc2 w5 ((HTW.out w5 HB5.out).block g hg)
            have d1' : w5.cell? ⟨g, o + p * 5 + 1, none⟩ = some (.string (mkB (camC tp.service))) := d1
            have d2' : w5.cell? ⟨g, o + p * 5 + 2, none⟩ = some (.string (mkB (camC tp.name))) := d2
            obtain ⟨k1, k2⟩ := HCK.out w5 HB5.out
            have HKP : Hid ((s.ts.map keyT)[p]? = some (camC tp.service, camC tp.name)) := by
              refine (?_ : _ = _)
              rw [List.getElem?_map, htp]; rfl
            have hp0 : (0 : Int) ≤ (p : Int) := by omega
            have hp1 : (p : Int) < (k : Int) := by omega
            have hp2 : (p : Int) < (nt : Int) := by omega
            have hwp : IntKind.i64.wrap ((p : Int) + 1) = (p : Int) + 1 := by rw [IntKind.wrap_i64]; omega
            obtain ⟨C1, hC1⟩ : ∃ b, decide (camC tp.service = camC t.service) = b := ⟨_, rfl⟩
            obtain ⟨C2, hC2⟩ : ∃ b, decide (camC tp.name = camC t.name) = b := ⟨_, rfl⟩
            have f1 : ((mkB (camC tp.service)).toList == (mkB (camC t.service)).toList) = C1 := by rw [mk_eq, hC1]
            have f2 : ((mkB (camC tp.name)).toList == (mkB (camC t.name)).toList) = C2 := by rw [mk_eq, hC2]
            have HC1 := Lib.hid hC1
            have HC2 := Lib.hid hC2
            have HALL2 : Hid ((C1 && C2) = false → ∀ j, j < p + 1 → (s.ts.map keyT)[j]? ≠ some (camC t.service, camC t.name)) := fun h j hj => by
              by_cases hjp : j < p
              · exact HALL.out j hjp
              · obtain rfl : j = p := by omega
                rw [HKP.out]
                intro e
                have e2 := Option.some.inj e
                have e3 : camC tp.service = camC t.service := congrArg Prod.fst e2
                have e4 : camC tp.name = camC t.name := congrArg Prod.snd e2
                rw [← HC1.out, ← HC2.out, decide_eq_true e3, decide_eq_true e4] at h
                cases h
            clear htp hxp hsl2 hg2 hc2 d1 d2 hC1 hC2
            cases C1
            case false =>
              have HQ : Hid (p < k) := hpn
              try clear HNA
              try clear HTW
              try clear HCW
              try clear HCK
              try clear HKK
              try clear HA
              try clear HND
              try clear HBN
              try clear HALL
              try clear HKP
              try clear HADJ
              try clear HGO
              try clear HNX
              try clear hk0
              try clear hwk
              try clear hp2
              try clear hpn
              try clear hp
              try clear hk
              try clear hkn
              try clear hntl
              try clear hnml
              try clear hkc
              try clear hkn0
              try clear hkp
              try clear hwj
              try clear hj0
              try clear hj1
              try clear HC1
              try clear HC2
              try clear HTT
              try clear HF
              try clear HHM
              try clear HHT
              try clear HR
              try clear HY
              try clear HBY
              try clear HCY
              go_wp2_with fail
              go_quiet (fail)
              have hbn : Below w5.heap.size w5 (w5.drewN nq) := ⟨rfl, rfl, rfl, Nat.le_refl _, fun _ _ => rfl⟩
              have HB6 := Lib.hid (HB5.out.trans (hbn.mono HB5.out.size))
              clear f1 f2 d1' d2' k1 k2 hbn
              generalize w5.drewN nq = U6 at *
              go_wp2_with fail
              go_roundw
              case rel => exact ⟨p + 1, by go_num, by have := HQ.out; omega, HALL2.out (by simp), HB6.out⟩
              case measure => simp [intOf]; have := HQ.out; omega
            case true =>
              cases C2
              case false =>
                have HQ : Hid (p < k) := hpn
                try clear HNA
                try clear HTW
                try clear HCW
                try clear HCK
                try clear HKK
                try clear HA
                try clear HND
                try clear HBN
                try clear HALL
                try clear HKP
                try clear HADJ
                try clear HGO
                try clear HNX
                try clear hk0
                try clear hwk
                try clear hp2
                try clear hpn
                try clear hp
                try clear hk
                try clear hkn
                try clear hntl
                try clear hnml
                try clear hkc
                try clear hkn0
                try clear hkp
                try clear hwj
                try clear hj0
                try clear hj1
                try clear HC1
                try clear HC2
                try clear HTT
                try clear HF
                try clear HHM
                try clear HHT
                try clear HR
                try clear HY
                try clear HBY
                try clear HCY
                go_wp2_with fail
                go_quiet (fail)
                have hbn : Below w5.heap.size w5 (w5.drewN nq) := ⟨rfl, rfl, rfl, Nat.le_refl _, fun _ _ => rfl⟩
                have HB6 := Lib.hid (HB5.out.trans (hbn.mono HB5.out.size))
                clear f1 f2 d1' d2' k1 k2 hbn
                generalize w5.drewN nq = U6 at *
                go_wp2_with fail
                go_roundw
                case rel => exact ⟨p + 1, by go_num, by have := HQ.out; omega, HALL2.out (by simp), HB6.out⟩
                case measure => simp [intOf]; have := HQ.out; omega
              case true =>
                have HYES : Hid (ClashS s) := .inr (.inl (nodup_two HKP.out (by rw [of_decide_eq_true HC1.out, of_decide_eq_true HC2.out]; exact HKK.out) hpn))
                go_wp2_with fail
                go_quiet (fail)
                have hbn : Below w5.heap.size w5 (w5.drewN nq) := ⟨rfl, rfl, rfl, Nat.le_refl _, fun _ _ => rfl⟩
                have HB6 := Lib.hid (HB5.out.trans (hbn.mono HB5.out.size))
                clear f1 f2 d1' d2' k1 k2 hbn
                generalize w5.drewN nq = U6 at *
                go_wp2_with fail
                go_ret
                exact ⟨true, rfl, ⟨fun _ => HYES.out, fun _ => rfl⟩, HTW.out _ HB6.out⟩
          · obtain rfl : p = k := by omega
            have HNN := Lib.hid (nodup_next HKK.out HND.out HALL.out)
            go_wp2_with fail
            go_roundw
            case rel => exact ⟨p + 1, by go_num, by omega, HNA.out, HNN.out, HB5.out⟩
            case measure => simp [intOf]; omega
      · have hkc : (0 : Int) < (k : Int) := by omega
        obtain ⟨j, hj⟩ : ∃ j, k = j + 1 := ⟨k - 1, by omega⟩
        have hwj : IntKind.i64.wrap ((k : Int) - 1) = (j : Int) := by rw [IntKind.wrap_i64]; omega
        have hj0 : (0 : Int) ≤ (j : Int) := by omega
        have hj1 : (j : Int) < (nt : Int) := by omega
        obtain ⟨tj, htj⟩ : ∃ t, s.ts[j]? = some t := ⟨_, List.getElem?_eq_getElem (by rw [HNT.out]; omega)⟩
        have hxj := rowsL_at htj
        obtain ⟨g', o', c', hsl', hg', hc1'⟩ := rw_cells HR.out hxj
        obtain ⟨rfl, rfl⟩ : g = g' ∧ o = o' := by
          have := (Value.slice.inj hsl').1
          simp only [Option.some.injEq, Addr.mk.injEq, and_true] at this
          exact this
        have hwb := HTW.out w3 HB.out
        obtain ⟨_, b1, _, _, _⟩ := hc1' w3 (hwb.block g hg)
        have hbsv : (rowL s.ms tj).sv = camC tj.service := rfl
        rw [hbsv] at b1
        obtain ⟨ad, c0, hslt, hcc, hrows⟩ := HHT.out
        rcases hrows with h0 | ⟨gt, ot, had, hgt, hrow⟩
        · have := HTT.out; rw [h0] at this; simp at this
        have hta : ta = some ⟨gt, ot, none⟩ := by
          have := (Value.slice.inj hslt).1
          rw [this, had]
        subst hta
        have hbg := hwb.block gt hgt
        have q1 : w3.cell? ⟨gt, ot + k * 5 + 1, none⟩ = some (.string (mkB t.service)) := by
          rw [World.cell?_of_block hbg]; have := hrow k t HTT.out 1 _ rfl; simpa [Nat.add_assoc] using this
        have q2 : w3.cell? ⟨gt, ot + j * 5 + 1, none⟩ = some (.string (mkB tj.service)) := by
          rw [World.cell?_of_block hbg]; have := hrow j tj htj 1 _ rfl; simpa [Nat.add_assoc] using this
        have q0 : w3.cell? ⟨w.heap.size, 2, none⟩ = some (.slice (some ⟨gt, ot, none⟩) nt tc) := cell_at (HCW.out w3 HB.out) 2 rfl
        have p1 := (HCK.out w3 HB.out).1
        have HADJ : Hid (adjB s.ts k = (decide (t.service ≠ tj.service) && decide (camC t.service = camC tj.service))) := by
          refine (?_ : _ = _)
          have h1 := HTT.out
          rw [hj] at h1
          rw [hj, adj_at h1 htj]
        clear hrow hslt had hcc hbg hbsv hc1' hsl' hxj htj hj hwb
        obtain ⟨B1, hB1⟩ : ∃ b, decide (camC t.service = camC tj.service) = b := ⟨_, rfl⟩
        obtain ⟨B2, hB2⟩ : ∃ b, decide (t.service ≠ tj.service) = b := ⟨_, rfl⟩
        have f1 : ((mkB (camC t.service)).toList == (mkB (camC tj.service)).toList) = B1 := by rw [mk_eq, hB1]
        have f2 : ((mkB t.service).toList != (mkB tj.service).toList) = B2 := by
          rw [bne, mk_eq, ← hB2]; simp
        have f3 : ((mkB t.service).toList == (mkB tj.service).toList) = !B2 := by
          rw [mk_eq, ← hB2]; simp
        rw [hB1, hB2] at HADJ
        clear hB1 hB2
        have HGO : Hid (adjB s.ts k = true → ClashS s) := fun h => .inl ⟨k, h⟩
        have HNX : Hid ((B2 && B1) = false → ∀ j, j < k + 1 → adjB s.ts j = false) := fun h j hj => by
          by_cases hjk : j < k
          · exact HA.out j hjk
          · obtain rfl : j = k := by omega
            rw [HADJ.out, h]
        cases B2
        case false =>
          have HNA : Hid (∀ j, j < k + 1 → adjB s.ts j = false) := HNX.out (by simp)
          go_wp2_with fail
          go_quiet (fail)
          clear f1 f2 f3 b1 q0 q1 q2 p1
          have hbn : Below w3.heap.size w3 (w3.drewN nq) := ⟨rfl, rfl, rfl, Nat.le_refl _, fun _ _ => rfl⟩
          have HBN := Lib.hid (HB.out.trans (hbn.mono HB.out.size))
          clear hbn
          generalize w3.drewN nq = U2 at *
          go_wp2_with fail
          go_loopw [47] (fun i wz => ∃ p : Nat, i = .int .i64 (p : Int) ∧ p ≤ k ∧ (∀ j, j < p → (s.ts.map keyT)[j]? ≠ some (camC t.service, camC t.name)) ∧ Below Y.heap.size Y wz) (fun i _ => k - (intOf i).toNat)
          case atStart => exact ⟨0, rfl, Nat.zero_le _, fun j hj => absurd hj (Nat.not_lt_zero _), HBN.out⟩
          case round =>
            generalize wr = w5 at *
            obtain ⟨p, rfl, hp, hall, hbel⟩ := hrel
            have HALL := Lib.hid hall
            have HB5 := Lib.hid hbel
            clear hall hbel
            by_cases hpn : p < k
            · obtain ⟨tp, htp⟩ : ∃ t, s.ts[p]? = some t := ⟨_, List.getElem?_eq_getElem (by rw [HNT.out]; omega)⟩
              have hxp := rowsL_at htp
              obtain ⟨g2, o2, c2, hsl2, hg2, hc2⟩ := rw_cells HR.out hxp
              obtain ⟨rfl, rfl⟩ : g = g2 ∧ o = o2 := by
                have := (Value.slice.inj hsl2).1
                simp only [Option.some.injEq, Addr.mk.injEq, and_true] at this
                exact this
              obtain ⟨_, d1, d2, _, _⟩ := hc2 w5 ((HTW.out w5 HB5.out).block g hg)
              have d1' : w5.cell? ⟨g, o + p * 5 + 1, none⟩ = some (.string (mkB (camC tp.service))) := d1
              have d2' : w5.cell? ⟨g, o + p * 5 + 2, none⟩ = some (.string (mkB (camC tp.name))) := d2
              obtain ⟨k1, k2⟩ := HCK.out w5 HB5.out
              have HKP : Hid ((s.ts.map keyT)[p]? = some (camC tp.service, camC tp.name)) := by
                refine (?_ : _ = _)
                rw [List.getElem?_map, htp]; rfl
              have hp0 : (0 : Int) ≤ (p : Int) := by omega
              have hp1 : (p : Int) < (k : Int) := by omega
              have hp2 : (p : Int) < (nt : Int) := by omega
              have hwp : IntKind.i64.wrap ((p : Int) + 1) = (p : Int) + 1 := by rw [IntKind.wrap_i64]; omega
              obtain ⟨C1, hC1⟩ : ∃ b, decide (camC tp.service = camC t.service) = b := ⟨_, rfl⟩
              obtain ⟨C2, hC2⟩ : ∃ b, decide (camC tp.name = camC t.name) = b := ⟨_, rfl⟩
              have f1 : ((mkB (camC tp.service)).toList == (mkB (camC t.service)).toList) = C1 := by rw [mk_eq, hC1]
              have f2 : ((mkB (camC tp.name)).toList == (mkB (camC t.name)).toList) = C2 := by rw [mk_eq, hC2]
              have HC1 := Lib.hid hC1
              have HC2 := Lib.hid hC2
              have HALL2 : Hid ((C1 && C2) = false → ∀ j, j < p + 1 → (s.ts.map keyT)[j]? ≠ some (camC t.service, camC t.name)) := fun h j hj => by
                by_cases hjp : j < p
                · exact HALL.out j hjp
                · obtain rfl : j = p := by omega
                  rw [HKP.out]
                  intro e
                  have e2 := Option.some.inj e
                  have e3 : camC tp.service = camC t.service := congrArg Prod.fst e2
                  have e4 : camC tp.name = camC t.name := congrArg Prod.snd e2
                  rw [← HC1.out, ← HC2.out, decide_eq_true e3, decide_eq_true e4] at h
                  cases h
              clear htp hxp hsl2 hg2 hc2 d1 d2 hC1 hC2
              cases C1
              case false =>
                have HQ : Hid (p < k) := hpn
                try clear HNA
                try clear HTW
                try clear HCW
                try clear HCK
                try clear HKK
                try clear HA
                try clear HND
                try clear HBN
                try clear HALL
                try clear HKP
                try clear HADJ
                try clear HGO
                try clear HNX
                try clear hk0
                try clear hwk
                try clear hp2
                try clear hpn
                try clear hp
                try clear hk
                try clear hkn
                try clear hntl
                try clear hnml
                try clear hkc
                try clear hkn0
                try clear hkp
                try clear hwj
                try clear hj0
                try clear hj1
                try clear HC1
                try clear HC2
                try clear HTT
                try clear HF
                try clear HHM
                try clear HHT
                try clear HR
                try clear HY
                try clear HBY
                try clear HCY
                go_wp2_with fail
                go_quiet (fail)
                have hbn : Below w5.heap.size w5 (w5.drewN nq) := ⟨rfl, rfl, rfl, Nat.le_refl _, fun _ _ => rfl⟩
                have HB6 := Lib.hid (HB5.out.trans (hbn.mono HB5.out.size))
                clear f1 f2 d1' d2' k1 k2 hbn
                generalize w5.drewN nq = U6 at *
                go_wp2_with fail
                go_roundw
                case rel => exact ⟨p + 1, by go_num, by have := HQ.out; omega, HALL2.out (by simp), HB6.out⟩
                case measure => simp [intOf]; have := HQ.out; omega
              case true =>
                cases C2
                case false =>
                  have HQ : Hid (p < k) := hpn
                  try clear HNA
                  try clear HTW
                  try clear HCW
                  try clear HCK
                  try clear HKK
                  try clear HA
                  try clear HND
                  try clear HBN
                  try clear HALL
                  try clear HKP
                  try clear HADJ
                  try clear HGO
                  try clear HNX
                  try clear hk0
                  try clear hwk
                  try clear hp2
                  try clear hpn
                  try clear hp
                  try clear hk
                  try clear hkn
                  try clear hntl
                  try clear hnml
                  try clear hkc
                  try clear hkn0
                  try clear hkp
                  try clear hwj
                  try clear hj0
                  try clear hj1
                  try clear HC1
                  try clear HC2
                  try clear HTT
                  try clear HF
                  try clear HHM
                  try clear HHT
                  try clear HR
                  try clear HY
                  try clear HBY
                  try clear HCY
                  go_wp2_with fail
                  go_quiet (fail)
                  have hbn : Below w5.heap.size w5 (w5.drewN nq) := ⟨rfl, rfl, rfl, Nat.le_refl _, fun _ _ => rfl⟩
                  have HB6 := Lib.hid (HB5.out.trans (hbn.mono HB5.out.size))
                  clear f1 f2 d1' d2' k1 k2 hbn
                  generalize w5.drewN nq = U6 at *
                  go_wp2_with fail
                  go_roundw
                  case rel => exact ⟨p + 1, by go_num, by have := HQ.out; omega, HALL2.out (by simp), HB6.out⟩
                  case measure => simp [intOf]; have := HQ.out; omega
                case true =>
                  have HYES : Hid (ClashS s) := .inr (.inl (nodup_two HKP.out (by rw [of_decide_eq_true HC1.out, of_decide_eq_true HC2.out]; exact HKK.out) hpn))
                  go_wp2_with fail
                  go_quiet (fail)
                  have hbn : Below w5.heap.size w5 (w5.drewN nq) := ⟨rfl, rfl, rfl, Nat.le_refl _, fun _ _ => rfl⟩
                  have HB6 := Lib.hid (HB5.out.trans (hbn.mono HB5.out.size))
                  clear f1 f2 d1' d2' k1 k2 hbn
                  generalize w5.drewN nq = U6 at *
                  go_wp2_with fail
                  go_ret
                  exact ⟨true, rfl, ⟨fun _ => HYES.out, fun _ => rfl⟩, HTW.out _ HB6.out⟩
            · obtain rfl : p = k := by omega
              have HNN := Lib.hid (nodup_next HKK.out HND.out HALL.out)
              go_wp2_with fail
              go_roundw
              case rel => exact ⟨p + 1, by go_num, by omega, HNA.out, HNN.out, HB5.out⟩
              case measure => simp [intOf]; omega
        case true =>
          cases B1
          case false =>
            have HNA : Hid (∀ j, j < k + 1 → adjB s.ts j = false) := HNX.out (by simp)
            go_wp2_with fail
            go_quiet (fail)
            clear f1 f2 f3 b1 q0 q1 q2 p1
            have hbn : Below w3.heap.size w3 (w3.drewN nq) := ⟨rfl, rfl, rfl, Nat.le_refl _, fun _ _ => rfl⟩
            have HBN := Lib.hid (HB.out.trans (hbn.mono HB.out.size))
            clear hbn
            generalize w3.drewN nq = U2 at *
            go_wp2_with fail
            go_loopw [47] (fun i wz => ∃ p : Nat, i = .int .i64 (p : Int) ∧ p ≤ k ∧ (∀ j, j < p → (s.ts.map keyT)[j]? ≠ some (camC t.service, camC t.name)) ∧ Below Y.heap.size Y wz) (fun i _ => k - (intOf i).toNat)
            case atStart => exact ⟨0, rfl, Nat.zero_le _, fun j hj => absurd hj (Nat.not_lt_zero _), HBN.out⟩
            case round =>
              generalize wr = w5 at *
              obtain ⟨p, rfl, hp, hall, hbel⟩ := hrel
              have HALL := Lib.hid hall
              have HB5 := Lib.hid hbel
              clear hall hbel
              by_cases hpn : p < k
              · obtain ⟨tp, htp⟩ : ∃ t, s.ts[p]? = some t := ⟨_, List.getElem?_eq_getElem (by rw [HNT.out]; omega)⟩
                have hxp := rowsL_at htp
                obtain ⟨g2, o2, c2, hsl2, hg2, hc2⟩ := rw_cells HR.out hxp
                obtain ⟨rfl, rfl⟩ : g = g2 ∧ o = o2 := by
                  have := (Value.slice.inj hsl2).1
                  simp only [Option.some.injEq, Addr.mk.injEq, and_true] at this
                  exact this
                obtain ⟨_, d1, d2, _, _⟩ := hc2 w5 ((HTW.out w5 HB5.out).block g hg)
                have d1' : w5.cell? ⟨g, o + p * 5 + 1, none⟩ = some (.string (mkB (camC tp.service))) := d1
                have d2' : w5.cell? ⟨g, o + p * 5 + 2, none⟩ = some (.string (mkB (camC tp.name))) := d2
                obtain ⟨k1, k2⟩ := HCK.out w5 HB5.out
                have HKP : Hid ((s.ts.map keyT)[p]? = some (camC tp.service, camC tp.name)) := by
                  refine (?_ : _ = _)
                  rw [List.getElem?_map, htp]; rfl
                have hp0 : (0 : Int) ≤ (p : Int) := by omega
                have hp1 : (p : Int) < (k : Int) := by omega
                have hp2 : (p : Int) < (nt : Int) := by omega
                have hwp : IntKind.i64.wrap ((p : Int) + 1) = (p : Int) + 1 := by rw [IntKind.wrap_i64]; omega
                obtain ⟨C1, hC1⟩ : ∃ b, decide (camC tp.service = camC t.service) = b := ⟨_, rfl⟩
                obtain ⟨C2, hC2⟩ : ∃ b, decide (camC tp.name = camC t.name) = b := ⟨_, rfl⟩
                have f1 : ((mkB (camC tp.service)).toList == (mkB (camC t.service)).toList) = C1 := by rw [mk_eq, hC1]
                have f2 : ((mkB (camC tp.name)).toList == (mkB (camC t.name)).toList) = C2 := by rw [mk_eq, hC2]
                have HC1 := Lib.hid hC1
                have HC2 := Lib.hid hC2
                have HALL2 : Hid ((C1 && C2) = false → ∀ j, j < p + 1 → (s.ts.map keyT)[j]? ≠ some (camC t.service, camC t.name)) := fun h j hj => by
                  by_cases hjp : j < p
                  · exact HALL.out j hjp
                  · obtain rfl : j = p := by omega
                    rw [HKP.out]
                    intro e
                    have e2 := Option.some.inj e
                    have e3 : camC tp.service = camC t.service := congrArg Prod.fst e2
                    have e4 : camC tp.name = camC t.name := congrArg Prod.snd e2
                    rw [← HC1.out, ← HC2.out, decide_eq_true e3, decide_eq_true e4] at h
                    cases h
                clear htp hxp hsl2 hg2 hc2 d1 d2 hC1 hC2
                cases C1
                case false =>
                  have HQ : Hid (p < k) := hpn
                  try clear HNA
                  try clear HTW
                  try clear HCW
                  try clear HCK
                  try clear HKK
                  try clear HA
                  try clear HND
                  try clear HBN
                  try clear HALL
                  try clear HKP
                  try clear HADJ
                  try clear HGO
                  try clear HNX
                  try clear hk0
                  try clear hwk
                  try clear hp2
                  try clear hpn
                  try clear hp
                  try clear hk
                  try clear hkn
                  try clear hntl
                  try clear hnml
                  try clear hkc
                  try clear hkn0
                  try clear hkp
                  try clear hwj
                  try clear hj0
                  try clear hj1
                  try clear HC1
                  try clear HC2
                  try clear HTT
                  try clear HF
                  try clear HHM
                  try clear HHT
                  try clear HR
                  try clear HY
                  try clear HBY
                  try clear HCY
                  go_wp2_with fail
                  go_quiet (fail)
                  have hbn : Below w5.heap.size w5 (w5.drewN nq) := ⟨rfl, rfl, rfl, Nat.le_refl _, fun _ _ => rfl⟩
                  have HB6 := Lib.hid (HB5.out.trans (hbn.mono HB5.out.size))
                  clear f1 f2 d1' d2' k1 k2 hbn
                  generalize w5.drewN nq = U6 at *
                  go_wp2_with fail
                  go_roundw
                  case rel => exact ⟨p + 1, by go_num, by have := HQ.out; omega, HALL2.out (by simp), HB6.out⟩
                  case measure => simp [intOf]; have := HQ.out; omega
                case true =>
                  cases C2
                  case false =>
                    have HQ : Hid (p < k) := hpn
                    try clear HNA
                    try clear HTW
                    try clear HCW
                    try clear HCK
                    try clear HKK
                    try clear HA
                    try clear HND
                    try clear HBN
                    try clear HALL
                    try clear HKP
                    try clear HADJ
                    try clear HGO
                    try clear HNX
                    try clear hk0
                    try clear hwk
                    try clear hp2
                    try clear hpn
                    try clear hp
                    try clear hk
                    try clear hkn
                    try clear hntl
                    try clear hnml
                    try clear hkc
                    try clear hkn0
                    try clear hkp
                    try clear hwj
                    try clear hj0
                    try clear hj1
                    try clear HC1
                    try clear HC2
                    try clear HTT
                    try clear HF
                    try clear HHM
                    try clear HHT
                    try clear HR
                    try clear HY
                    try clear HBY
                    try clear HCY
                    go_wp2_with fail
                    go_quiet (fail)
                    have hbn : Below w5.heap.size w5 (w5.drewN nq) := ⟨rfl, rfl, rfl, Nat.le_refl _, fun _ _ => rfl⟩
                    have HB6 := Lib.hid (HB5.out.trans (hbn.mono HB5.out.size))
                    clear f1 f2 d1' d2' k1 k2 hbn
                    generalize w5.drewN nq = U6 at *
                    go_wp2_with fail
                    go_roundw
                    case rel => exact ⟨p + 1, by go_num, by have := HQ.out; omega, HALL2.out (by simp), HB6.out⟩
                    case measure => simp [intOf]; have := HQ.out; omega
                  case true =>
                    have HYES : Hid (ClashS s) := .inr (.inl (nodup_two HKP.out (by rw [of_decide_eq_true HC1.out, of_decide_eq_true HC2.out]; exact HKK.out) hpn))
                    go_wp2_with fail
                    go_quiet (fail)
                    have hbn : Below w5.heap.size w5 (w5.drewN nq) := ⟨rfl, rfl, rfl, Nat.le_refl _, fun _ _ => rfl⟩
                    have HB6 := Lib.hid (HB5.out.trans (hbn.mono HB5.out.size))
                    clear f1 f2 d1' d2' k1 k2 hbn
                    generalize w5.drewN nq = U6 at *
                    go_wp2_with fail
                    go_ret
                    exact ⟨true, rfl, ⟨fun _ => HYES.out, fun _ => rfl⟩, HTW.out _ HB6.out⟩
              · obtain rfl : p = k := by omega
                have HNN := Lib.hid (nodup_next HKK.out HND.out HALL.out)
                go_wp2_with fail
                go_roundw
                case rel => exact ⟨p + 1, by go_num, by omega, HNA.out, HNN.out, HB5.out⟩
                case measure => simp [intOf]; omega
          case true =>
            go_wp2_with fail
            go_quiet (fail)
            have hbn : Below w3.heap.size w3 (w3.drewN nq) := ⟨rfl, rfl, rfl, Nat.le_refl _, fun _ _ => rfl⟩
            have HBN := Lib.hid (HTW.out _ (HB.out.trans (hbn.mono HB.out.size)))
            clear f1 f2 f3 b1 q0 q1 q2 p1
            generalize w3.drewN nq = U2 at *
            go_wp2_with fail
            go_ret
            exact ⟨true, rfl, ⟨fun _ => HGO.out (by rw [HADJ.out]; rfl), fun _ => rfl⟩, HBN.out⟩
    · obtain rfl : k = nt := by omega
      have HNADJ : Hid (∀ j, adjB s.ts j = false) := fun j => by
        by_cases h : j < k
        · exact HA.out j h
        · exact adj_end _ _ (by rw [HNT.out]; omega)
      have hN0 := HND.out
      rw [List.take_of_length_le (by rw [List.length_map, HNT.out]; omega)] at hN0
      have HND1 := Lib.hid hN0
      clear hN0 HND HA
      have c0 : w3.cell? ⟨w.heap.size, 0, none⟩ = some (.slice ma nm mc) := cell_at (HCW.out w3 HB.out) 0 rfl
      go_wp2_with fail
      clear c0
      go_loopw [79] (fun i wr => ∃ q : Nat, i = .int .i64 (q : Int) ∧ q ≤ nm ∧ ((s.ms.map keyM).take q).Nodup ∧ Below Y.heap.size Y wr) (fun i _ => nm - (intOf i).toNat)
      case atStart => exact ⟨0, rfl, Nat.zero_le _, by simp, HB.out⟩
      case round =>
        generalize wr = w4 at *
        obtain ⟨q, rfl, hq, hnd, hbel⟩ := hrel
        have HNDM := Lib.hid hnd
        have HB4 := Lib.hid hbel
        clear hnd hbel HB
        by_cases hqn : q < nm
        · obtain ⟨y, hy⟩ : ∃ y, s.ms[q]? = some y := ⟨_, List.getElem?_eq_getElem (by rw [HNM.out]; exact hqn)⟩
          obtain ⟨gm, om, cm, ka, kc, hsl, hgm, q0, _, _⟩ := HeldN.at HHM.out (fun _ _ => rfl) hy
          have hma : ma = some ⟨gm, om, none⟩ := (Value.slice.inj hsl).1
          subst hma
          have hyl := (HF.out.2.1 y (List.mem_of_getElem? hy)).1
          have HYK : Hid ((s.ms.map keyM)[q]? = some (undL y.name)) := by
            refine (?_ : _ = _)
            rw [List.getElem?_map, hy]; rfl
          have a0 : ∀ W, (fun W => Below Y.heap.size Y W) W → W.cell? ⟨gm, om + q * 2, none⟩ = some (.string (mkB y.name)) := fun W h => by rw [World.cell?_of_block ((HTW.out W h).block gm hgm)]; exact q0
          have HA0 := Lib.hid a0
          have hk0 : (0 : Int) ≤ (q : Int) := by omega
          have hk1 : (q : Int) < (nm : Int) := by omega
          have hwk : IntKind.i64.wrap ((q : Int) + 1) = (q : Int) + 1 := by rw [IntKind.wrap_i64]; omega
          clear hsl hy q0 a0
          go_wp2_with fail
          go_loopw [83] (fun i wz => ∃ p : Nat, i = .int .i64 (p : Int) ∧ p ≤ q ∧ (∀ j, j < p → (s.ms.map keyM)[j]? ≠ some (undL y.name)) ∧ Below Y.heap.size Y wz) (fun i _ => q - (intOf i).toNat)
          case atStart => exact ⟨0, rfl, Nat.zero_le _, fun j hj => absurd hj (Nat.not_lt_zero _), HB4.out⟩
          case round =>
            generalize wr = w5 at *
            obtain ⟨p, rfl, hp, hall, hbel⟩ := hrel
            have HALL := Lib.hid hall
            have HB5 := Lib.hid hbel
            clear hall hbel
            by_cases hpn : p < q
            · obtain ⟨z, hz⟩ : ∃ z, s.ms[p]? = some z := ⟨_, List.getElem?_eq_getElem (by rw [HNM.out]; omega)⟩
              obtain ⟨gm', om', cm', ka', kc', hsl', hgm', q0', _, _⟩ := HeldN.at HHM.out (fun _ _ => rfl) hz
              obtain ⟨rfl, rfl⟩ : gm = gm' ∧ om = om' := by
                have := (Value.slice.inj hsl').1
                simp only [Option.some.injEq, Addr.mk.injEq, and_true] at this
                exact this
              have hzl := (HF.out.2.1 z (List.mem_of_getElem? hz)).1
              have HZK : Hid ((s.ms.map keyM)[p]? = some (undL z.name)) := by
                refine (?_ : _ = _)
                rw [List.getElem?_map, hz]; rfl
              have b0 : ∀ W, (fun W => Below Y.heap.size Y W) W → W.cell? ⟨gm, om + p * 2, none⟩ = some (.string (mkB z.name)) := fun W h => by rw [World.cell?_of_block ((HTW.out W h).block gm hgm)]; exact q0'
              have a0 := HA0.out
              have s0 : ∀ W, (fun W => Below Y.heap.size Y W) W → W.cell? ⟨w.heap.size, 0, none⟩ = some (.slice (some ⟨gm, om, none⟩) nm mc) := fun W h => cell_at (HCW.out W h) 0 rfl
              have hp0 : (0 : Int) ≤ (p : Int) := by omega
              have hp1 : (p : Int) < (q : Int) := by omega
              have hp2 : (p : Int) < (nm : Int) := by omega
              have hwp : IntKind.i64.wrap ((p : Int) + 1) = (p : Int) + 1 := by rw [IntKind.wrap_i64]; omega
              obtain ⟨B, hB⟩ : ∃ B, decide (undL z.name = undL y.name) = B := ⟨_, rfl⟩
              have fB : ((mkB (undL z.name)).toList == (mkB (undL y.name)).toList) = B := by rw [mk_eq, hB]
              have HBB := Lib.hid hB
              clear hz hsl' hgm' q0' hB
              go_upto_region 19 with fail
              have hS0 : (fun W => Below Y.heap.size Y W) w5.drew := HB5.out.drew
              refine wp_region_held_drew (S := (fun W => Below Y.heap.size Y W)) (by kernel_rfl) hS0 (fun _ => ?_)
              refine T_on 0 (.pointer (some ⟨w.heap.size, 0, none⟩)) rfl (by kernel_rfl) (fun _ _ _ h => h) hS0 (fun W hW => by go_simp) ?_
              refine T_on 1 (.slice (some ⟨gm, om, none⟩) nm mc) rfl (by kernel_rfl) (fun _ _ _ h => h) hS0 (fun W hW => by have c0 := s0 W hW; go_simp) ?_
              refine T_on 2 (.int .i64 (p : Int)) rfl (by kernel_rfl) (fun _ _ _ h => h) hS0 (fun W hW => by go_simp) ?_
              refine T_on 3 (.pointer (some ⟨gm, om + p * 2, none⟩)) rfl (by kernel_rfl) (fun _ _ _ h => h) hS0 (fun W hW => by go_simp) ?_
              refine T_on 4 (.pointer (some ⟨gm, om + p * 2, none⟩)) rfl (by kernel_rfl) (fun _ _ _ h => h) hS0 (fun W hW => by go_simp) ?_
              refine T_on 5 (.string (mkB z.name)) rfl (by kernel_rfl) (fun _ _ _ h => h) hS0 (fun W hW => by have c0 := b0 W hW; go_simp) ?_
              refine T_on 7 (.pointer (some ⟨w.heap.size, 0, none⟩)) rfl (by kernel_rfl) (fun _ _ _ h => h) hS0 (fun W hW => by go_simp) ?_
              refine T_on 8 (.slice (some ⟨gm, om, none⟩) nm mc) rfl (by kernel_rfl) (fun _ _ _ h => h) hS0 (fun W hW => by have c0 := s0 W hW; go_simp) ?_
              refine T_on 9 (.int .i64 (q : Int)) rfl (by kernel_rfl) (fun _ _ _ h => h) hS0 (fun W hW => by go_simp) ?_
              refine T_on 10 (.pointer (some ⟨gm, om + q * 2, none⟩)) rfl (by kernel_rfl) (fun _ _ _ h => h) hS0 (fun W hW => by go_simp) ?_
              refine T_on 11 (.pointer (some ⟨gm, om + q * 2, none⟩)) rfl (by kernel_rfl) (fun _ _ _ h => h) hS0 (fun W hW => by go_simp) ?_
              refine T_on 12 (.string (mkB y.name)) rfl (by kernel_rfl) (fun _ _ _ h => h) hS0 (fun W hW => by have c0 := a0 W hW; go_simp) ?_
              refine T_call 6 (by kernel_rfl) rfl (fun K hK => ?_)
              go_simp
              refine (underR_any z.name _ hzl).mono ?_
              rintro e U1 ⟨rfl, hb⟩
              have hS1 : (fun W => Below Y.heap.size Y W) U1 := hS0.trans (hb.mono hS0.size)
              clear hb hS0
              have hS0 := hS1
              clear hS1
              dsimp only
              refine hK.out _ _ hS0 (fun _ => ?_)
              clear hK K
              refine T_call 13 (by kernel_rfl) rfl (fun K hK => ?_)
              go_simp
              refine (underR_any y.name _ hyl).mono ?_
              rintro e U2 ⟨rfl, hb⟩
              have hS1 : (fun W => Below Y.heap.size Y W) U2 := hS0.trans (hb.mono hS0.size)
              clear hb hS0
              have hS0 := hS1
              clear hS1
              dsimp only
              refine hK.out _ _ hS0 (fun _ => ?_)
              clear hK K
              refine T_on 14 (.bool B) rfl (by kernel_rfl) (fun _ _ _ h => h) hS0 (fun W hW => by go_simp) ?_
              refine wpAnyH_done (by kernel_rfl) ?_ _
              go_simp
              have HB6 := Lib.hid hS0
              clear hS0 s0 b0 a0 fB
              cases B
              case false =>
                have HALL2 : Hid (∀ j, j < p + 1 → (s.ms.map keyM)[j]? ≠ some (undL y.name)) := fun j hj => by
                  by_cases hjp : j < p
                  · exact HALL.out j hjp
                  · obtain rfl : j = p := by omega
                    rw [HZK.out]
                    intro e
                    exact absurd (Option.some.inj e) (of_decide_eq_false HBB.out)
                go_wp2_with fail
                go_roundw
                case rel => exact ⟨p + 1, by go_num, by omega, HALL2.out, HB6.out⟩
                case measure => simp [intOf]; omega
              case true =>
                have HYES : Hid (ClashS s) := .inr (.inr (nodup_two HZK.out (by rw [of_decide_eq_true HBB.out]; exact HYK.out) hpn))
                go_wp2_with fail
                go_ret
                exact ⟨true, rfl, ⟨fun _ => HYES.out, fun _ => rfl⟩, HTW.out _ HB6.out⟩
            · obtain rfl : p = q := by omega
              have HNN := Lib.hid (nodup_next HYK.out HNDM.out HALL.out)
              go_wp2_with fail
              go_roundw
              case rel => exact ⟨p + 1, by go_num, by omega, HNN.out, HB5.out⟩
              case measure => simp [intOf]; omega
        · obtain rfl : q = nm := by omega
          have hN0 := HNDM.out
          rw [List.take_of_length_le (by rw [List.length_map, HNM.out]; omega)] at hN0
          have HNO : Hid (¬ ClashS s) := by
            rintro (⟨i, hi⟩ | h | h)
            · rw [HNADJ.out i] at hi; cases hi
            · exact h HND1.out
            · exact h hN0
          clear hN0
          go_wp2_with fail
          go_ret
          exact ⟨false, rfl, ⟨(fun h => by cases h), fun h => absurd h HNO.out⟩, HTW.out _ HB4.out⟩
end Go.Proofs.YtkhnicppcbgdiaaGreatDoor
