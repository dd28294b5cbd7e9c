/-
  The walk over the law StubRows.
-/
import Derived.Test.YtgfpoglbphceaaaGreatDoorM35
namespace Go.Proofs.YtgfpoglbphceaaaGreatDoor
set_option linter.unusedVariables false
open Go.ChangeShapes Go.WideShapes Go.ChangeAt Go.RowKit

/-- rows with short names -/
def ShortR (r : Rw) : Prop := r.sv.length + r.mt.length + r.inn.length + r.out.length ≤ 2000
def FitS2 (r : Rw) : Prop := (-9223372036854775808 ≤ r.id ∧ r.id ≤ 9223372036854775807) ∧ ShortR r
theorem fit_of_short {r : Rw} (h : FitS2 r) : FitRw r := by
  obtain ⟨h1, h2⟩ := h
  unfold ShortR at h2
  exact ⟨h1, by omega, by omega, by omega, by omega⟩
theorem ml_lenS (r : Rw) (h : FitS2 r) : (mlL r).length ≤ 4200 := by
  obtain ⟨⟨f0, f0b⟩, h2⟩ := h
  have := Lib.itoa_length_le r.id f0 f0b
  unfold ShortR at h2
  unfold mlL
  simp only [List.length_append, show wFunc.length = 8 from rfl, show wClient.length = 8 from rfl, show wIn.length = 4 from rfl, show wMid.length = 3 from rfl, show wStat.length = 9 from rfl, show wCall.length = 15 from rfl, show wCaller.length = 12 from rfl, show wEnd.length = 7 from rfl]
  omega
theorem ty_lenS (r : Rw) (h : FitS2 r) : (tyL r.sv).length ≤ 2100 := by
  obtain ⟨_, h2⟩ := h
  unfold ShortR at h2
  unfold tyL
  simp only [List.length_append, show wType.length = 5 from rfl, show wStruct.length = 23 from rfl]
  omega
theorem c2_lenS (r : Rw) (h : FitS2 r) : (c2L r).length ≤ 2100 := by
  obtain ⟨_, h2⟩ := h
  unfold ShortR at h2
  unfold c2L
  simp only [List.length_append, show wRet.length = 11 from rfl, show wUnder.length = 1 from rfl, show wInDot.length = 5 from rfl, show wClose.length = 2 from rfl]
  omega
theorem head_lenS : ∀ (l : List Rw) (p : Option (List UInt8)), (∀ r ∈ l, FitS2 r) → (flatT (headL p l)).length ≤ 8000 * l.length
  | [], p, _ => by unfold headL flatT; simp
  | r :: t, p, h => by
    have ih := head_lenS t (some r.sv) fun x hx => h x (List.mem_cons_of_mem _ hx)
    have h1 := ml_lenS r (h r List.mem_cons_self)
    have h2 := ty_lenS r (h r List.mem_cons_self)
    rw [head_stepP, List.length_append, List.length_append, flat_two, List.length_cons]
    have : (if p = some r.sv then [] else flatT [tyL r.sv, []]).length ≤ 2102 := by
      split
      · simp
      · rw [flat_two]; omega
    omega
theorem case_lenS : ∀ (l : List Rw), (∀ r ∈ l, FitS2 r) → (flatT (caseL l)).length ≤ 8000 * l.length
  | [], _ => by unfold caseL flatT; simp
  | r :: t, h => by
    have ih := case_lenS t fun x hx => h x (List.mem_cons_of_mem _ hx)
    have h1 := c1_len r (fit_of_short (h r List.mem_cons_self))
    have h2 := c2_lenS r (h r List.mem_cons_self)
    rw [case_step, List.length_append, List.length_append, flat_one, flat_one, List.length_cons]
    omega
theorem text_lenS (l : List Rw) (h : ∀ r ∈ l, FitS2 r) : (textT none l).length ≤ 16000 * l.length + 1000 := by
  have h1 := head_lenS l none h
  have h2 := case_lenS l h
  rw [text_partsN, tail_parts]
  simp only [List.length_append, show (flatT [wPack, []]).length = 15 from rfl, show (flatT [wDisp, wSwitch]).length = 71 from rfl, show (flatT [wE1, wE2, wE3]).length = 32 from rfl]
  omega
/-- rows that are right are read of the document's text of them -/
theorem right_read (l : List Rw) (h : rightLs 0 l = true) : readP (textT none l) = some l := by
  obtain ⟨a, b⟩ := rightLs_iff l 0 h
  rw [textT_first l (sv_ne a)]
  exact read_text l a b
theorem mkB_zI (l : List UInt8) : ((mkB l).size : Int) = (l.length : Int) := by rw [mkB_sz]
theorem ret_rows {w w' : World} {e : Ending} {R : Option (List Rw)} {T : Nat} (h : ReadAns T w R e w') : Below w.heap.size w w' := by
  cases R with
  | none => exact h.2
  | some l => obtain ⟨v, _, _, h⟩ := h; exact h

set_option maxHeartbeats 8000000 in
set_option maxRecDepth 20000 in
theorem stubRows_any (ra : Option Addr) (n rc : Nat) (xs : List Rw) (w : World) (hT : Tabs w) (hP : Pow w) (hM : Mx w) (hn : xs.length = n) (hn2 : n ≤ 140737488355328) (hfit : ∀ x ∈ xs, BigW x) (hX : RowsIn w (fun b => b < w.heap.size) 5 rrow (.slice ra n rc) xs) :
    Calls Tryz.prog 7 #[.slice ra n rc] w fun e w' => e = .returned (.bool true) ∧ Below w.heap.size w w' := by
  have HT := Lib.hid hT
  have HP := Lib.hid hP
  have HM := Lib.hid hM
  have HN := Lib.hid hn
  have HF := Lib.hid hfit
  have HX := Lib.hid hX
  have hA := awake13_any w hM
  clear hT hP hM hn hfit hX
  go_enter Tryz.func7, Tryz.ntmps7
  go_wp2_with fail
  refine hA.mono ?_
  rintro e w1 ⟨rfl, hb⟩
  have HB1 := Lib.hid hb
  clear hA hb
  by_cases hl : 30 < n
  · have hli : (30 : Int) < (n : Int) := by omega
    have hA2 := awake13_any w1 (HM.out.below HB1.out)
    go_wp2_with fail
    refine hA2.mono ?_
    rintro e w2 ⟨rfl, hb⟩
    go_wp2_with fail
    go_ret
    exact ⟨rfl, HB1.out.trans (hb.mono HB1.out.size)⟩
  have hli : ¬ (30 : Int) < (n : Int) := by omega
  go_wp2_with fail
  go_loopw [18] (fun i wr => ∃ (k : Nat), k ≤ n ∧ i = .int .i64 (k : Int) ∧ (∀ (j : Nat) (x : Rw), j < k → xs[j]? = some x → ShortR x) ∧ Below w.heap.size w wr) (fun i _ => n - (intOf i).toNat)
  case atStart => exact ⟨0, Nat.zero_le _, rfl, fun j x hj => absurd hj (Nat.not_lt_zero _), HB1.out⟩
  case round =>
    generalize wr = w3 at *
    obtain ⟨k, hk, rfl, hall, hB⟩ := hrel
    have HA := Lib.hid hall
    have HB := Lib.hid hB
    clear hall hB HB1
    by_cases hkn : k < n
    · obtain ⟨x, hx⟩ : ∃ x, xs[k]? = some x := ⟨_, List.getElem?_eq_getElem (by rw [HN.out]; exact hkn)⟩
      obtain ⟨_, f1, f2, f3, f4⟩ := HF.out x (List.mem_of_getElem? hx)
      obtain ⟨g, o, c, hsl, hg, hc1⟩ := rw_cells HX.out hx
      have hra : ra = some ⟨g, o, none⟩ := (Value.slice.inj hsl).1
      subst hra
      obtain ⟨e0, e1, e2, e3, e4⟩ := hc1 w3 (HB.out.block g hg)
      have hk0 : (0 : Int) ≤ (k : Int) := by omega
      have hk1 : (k : Int) < (n : Int) := by omega
      have hwk : IntKind.i64.wrap ((k : Int) + 1) = (k : Int) + 1 := by rw [IntKind.wrap_i64]; omega
      have z1 := mkB_zI x.sv
      have z2 := mkB_zI x.mt
      have z3 := mkB_zI x.inn
      have z4 := mkB_zI x.out
      have hw1 : IntKind.i64.wrap (((mkB x.sv).size : Int) + ((mkB x.mt).size : Int)) = ((mkB x.sv).size : Int) + ((mkB x.mt).size : Int) := by rw [IntKind.wrap_i64]; omega
      have hw2 : IntKind.i64.wrap (((mkB x.sv).size : Int) + ((mkB x.mt).size : Int) + ((mkB x.inn).size : Int)) = ((mkB x.sv).size : Int) + ((mkB x.mt).size : Int) + ((mkB x.inn).size : Int) := by rw [IntKind.wrap_i64]; omega
      have hw3 : IntKind.i64.wrap (((mkB x.sv).size : Int) + ((mkB x.mt).size : Int) + ((mkB x.inn).size : Int) + ((mkB x.out).size : Int)) = ((mkB x.sv).size : Int) + ((mkB x.mt).size : Int) + ((mkB x.inn).size : Int) + ((mkB x.out).size : Int) := by rw [IntKind.wrap_i64]; omega
      have HXE : Hid (xs[k]? = some x) := hx
      have HS : Hid (ShortR x ↔ ¬ (2000 : Int) < ((mkB x.sv).size : Int) + ((mkB x.mt).size : Int) + ((mkB x.inn).size : Int) + ((mkB x.out).size : Int)) := by
        refine (?_ : _ ↔ _)
        unfold ShortR
        omega
      clear hx hsl hc1 z1 z2 z3 z4 f1 f2 f3 f4
      by_cases hsh : (2000 : Int) < ((mkB x.sv).size : Int) + ((mkB x.mt).size : Int) + ((mkB x.inn).size : Int) + ((mkB x.out).size : Int)
      · go_wp2_with fail
        go_quiet (fail)
        have hbn : Below w3.heap.size w3 (w3.drewN nq) := ⟨rfl, rfl, rfl, Nat.le_refl _, fun _ _ => rfl⟩
        have HB2 := Lib.hid (HB.out.trans (hbn.mono HB.out.size))
        generalize w3.drewN nq = w4 at *
        go_wp2_with fail
        go_ret
        exact ⟨rfl, HB2.out⟩
      · have HE2 : Hid (∀ (j : Nat) (y : Rw), j < k + 1 → xs[j]? = some y → ShortR y) := by
          refine (?_ : ∀ _ _ _ _, _)
          intro j y hj hy
          by_cases hjk : j < k
          · exact HA.out j y hjk hy
          · obtain rfl : j = k := by omega
            rw [HXE.out] at hy
            obtain rfl := Option.some.inj hy
            exact HS.out.2 hsh
        go_wp2_with fail
        go_quiet (fail)
        have hbn : Below w3.heap.size w3 (w3.drewN nq) := ⟨rfl, rfl, rfl, Nat.le_refl _, fun _ _ => rfl⟩
        have HB2 := Lib.hid (HB.out.trans (hbn.mono HB.out.size))
        generalize w3.drewN nq = w4 at *
        go_wp2_with fail
        go_roundw
        case rel => exact ⟨k + 1, by omega, by go_num, HE2.out, HB2.out⟩
        case measure => simp [intOf]; omega
    · have hS2 : ∀ r ∈ xs, FitS2 r := fun r hr => by
        obtain ⟨j, hj⟩ := List.getElem?_of_mem hr
        exact ⟨(HF.out r hr).1, HA.out j r (by have := (List.getElem?_eq_some_iff.1 hj).1; rw [HN.out] at this; omega) hj⟩
      have HFW : Hid (∀ r ∈ xs, FitRw r) := fun r hr => fit_of_short (hS2 r hr)
      have htl := text_lenS xs hS2
      rw [HN.out] at htl
      have HRR := Lib.hid (right_read xs)
      have hn3 : n ≤ 1000000 := by omega
      have ht1 := textR_any ra n rc xs w3 (HP.out.below HB.out) HN.out hn3 HFW.out (rows_mv HX.out HB.out)
      have htl2 : (textT none xs).length ≤ 1000000 := by omega
      obtain ⟨T, hTT⟩ : ∃ T, textT none xs = T := ⟨_, rfl⟩
      have HTT := Lib.hid hTT
      rw [hTT] at ht1 htl2 HRR
      have hsame := read_eq T
      have HFIT : Hid (∀ l, readP T = some l → l.length ≤ 1000000) := fun l h => readP_fit h htl2
      obtain ⟨R, hR⟩ : ∃ R, readP T = R := ⟨_, rfl⟩
      have HR := Lib.hid hR
      rw [hR] at hsame HFIT HRR
      have HSAME := Lib.hid hsame
      clear HA hS2 htl hTT hR hsame
      go_wp2_with fail
      refine ht1.mono ?_
      rintro e w4 ⟨rfl, hb⟩
      have HB4 := Lib.hid (HB.out.trans (hb.mono HB.out.size))
      clear hb ht1
      have hr1 := readP_any T w4 (HM.out.below HB4.out) (HP.out.below HB4.out) htl2
      rw [HR.out] at hr1
      go_wp2_with fail
      refine hr1.mono ?_
      intro e w5 hA2
      have HB5 := Lib.hid (HB4.out.trans ((ret_rows hA2).mono HB4.out.size))
      clear hr1
      have ht2 := textR_any ra n rc xs w5 (HP.out.below HB5.out) HN.out hn3 HFW.out (rows_mv HX.out HB5.out)
      rw [HTT.out] at ht2
      cases R with
      | none =>
        obtain ⟨rfl, hb⟩ := hA2
        have hrl : rightLs 0 xs = false := by
          rw [Bool.eq_false_iff]
          intro h
          have := HRR.out h
          cases this
        clear hb
        go_wp2_with fail
        refine ht2.mono ?_
        rintro e w6 ⟨rfl, hb⟩
        have HB6 := Lib.hid (HB5.out.trans (hb.mono HB5.out.size))
        clear hb ht2
        have hr2 := readR_any T w6 (tabs_below HT.out HB6.out) (HP.out.below HB6.out) htl2
        rw [← HSAME.out] at hr2
        go_wp2_with fail
        refine hr2.mono ?_
        rintro e w6b ⟨rfl, hb⟩
        have HB6b := Lib.hid (HB6.out.trans (hb.mono HB6.out.size))
        clear hb hr2
        have hrt := right_any ra n rc xs w6b (tabs_below HT.out HB6b.out) HN.out hn3 HFW.out (rows_mv HX.out HB6b.out)
        rw [hrl] at hrt
        clear hrl
        go_wp2_with fail
        refine hrt.mono ?_
        rintro e w7 ⟨rfl, hb⟩
        have HB7 := Lib.hid (HB6b.out.trans (hb.mono HB6b.out.size))
        clear hb hrt
        have ho := ours_any none 0 0 [] w7 rfl (by omega) ⟨none, 0, rfl, Nat.le_refl _, .inl rfl⟩
        go_wp2_with fail
        refine ho.mono ?_
        rintro e w8 ⟨v, rfl, hO, hb⟩
        have HB8 := Lib.hid (HB7.out.trans (hb.mono HB7.out.size))
        obtain ⟨va, vc, rfl⟩ := own_slice hO
        have hs := sameRows_any va none 0 0 vc 0 [] [] (fun b => b < w8.heap.size) w8 rfl rfl (by omega) (by omega) (rwP_in hO) ⟨none, 0, rfl, Nat.le_refl _, .inl rfl⟩
        rw [decide_eq_true rfl] at hs
        simp only [List.length_nil]
        clear hb ho hO
        go_wp2_with fail
        refine hs.mono ?_
        rintro e w9 ⟨rfl, hb⟩
        have HB9 := Lib.hid (HB8.out.trans (hb.mono HB8.out.size))
        clear hb hs
        go_wp2_with fail
        go_ret
        exact ⟨rfl, HB9.out⟩
      | some l =>
        obtain ⟨v1, rfl, hO1, hb5⟩ := hA2
        have hll := HFIT.out l rfl
        obtain ⟨a1, c1, rfl⟩ := own_slice hO1
        have HI1 := Lib.hid (rwP_in hO1)
        clear hO1 hb5
        go_wp2_with fail
        refine ht2.mono ?_
        rintro e w6 ⟨rfl, hb⟩
        have HB6 := Lib.hid (HB5.out.trans (hb.mono HB5.out.size))
        have HI2 := Lib.hid (rows_mv HI1.out hb)
        clear hb ht2
        have hr2 := readR_any T w6 (tabs_below HT.out HB6.out) (HP.out.below HB6.out) htl2
        rw [← HSAME.out] at hr2
        go_wp2_with fail
        refine hr2.mono ?_
        rintro e w6b ⟨v2, rfl, hO2, hb⟩
        have HB6b := Lib.hid (HB6.out.trans (hb.mono HB6.out.size))
        obtain ⟨a2, c2, rfl⟩ := own_slice hO2
        have HJ1 := Lib.hid (rwP_in hO2)
        have HI3 := Lib.hid (rows_mv HI2.out hb)
        clear hb hr2 hO2
        have hrt := right_any ra n rc xs w6b (tabs_below HT.out HB6b.out) HN.out hn3 HFW.out (rows_mv HX.out HB6b.out)
        by_cases hrl : rightLs 0 xs = true
        · have HXL : Hid (l = xs) := by
            refine (?_ : _ = _)
            exact Option.some.inj (HRR.out hrl)
          rw [hrl] at hrt
          clear hrl
          go_wp2_with fail
          refine hrt.mono ?_
          rintro e w6c ⟨rfl, hb⟩
          have HB6c := Lib.hid (HB6b.out.trans (hb.mono HB6b.out.size))
          have HJ2 := Lib.hid (rows_mv HJ1.out hb)
          have HI4 := Lib.hid (rows_mv HI3.out hb)
          clear hb hrt
          have hsr := sameRows_any a2 ra l.length n c2 rc l xs (fun b => b < w6c.heap.size) w6c rfl HN.out hll hn3 HJ2.out (rows_mv HX.out HB6c.out)
          rw [decide_eq_true HXL.out] at hsr
          go_wp2_with fail
          refine hsr.mono ?_
          rintro e w7 ⟨rfl, hb⟩
          have HB7 := Lib.hid (HB6c.out.trans (hb.mono HB6c.out.size))
          have HJ3 := Lib.hid (rows_mv HJ2.out hb)
          have HI5 := Lib.hid (rows_mv HI4.out hb)
          clear hb hsr
          have ho := ours_any a1 l.length c1 l w7 rfl hll HI5.out
          go_wp2_with fail
          refine ho.mono ?_
          rintro e w8 ⟨v, rfl, hO, hb⟩
          have HB8 := Lib.hid (HB7.out.trans (hb.mono HB7.out.size))
          obtain ⟨va, vc, rfl⟩ := own_slice hO
          have hs := sameRows_any va a2 l.length l.length vc c2 l l (fun b => b < w8.heap.size) w8 rfl rfl hll hll (rwP_in hO) (rows_mv HJ3.out hb)
          rw [decide_eq_true rfl] at hs
          clear hb ho hO
          go_wp2_with fail
          refine hs.mono ?_
          rintro e w9 ⟨rfl, hb⟩
          have HB9 := Lib.hid (HB8.out.trans (hb.mono HB8.out.size))
          clear hb hs
          go_wp2_with fail
          go_ret
          exact ⟨rfl, HB9.out⟩
        · rw [Bool.eq_false_iff.2 hrl] at hrt
          clear hrl
          go_wp2_with fail
          refine hrt.mono ?_
          rintro e w7 ⟨rfl, hb⟩
          have HB7 := Lib.hid (HB6b.out.trans (hb.mono HB6b.out.size))
          have HJ2 := Lib.hid (rows_mv HJ1.out hb)
          have HI4 := Lib.hid (rows_mv HI3.out hb)
          clear hb hrt
          have ho := ours_any a1 l.length c1 l w7 rfl hll HI4.out
          go_wp2_with fail
          refine ho.mono ?_
          rintro e w8 ⟨v, rfl, hO, hb⟩
          have HB8 := Lib.hid (HB7.out.trans (hb.mono HB7.out.size))
          obtain ⟨va, vc, rfl⟩ := own_slice hO
          have hs := sameRows_any va a2 l.length l.length vc c2 l l (fun b => b < w8.heap.size) w8 rfl rfl hll hll (rwP_in hO) (rows_mv HJ2.out hb)
          rw [decide_eq_true rfl] at hs
          clear hb ho hO
          go_wp2_with fail
          refine hs.mono ?_
          rintro e w9 ⟨rfl, hb⟩
          have HB9 := Lib.hid (HB8.out.trans (hb.mono HB8.out.size))
          clear hb hs
          go_wp2_with fail
          go_ret
          exact ⟨rfl, HB9.out⟩
end Go.Proofs.YtgfpoglbphceaaaGreatDoor
