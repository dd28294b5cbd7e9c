/-
  The walk over the law StubReads.
  The walks over both Emits: a schema's text of stubs.
  The walk over the law StubRows.
-/
import Derived.Test.YtkhnicppcbgdiaaGreatDoorM32
import Derived.Test.YtkhnicppcbgdiaaGreatDoorM33
import Derived.Test.YtkhnicppcbgdiaaGreatDoorM34
import Derived.Test.YtkhnicppcbgdiaaGreatDoorM24
import Derived.Test.YtkhnicppcbgdiaaGreatDoorM21
namespace Go.Proofs.YtkhnicppcbgdiaaGreatDoor
set_option linter.unusedVariables false
open Go.ChangeShapes Go.WideShapes Go.ChangeAt Go.RowKit

theorem rwP_in {w : World} {base T : Nat} {v : Value} {xs : List Rw} (h : OwnRw w base T v xs) : RowsIn w (fun b => b < w.heap.size) 5 rrow v xs := rowsIn_own rrow_len h _ fun b hv => (own_block h b hv).2
theorem rows_mv {w W : World} {v : Value} {xs : List Rw} (h : RowsIn w (fun b => b < w.heap.size) 5 rrow v xs) (hb : Below w.heap.size w W) : RowsIn W (fun b => b < W.heap.size) 5 rrow v xs :=
  (h.old fun b h => hb.block b h).more fun b h => by have hb' : b < w.heap.size := h; have := hb.size; omega
theorem readP_fit {t : List UInt8} {l : List Rw} (h : readP t = some l) (ht : t.length ≤ 1000000) : l.length ≤ 1000000 := by
  unfold readP at h
  cases hf : runSt stP [] (segs t.length t) with
  | none => rw [hf] at h; cases h
  | some l' =>
    rw [hf] at h
    simp only at h
    split at h
    · simp only [Option.some.injEq] at h
      subst h
      have := (foundP_right hf).2.2
      omega
    · cases h
set_option maxHeartbeats 8000000 in
set_option maxRecDepth 20000 in
theorem stubReads_any (t : List UInt8) (w : World) (hT : Tabs w) (hP : Pow w) (hM : Mx w) (hsz : t.length ≤ 9223372036854775807) :
    Calls Tryz.prog 15 #[.string (mkB t)] w fun e w' => e = .returned (.bool true) ∧ Below w.heap.size w w' := by
  have HT := Lib.hid hT
  have HP := Lib.hid hP
  have HM := Lib.hid hM
  have hA := awake13_any w hM
  have hz := mkB_sz t
  have hzi : ((mkB t).size : Int) = (t.length : Int) := by rw [hz]
  clear hT hP hM
  go_enter Tryz.func15, Tryz.ntmps15
  go_wp2_with fail
  refine hA.mono ?_
  rintro e w1 ⟨rfl, hb⟩
  have HB1 := Lib.hid hb
  clear hA hb
  by_cases hl : 40000 < t.length
  · have hli : (40000 : Int) < (t.length : Int) := by omega
    have hA2 := awake13_any w1 (HM.out.below HB1.out)
    go_wp2_with fail
    refine hA2.mono ?_
    rintro e w2 ⟨rfl, hb⟩
    go_wp2_with fail
    go_ret
    exact ⟨rfl, HB1.out.trans (hb.mono HB1.out.size)⟩
  · have hli : ¬ (40000 : Int) < (t.length : Int) := by omega
    have hr1 := readP_any t w1 (HM.out.below HB1.out) (HP.out.below HB1.out) (by omega)
    have HFIT : Hid (∀ l, readP t = some l → l.length ≤ 1000000) := fun l h => readP_fit h (by omega)
    have hsame := read_eq t
    obtain ⟨R, hR⟩ : ∃ R, readP t = R := ⟨_, rfl⟩
    rw [hR] at hr1 hsame HFIT
    clear hR
    go_wp2_with fail
    refine hr1.mono ?_
    intro e w2 hA2
    clear hr1
    cases R with
    | none =>
      obtain ⟨rfl, hb⟩ := hA2
      have HB2 := Lib.hid (HB1.out.trans (hb.mono HB1.out.size))
      have hr2 := readR_any t w2 (tabs_below HT.out HB2.out) (HP.out.below HB2.out) (by omega)
      rw [← hsame] at hr2
      clear hb HFIT hsame
      go_wp2_with fail
      refine hr2.mono ?_
      rintro e w3 ⟨rfl, hb⟩
      have HB3 := Lib.hid (HB2.out.trans (hb.mono HB2.out.size))
      have ho := ours_any none 0 0 [] w3 rfl (by omega) ⟨none, 0, rfl, Nat.le_refl _, .inl rfl⟩
      clear hb hr2
      go_wp2_with fail
      refine ho.mono ?_
      rintro e w4 ⟨v, rfl, hO, hb⟩
      have HB4 := Lib.hid (HB3.out.trans (hb.mono HB3.out.size))
      obtain ⟨va, vc, rfl⟩ := own_slice hO
      have hs := sameRows_any va none 0 0 vc 0 [] [] (fun b => b < w4.heap.size) w4 rfl rfl (by omega) (by omega) (rwP_in hO) ⟨none, 0, rfl, Nat.le_refl _, .inl rfl⟩
      rw [decide_eq_true rfl] at hs
      simp only [List.length_nil]
      clear hb ho hO
      go_wp2_with fail
      refine hs.mono ?_
      rintro e w5 ⟨rfl, hb⟩
      have HB5 := Lib.hid (HB4.out.trans (hb.mono HB4.out.size))
      clear hb hs
      go_wp2_with fail
      go_ret
      exact ⟨rfl, HB5.out⟩
    | some l =>
      obtain ⟨v1, rfl, hO1, hb⟩ := hA2
      have HB2 := Lib.hid (HB1.out.trans (hb.mono HB1.out.size))
      have hll := HFIT.out l rfl
      obtain ⟨a1, c1, rfl⟩ := own_slice hO1
      have HI1 := Lib.hid (rwP_in hO1)
      have hr2 := readR_any t w2 (tabs_below HT.out HB2.out) (HP.out.below HB2.out) (by omega)
      rw [← hsame] at hr2
      clear hb HFIT hsame hO1
      go_wp2_with fail
      refine hr2.mono ?_
      rintro e w3 ⟨v2, rfl, hO2, hb⟩
      have HB3 := Lib.hid (HB2.out.trans (hb.mono HB2.out.size))
      obtain ⟨a2, c2, rfl⟩ := own_slice hO2
      have HI2 := Lib.hid (rwP_in hO2)
      have HI3 := Lib.hid (rows_mv HI1.out hb)
      have ho := ours_any a1 l.length c1 l w3 rfl hll HI3.out
      clear hb hr2 hO2
      go_wp2_with fail
      refine ho.mono ?_
      rintro e w4 ⟨v, rfl, hO, hb⟩
      have HB4 := Lib.hid (HB3.out.trans (hb.mono HB3.out.size))
      obtain ⟨va, vc, rfl⟩ := own_slice hO
      have hs := sameRows_any va a2 l.length l.length vc c2 l l (fun b => b < w4.heap.size) w4 rfl rfl hll hll (rwP_in hO) (rows_mv HI2.out hb)
      rw [decide_eq_true rfl] at hs
      clear hb ho hO
      go_wp2_with fail
      refine hs.mono ?_
      rintro e w5 ⟨rfl, hb⟩
      have HB5 := Lib.hid (HB4.out.trans (hb.mono HB4.out.size))
      clear hb hs
      go_wp2_with fail
      go_ret
      exact ⟨rfl, HB5.out⟩
end Go.Proofs.YtkhnicppcbgdiaaGreatDoor
namespace Go.Proofs.YtkhnicppcbgdiaaGreatDoor
set_option linter.unusedVariables false
open Go.ChangeShapes Go.WideShapes Go.ChangeAt Go.RowKit

theorem fit_of_smallE {s : SC} (h : SmS s) : FitS s := by
  obtain ⟨h0, h1, h2, h3⟩ := h
  refine ⟨⟨by omega, by omega⟩, fun m hm => ?_, fun m hm => ?_, by omega, fun t ht => ?_⟩
  · obtain ⟨a, b, c⟩ := h1 m hm
    exact ⟨by omega, by omega, fun f hf => by have := c f hf; omega⟩
  · obtain ⟨a, b, c⟩ := h2 m hm
    exact ⟨by omega, by omega, fun f hf => by have := c f hf; omega⟩
  · obtain ⟨a, b⟩ := h3 t ht
    exact ⟨by omega, by omega⟩
theorem good_of {s : SC} (h : FormS s) {k : Nat} {t : TD} (ht : s.ts[k]? = some t) : t.id = (k : Int) + 1 ∧ plainL t.service = true := by
  have h1 := h.1
  unfold formS at h1
  simp only [Bool.and_eq_true] at h1
  have h2 : formT s.ms.length s.ts = true := by
    exact h1.2.2.2.2
  have h3 := allA_iff.1 h2 k t ht
  unfold goodT at h3
  simp only [Bool.and_eq_true, decide_eq_true_iff] at h3
  exact ⟨h3.1, h3.2.1⟩
theorem nmAt_len {ms : List MD} (h : ∀ m ∈ ms, m.name.length ≤ 100000) (i : Int) : (nmAt ms i).length ≤ 100000 := by
  unfold nmAt
  split
  · rename_i m hm
    exact h m (List.mem_of_getElem? hm)
  · simp
theorem rows_fit {s : SC} (hf : FitS s) (h : FormS s) : ∀ r ∈ rowsL s, FitRw r := by
  intro r hr
  obtain ⟨k, hk⟩ := List.getElem?_of_mem hr
  unfold rowsL at hk
  rw [List.getElem?_map] at hk
  obtain ⟨t, ht, rfl⟩ := Option.map_eq_some_iff.1 hk
  have hkl := (List.getElem?_eq_some_iff.1 ht).1
  have hid := (good_of h ht).1
  have hl := hf.2.2.2.1
  have c1 := camC_len t.service
  have c2 := camC_len t.name
  have c3 := nmAt_len (fun m hm => (hf.2.1 m hm).1) t.inp
  have c4 := nmAt_len (fun m hm => (hf.2.1 m hm).1) t.out
  refine ⟨?_, ?_, ?_, ?_, ?_⟩
  · show -9223372036854775808 ≤ t.id ∧ t.id ≤ 9223372036854775807
    omega
  · show (camC t.service).length ≤ 1000000
    omega
  · show (camC t.name).length ≤ 1000000
    omega
  · show (undL (nmAt s.ms t.inp)).length ≤ 1000000
    rw [undL_len]; omega
  · show (undL (nmAt s.ms t.out)).length ≤ 1000000
    rw [undL_len]; omega
theorem camC_ne {l : List UInt8} (h : plainL l = true) : camC l ≠ [] := by
  unfold plainL at h
  rw [Bool.and_eq_true] at h
  have hn : nameOf (runes (mkB l)) = true := h.1
  unfold camC
  rw [if_pos hn]
  have h2 := hn
  unfold nameOf at h2
  simp only [Bool.and_eq_true, decide_eq_true_iff] at h2
  cases hr : runes (mkB l) with
  | nil => rw [hr] at h2; simp at h2
  | cons r t =>
    rw [hr] at h2
    have hl : isLetter r = true := h2.1.2
    have h95 : r ≠ 95 := by
      intro e
      subst e
      revert hl
      decide
    intro e
    rw [camelL, if_neg h95] at e
    have h5 := encL_lenK ((if (true && isSmall r) = true then r - 32 else r) :: camelL false t)
    rw [e] at h5
    simp at h5
theorem text_two {s : SC} (h : FormS s) : textT (some []) (rowsL s) = textT none (rowsL s) := by
  refine (textT_first _ fun r hr => ?_).symm
  obtain ⟨k, hk⟩ := List.getElem?_of_mem hr
  unfold rowsL at hk
  rw [List.getElem?_map] at hk
  obtain ⟨t, ht, rfl⟩ := Option.map_eq_some_iff.1 hk
  exact camC_ne (good_of h ht).2
/-- what Emit answers -/
def EmAns (s : SC) (w : World) (e : Ending) (w' : World) : Prop := ∃ t c, e = .returned (.tuple #[.string (mkB t), .int .i64 c]) ∧ (¬ FormS s → t = [] ∧ c = 1) ∧ (FormS s → ClashS s → t = [] ∧ c = 9) ∧ (FormS s → ¬ ClashS s → t = textT none (rowsL s) ∧ c = 0) ∧ Below w.heap.size w w'
set_option maxHeartbeats 16000000 in
set_option maxRecDepth 20000 in
theorem emitP_any (ma ea ta : Option Addr) (nm ne nt mc ec tc : Nat) (s : SC) (w : World) (hT : Tabs w) (hP : Pow w) (hM : Mx w) (hnm : s.ms.length = nm) (hne : s.es.length = ne) (hnt : s.ts.length = nt) (hf : FitS s) (hH : HeldSc w (fun b => b < w.heap.size) (.slice ma nm mc) (.slice ea ne ec) (.slice ta nt tc) s) :
    Calls Tryz.prog 8 #[.agg #[.slice ma nm mc, .slice ea ne ec, .slice ta nt tc]] w fun e w' => EmAns s w e w' := by
  have HT := Lib.hid hT
  have HP := Lib.hid hP
  have HM := Lib.hid hM
  have HNM := Lib.hid hnm
  have HNE := Lib.hid hne
  have HNT := Lib.hid hnt
  have HF := Lib.hid hf
  have hntl : nt ≤ 1000000 := by have := hf.2.2.2.1; omega
  obtain ⟨Y, hY, hC, hb, hYs⟩ := box_new w #[.slice ma nm mc, .slice ea ne ec, .slice ta nt tc] 26
  have HY := Lib.hid hY
  have HB := Lib.hid hb
  have HC := Lib.hid hC
  have hHY : HeldSc Y (fun b => b < Y.heap.size) (.slice ma nm mc) (.slice ea ne ec) (.slice ta nt tc) s := heldSc_mvS hH hb
  have HHY : Hid (∀ W, Below Y.heap.size Y W → HeldSc W (fun b => b < W.heap.size) (.slice ma nm mc) (.slice ea ne ec) (.slice ta nt tc) s) := fun W hW => heldSc_mvS hHY hW
  have HW : Hid (∀ W, Below Y.heap.size Y W → Below w.heap.size w W) := fun W hW => HB.out.trans (hW.mono HB.out.size)
  have HCW : Hid (∀ W, Below Y.heap.size Y W → W.heap[w.heap.size]? = some (.cells #[.slice ma nm mc, .slice ea ne ec, .slice ta nt tc] 26 (0, 0))) := fun W h => (h.block _ (by omega)).trans HC.out
  have hFo := formP_any ma ea ta nm ne nt mc ec tc s Y hnm hne hnt hf hHY
  have c0 := cell_at hC 0 rfl
  have c1 := cell_at hC 1 rfl
  have c2 := cell_at hC 2 rfl
  clear hY hC hb hH hHY hT hP hM hnm hne hnt hf
  go_enter Tryz.func8, Tryz.ntmps8
  go_upto_region 1 with fail
  rw [HY.out]
  go_wp2_with fail
  refine hFo.mono ?_
  rintro e w1 ⟨b, rfl, hbf, hb1⟩
  have HB1 := Lib.hid hb1
  have HBF := Lib.hid hbf
  clear c0 c1 c2 hb1 hbf hFo
  have d0 := cell_at (HCW.out w1 HB1.out) 0 rfl
  have d1 := cell_at (HCW.out w1 HB1.out) 1 rfl
  have d2 := cell_at (HCW.out w1 HB1.out) 2 rfl
  cases b
  case false =>
    have HN : Hid (¬ FormS s) := fun h => by have := HBF.out.2 h; cases this
    clear HBF
    go_wp2_with fail
    go_ret2
    exact ⟨[], 1, rfl, fun _ => ⟨rfl, rfl⟩, fun h => absurd h HN.out, fun h => absurd h HN.out, HW.out _ HB1.out⟩
  case true =>
    have HN : Hid (FormS s) := HBF.out.1 rfl
    clear HBF
    have hr := rowsOf_any ma ea ta nm ne nt mc ec tc s w1 (HM.out.below (HW.out _ HB1.out)) HNM.out HNE.out HNT.out HF.out (inT_of HN.out) (HHY.out _ HB1.out)
    go_wp2_with fail
    refine hr.mono ?_
    rintro e w2 ⟨v, rfl, hO, hb2⟩
    have HB2 := Lib.hid (HB1.out.trans (hb2.mono HB1.out.size))
    obtain ⟨ra, rc, rfl⟩ := own_slice hO
    have hrl : (rowsL s).length = nt := by unfold rowsL; rw [List.length_map, HNT.out]
    have hRI : RowsIn w2 (fun b => b < w2.heap.size) 5 rrow (.slice ra (rowsL s).length rc) (rowsL s) := rwP_in hO
    rw [hrl] at hRI ⊢
    have HRI := Lib.hid hRI
    have HRL := Lib.hid hrl
    clear hr hO hb2 d0 d1 d2 hRI hrl
    have d0 := cell_at (HCW.out w2 HB2.out) 0 rfl
    have d1 := cell_at (HCW.out w2 HB2.out) 1 rfl
    have d2 := cell_at (HCW.out w2 HB2.out) 2 rfl
    have hc := twice_any ma ea ta ra nm ne nt mc ec tc rc s w2 (HM.out.below (HW.out _ HB2.out)) HNM.out HNT.out HF.out (HHY.out _ HB2.out) HRI.out
    go_wp2_with fail
    refine hc.mono ?_
    rintro e w3 ⟨b, rfl, hbf, hb3⟩
    have HB3 := Lib.hid (HB2.out.trans (hb3.mono HB2.out.size))
    have HBF := Lib.hid hbf
    have HRI3 := Lib.hid (rows_mv HRI.out hb3)
    clear hc hb3 hbf d0 d1 d2 HRI
    cases b
    case true =>
      have HC2 : Hid (ClashS s) := HBF.out.1 rfl
      go_wp2_with fail
      go_ret2
      exact ⟨[], 9, rfl, fun h => absurd HN.out h, fun _ _ => ⟨rfl, rfl⟩, fun _ h => absurd HC2.out h, HW.out _ HB3.out⟩
    case false =>
      have HC2 : Hid (¬ ClashS s) := fun h => by have := HBF.out.2 h; cases this
      have ht := written_any ra nt rc (rowsL s) w3 (HP.out.below (HW.out _ HB3.out)) HRL.out hntl (rows_fit HF.out HN.out) HRI3.out
      go_wp2_with fail
      refine ht.mono ?_
      rintro e w4 ⟨rfl, hb4⟩
      have HB4 := Lib.hid (HB3.out.trans (hb4.mono HB3.out.size))
      clear ht hb4
      go_wp2_with fail
      go_ret2
      exact ⟨_, 0, rfl, fun h => absurd HN.out h, fun _ h => absurd h HC2.out, fun _ _ => ⟨text_two HN.out, rfl⟩, HW.out _ HB4.out⟩
end Go.Proofs.YtkhnicppcbgdiaaGreatDoor
namespace Go.Proofs.YtkhnicppcbgdiaaGreatDoor
set_option linter.unusedVariables false
open Go.ChangeShapes Go.WideShapes Go.ChangeAt Go.RowKit

theorem mkB_zI (l : List UInt8) : ((mkB l).size : Int) = (l.length : Int) := by rw [mkB_sz]
end Go.Proofs.YtkhnicppcbgdiaaGreatDoor
